import PyProof.Rows.All
import Wide.All
import OpenK.AllK
import Wide.FinOn
import Lean
import PyProof.EqAt
import PyProof.EqKinds
import PyProof.TupleCall
import KE.KSortTup
import KE.KItemsList
import KE.KDictList
import PyProof.AttrMissHeap
import KE.KDictOf
import PyProof.NeKinds
import PyProof.IsiHeapPairs
import PyProof.IsiSeqPairs
import PyProof.SetKind
import PyProof.Rows.SetFrom
import PyProof.DictIter
import PyProof.CollectWalk
import PyProof.DictWalks
import PyProof.FactsAll.subtypes_5
import PyProof.IsiTupleOf
import PyProof.IsiPairs
import PyProof.Draws
import PyProof.EnumMake
import PyProof.WalksMore
import KE.KRevIter
import PyProof.ListRange
import PyProof.StrWalks
import PyProof.DictUpdate
import PyProof.NsDelKeeps
import PySem.Challenge.RW_copiedhouse_k72_joins_exchanged
open PySem renaming Value->aa,Addr->ac,wpAny_bind->ad,Obj->af,Shared->ai,sizeLine->ak,wpAny->ay,wpAny_pure->az,model->bc,FuncData->bu,Program->ce,World->ci,Heap->cn,Stmt->cu,Around->cw,sizeLine_eq->di,wpAny_holding->dj,boot_len->dn,mainGlobals->dz,wpAny_Call_Name_kw->ef,Pos->fe,builtinLookup_eq_fast->fm,Params->fq,wpAny_newObj_type->gw,wpAny_loadPart_at->gx,wpAny_standAt->ia,wpAny_field->ij,typeLookup_type->ik,mem_of_lookup->ix,wpAny_specialOf->ja,excClassObj->jj,wpAny_of_eq->jq,isSubtype_type->jw,wpAny_mono->jy,wpAny_execs_nil->jz,codeAny->kf,codeAny_mono->lj,Scope->ll,wpAny_passesOwn->lm,wpAny_attempt->ln,wpAny_call->lw,Env->ly,OsState->lz,wpAny_call_entry->ma,wpAny_isInstance->mf,wpAny_isSubtype_exc->mj,wpAny_callSpecial?_slot->ml,wpAny_getItem_str_slice->mm,plainId_quiet->mt,wpAny_typeOf->nj,wpAny_execs_cons->nq,call_meets->nu,Tok->nv,codeAny_builtin->ny,tupleKind_room_in1->om,sub_AttributeError->oo,wpAny_rule->oy,wpAny_truthy_bool->pd,post_val_or_str->qm,codeAny_call_builtin->qo,wpAny_ite_split->qp,callType_codes->rg,DictEntry->rq,stored->rz,wpAny_setField_rec->sf,wpAny_newFunctionEnv_cells->sv,slot_list_getitem->tz,list_append->ua,GenState->uk,noFill_tuple_add->um,wpAny_getItem_list_slice->uo,wpAny_comprehension_free->ut,entryFor_of_tree->uu,wpAny_updateSeq->vf,wpAny_pyNext_list_item->vj,codeAny_compStart_list->vm,wpAny_pyNext_list_end->vq,codeAny_call_function->vw,wpAny_notOrdered_dict->vz,getitemInPython_of_ne->wa,wpAny_setField->we,arm_exec_Raise->wf,wpAny_newFunctionEnv->wp,entryFor->wq,wpAny_letTemporaryGo->wz,seq_tuple_add->xf,evalPart_none->xg,signature?_of->xh,wpAny_dictSet_pairs->xj,concat_meets->xr,seqIndex_neg->xt,wpAny_mkText->xu,seqIndex_of->yj
open List renaming length_map->ae,getElem?_eq_some_iff->ah,mem_append_right->aj,length_append->am,mem_singleton->ao,mem_append->aq,mem_iff_getElem?->au,map_cons->av,mem_cons_self->aw,mem_append_left->ax,getElem?_append_right->ba,map_append->bb,mem_cons_of_mem->bf,append_assoc->bi,nodup_append->bj,mem_cons->bo,size_toArray->bq,getElem?_map->br,length_cons->bv,getElem?_append_left->bw,map_map->bx,getElem?_eq_getElem->bz,mem_map->cb,mem_map_of_mem->cg,take_of_length_le->ck,filterMap_cons->cp,length_singleton->cr,mem_filterMap->cy,length_take->cz,append_nil->da,find?_cons->db,pairwise_iff_getElem->df,getElem?_inj->dg,mem_of_getElem?->dh,length_set->dq,take_length->du,getElem?_set_self->dv,getElem?_set_ne->dw,nodup_cons->fg,mem_flatMap->fh,flatMap_cons->fk,take_append_drop->fo,getElem?_take_of_lt->gc,length_reverse->gd,foldl_cons->gj,filterMap_append->gl,set_append_right->gm,perm_append_comm->gu,getElem_cons_drop->ic,append_of_mem->il,cons_append->io,mem_of_mem_tail->iq,reverse_append->iy,length_pos_iff->iz,nil_append->jc,map_nil->jf,getElem_mem->jg,any_cons->ji,take_sublist->jk,mem_filter->jl,length_nil->jm,length_replicate->jv,mem_of_mem_take->kb,map_take->kg,take_append_of_le_length->ki,getElem?_replicate->kj,eraseIdx_cons_succ->km,map_congr_left->ko,flatMap_append->kq,length_drop->kx,filter_cons->ky,all_eq_true->la,getElem_map->le,perm_append_singleton->lr,lookup_cons->md,not_mem_nil->mi,length_eraseIdx_le->mo,getElem?_cons_succ->mq,all_cons->mr,contains_cons->my,drop_of_length_le->nc,reverse_cons->ng,idxOf_lt_length_of_mem->np,filterMap_map->ol,mem_of_mem_eraseIdx->ot,getElem?_take->ou,getElem?_cons_zero->pc,length_range->pf,map_drop->pp,any_eq_true->pw,map_reverse->pz,mem_reverse->qa,flatMap_map->qb,length_filter_le->qd,eraseIdxIfInBounds_toArray->qh,of_mem_zip->qi,getElem_of_mem->qy,toList_toArray->rb,mem_range->rf,getElem?_drop->sk,find?_eq_none->so,sum_cons->tq,getD_eq_getElem?_getD->tx,idxOf_append->uc,getElem?_eq_none_iff->ud,mem_of_find?_eq_some->ug,drop_eq_getElem_cons->uh,append_cancel_left->vb,range_succ_eq_map->vo,getElem?_eraseIdx->vp,dropLast_eq_take->wb,singleton_append->wc,pairwise_flatMap->wg,take_take->wj,set_getElem_self->wl,length_dropLast->wo,drop_eq_nil_iff->wv,mem_erase_of_ne->xb,reverse_reverse->xc,replicate_succ->xo,all_map->xy,getElem_range->yb,foldl_append->yf,filter_congr->yg,find?_append->yi,getElem_set->yn,flatMap_nil->yo,sum_append->yt,filter_map->yu,drop_zero->yy,take_succ->yz,drop_take->za,take_zero->zb
open PySem.Heap renaming get?_push_of_some->ap,lt_size->be,get?_update_other->cj,get?_push_size->cm,get?_update_self->fb,size_push->kz
open Nat renaming le_refl->ar,le_trans->bh,lt_of_lt_of_le->bp,ne_of_lt->bt,zero_le->fv,ne_of_gt->gk,lt_irrefl->gz,sub_self->ig,lt_trans->ir,le_succ->iu,lt_of_le_of_lt->mz,min_eq_left->og,le_of_lt->oi,lt_succ_self->pq,min_eq_right->pr,le_of_eq->ur,le_total->ux,mul_le_mul_right->xa,zero_add->xw,lt_trichotomy->yh,succ_le_succ->yl,le_of_not_lt->ym,not_lt->yr
open Option.some renaming inj->cf
open PySem.F renaming plainAttrs_list->cq,slot_list_append->dk,type_list_append->dm,slot_tuple_getattribute->nz,args_tuple_add_2->oj,slot_list_getattribute->oq,entry_tuple_add->pb,slot_tuple_add->pi,slot_list_pop->qf,type_list_pop->qg,args_list_append_2->qj,entry_list_append->qu,slot_list_append->rp,excBase_ValueError->sw,slot_dict_getitem->ue,plain_extend_loop->uf,slot_dict_update->uy,slot_list_extend->uz,type_list_extend->va,plainAttrs_dict->vc,slot_dict_pop->vx,plain_reversed_new->wu,kt_typeCall_dict_1->wx,args_dict_init_2->xv,entry_dict_init->ye
open PySem.PassesOwn renaming never->dy
open Option renaming some_ne_none->fc,bind_some->mh,isSome_map->ub,isSome_iff_exists->ul,map_some->vg,getD_none->yk
open Ne renaming symm->fw
open Bool renaming false_ne_true->fz,and_eq_true->im,and_eq_true_iff->kc,false_eq_true->mw,and_true->sy,or_true->yc,eq_iff_iff->yq,false_and->yw,and_false->yx
open PyProof.Rows renaming slot_tuple_getitem->gy,assignInOrder_cons->rh,slot_tuple_getitem->rn,boot_isinstance->vh,subscriptTail_builtinR->vk,len_tuple->vn,entry_tuple_getitem->xi
open List.Perm renaming append_right->ib,append_left->ii,of_eq->qr
open PySem.W.Fast renaming te14364793385576792824->ie
open PySem.Str renaming length_append->iw
open Array renaming getElem?_toList->jd,length_toList->jo,getElem?_eq_some_iff->ju,mem_toList_iff->wy
open PySem.Paired renaming length->jh
open Sum.inr renaming inj->jp
open PySem.Calls renaming spliced_cons->lh,spliced_nil->lu,callWith_builtin->pk,Name_function_global->su,evalArgs_plain->wn
open List.cons renaming inj->lq
open PySem.Around renaming under_plainId->lx
open PySem.W.Looks renaming here->mx
open PySem.Obj renaming data_mapFields->or,isFreed_of_fields->qe
open Int renaming emod_lt_of_pos->ow,emod_nonneg->qt,natCast_nonneg->ya,toNat_natCast->yd
open Sum.inl renaming inj->ph
open Int.ofNat renaming inj->po
open PySem.Txt renaming slice_le->ql
open PySem.W renaming kitOne->sj,looks_findIn->uv,mg_of->vi,cellsFrom_some->vt,callWith_K->wm,looks_clsIn->xl,looks_mroIn->xm,callWith_K0->xn
open PySem.IsL renaming update->uq
open PySem.SeqAt.RcAt renaming lists_lengths->uw
open PySem.SeqAt.EqAt renaming same->vd,int_str->xp,str_int->xq,of_refs->xz
open PySem.Heap.DictOf renaming new->ve
open PySem.StrLaws renaming glued_eq_join->vy
open PySem.Code renaming quiet_builtin->xx
open PySem.W (Frag InstAt callWith_K cellsFrom_some check_slot clsIn codeIn codeRec_of findCls findIn findObj fnOf isFn keepIn kitAny kitMeta kitOne looks_findIn methodObj mg_of mroIn nsIn readsIn specialIn subIn takesIn)
open PyProof.Rows (boot_isinstance callWith_type1)
set_option compiler.extract_closed false
local macro_rules | `(tactic| grobner) => `(tactic| first | lia | omega)
local macro_rules | `(0#0) => `(by grobner)
local macro_rules | `(1#0) => `(by decide +kernel)
local macro_rules | `(2#0) => `(by decide)
local macro_rules | `(3#0) => `(by simp)
local macro_rules | `(4#0) => `(by rfl)
local macro_rules | `(0#1) => `("_law_box_here")
local macro_rules | `(1#1) => `("law_copiedhouse_k72_joins_exchanged")
local macro_rules | `(2#1) => `("copiedhouse.errors")
local macro_rules | `(3#1) => `("_law_program_here")
local macro_rules | `(4#1) => `("program")
local macro_rules | `(5#1) => `("_law_leaves_here")
local macro_rules | `(6#1) => `("reversed")
local macro_rules | `(7#1) => `("__init__")
local macro_rules | `(8#1) => `("_law_script")
local macro_rules | `(9#1) => `("BaseException.__getattribute__")
local macro_rules | `(10#1) => `("_law_things")
local macro_rules | `(11#1) => `("__debug__")
local macro_rules | `(12#1) => `("_law_manner_here")
local macro_rules | `(13#1) => `("abcdefghijklmnopqrstuvwxyz")
local macro_rules | `(14#1) => `("list")
local macro_rules | `(15#1) => `("_law_name")
local macro_rules | `(16#1) => `("copiedhouse.looker")
local macro_rules | `(17#1) => `("look_at_named_hand")
local macro_rules | `(18#1) => `("tuple")
local macro_rules | `(19#1) => `("BaseException")
local macro_rules | `(20#1) => `("in_order_of_hands")
local macro_rules | `(21#1) => `("_law_many")
local macro_rules | `(22#1) => `("ValueError.__new__")
local macro_rules | `(23#1) => `("_law_three_words")
local macro_rules | `(24#1) => `("_law_number_here")
local macro_rules | `(25#1) => `("_law_k")
local macro_rules | `(26#1) => `("_law_found")
local macro_rules | `(27#1) => `("ValueError")
local macro_rules | `(28#1) => `("join")
local macro_rules | `(29#1) => `("_law_plan")
local macro_rules | `(30#1) => `("__getattribute__")
local macro_rules | `(31#1) => `("split")
local macro_rules | `(32#1) => `("named_by_hands")
local macro_rules | `(33#1) => `("manners")
local macro_rules | `(34#1) => `("look_for_twice")
local macro_rules | `(35#1) => `("look_at_splits")
local macro_rules | `(36#1) => `("in_split_order")
local macro_rules | `(37#1) => `("object.__class__")
local macro_rules | `(38#1) => `("_law_rows")
local macro_rules | `(39#1) => `("reversed.__length_hint__")
local macro_rules | `(40#1) => `("look_at_term")
local macro_rules | `(41#1) => `("look_at_shelf")
local macro_rules | `(42#1) => `("look_at_joins")
local macro_rules | `(43#1) => `("look_at_doing")
local macro_rules | `(44#1) => `("_law_at")
local macro_rules | `(45#1) => `("_law_any_term")
local macro_rules | `(46#1) => `("_law_kinds")
local macro_rules | `(47#1) => `("look_at_rows")
local macro_rules | `(48#1) => `("held_at_ends")
local macro_rules | `(49#1) => `("first_called")
local macro_rules | `(50#1) => `("_law_swapped")
local macro_rules | `(51#1) => `("_law_shelves")
local macro_rules | `(52#1) => `("_law_program")
local macro_rules | `(53#1) => `("range")
local macro_rules | `(54#1) => `("_law_calm")
local macro_rules | `(55#1) => `("held_behind")
local macro_rules | `(56#1) => `("_law_number")
local macro_rules | `(57#1) => `("_law_manner")
local macro_rules | `(58#1) => `("_law_leaves")
local macro_rules | `(59#1) => `("_law_uses")
local macro_rules | `(60#1) => `("MANNERS_OF_TERMS")
local macro_rules | `(61#1) => `("MANNERS_OF_DEEDS")
local macro_rules | `(62#1) => `("hand_named")
local macro_rules | `(63#1) => `("_law_words")
local macro_rules | `(64#1) => `("_law_hands")
local macro_rules | `(65#1) => `("_law_begin")
local macro_rules | `(66#1) => `("word")
local macro_rules | `(67#1) => `("__length_hint__")
local macro_rules | `(68#1) => `("exchanged")
local macro_rules | `(69#1) => `("_law_word")
local macro_rules | `(70#1) => `("_law_term")
local macro_rules | `(71#1) => `("_law_held")
local macro_rules | `(72#1) => `("_law_hand")
local macro_rules | `(73#1) => `("row")
local macro_rules | `(74#1) => `("_law_held_here")
local macro_rules | `(75#1) => `("_law_calm_uses")
local macro_rules | `(76#1) => `("dict")
local macro_rules | `(77#1) => `("_law_told")
local macro_rules | `(78#1) => `("_law_take")
local macro_rules | `(79#1) => `("_law_room")
local macro_rules | `(80#1) => `("_law_join")
local macro_rules | `(81#1) => `("_law_deed")
local macro_rules | `(82#1) => `("NotHeld.__init__")
local macro_rules | `(83#1) => `("getset_descriptor.__get__")
local macro_rules | `(84#1) => `("told")
local macro_rules | `(85#1) => `("type.__call__")
local macro_rules | `(86#1) => `("_law_words_here")
local macro_rules | `(87#1) => `("NoTurn.__init__")
set_option hygiene false
local macro_rules | `(0#2) => `([some (PV.lst (ns.map PV.int)),some (.int at'),some (.obj 4),some (.int (n:Int)),some (.obj (m0.length+5)),some (.tup [.lst (shl.map y7),.lst (shl.map y7)]),some (.obj (m0.length+6)),some (.obj (m0.length+7)),v8,v9,v10])
local macro_rules | `(1#2) => `((bc X.prog X.w))
local macro_rules | `(2#2) => `((qk y3 hr1 y6 zS y4 (z3 (qv 0) (z3 z6 z7))))
local macro_rules | `(3#2) => `((qx hr (qv 0) z6))
local macro_rules | `(4#2) => `((mF (n:=50) r r2 r3 r4 (λx y v w vv ww h1 h2=>gK I 50 X.A.in1 x y v w vv ww (by show X.A.units+1+50 < cLine;grobner) h1 0#0 h2) (by unfold zE at h1;grobner) (by unfold zE at h2;grobner)))
local macro_rules | `(5#2) => `((.obj st.length))
local macro_rules | `(6#2) => `((zB names))
local macro_rules | `(7#2) => `((xL X scope (N'++own) C s H fp zc))
local macro_rules | `(8#2) => `((.ListComp Aw [⟨zh,zo,Ak,0⟩] scope pos))
local macro_rules | `(9#2) => `((bc prog w))
local macro_rules | `(0#3) => `([8#1,44#1,46#1,54#1,64#1,0#1,86#1,"_law_names",10#1,51#1,25#1,12#1,21#1,59#1,29#1,"_law_others","_law_turn"])
local macro_rules | `(1#3) => `((xL X scope (N'++own) C s2 H2 fp zc))
local macro_rules | `(2#3) => `((z8×PV))
local macro_rules | `(3#3) => `((zA a b))
local macro_rules | `(4#3) => `((m0++ [zA a b,.lst (rs.map Rh.pv),.lst (hd.map yR)]))
local macro_rules | `(5#3) => `((false,eval e X.env))
local macro_rules | `(6#3) => `((ws.map PV.str))
local macro_rules | `(7#3) => `((ac×af))
local macro_rules | `(8#3) => `((x==(11#1 :Str)))
local macro_rules | `(9#3) => `((.lst xs))
local macro_rules | `(0#4) => `((uA (uI hr) (qv 2) zG (λ_ _=>rfl)))
local macro_rules | `(1#4) => `((starEach es X.env))
local macro_rules | `(2#4) => `((.dct kvs))
local macro_rules | `(3#4) => `((.Call (.Name x p) (e::es) [] pos))
local macro_rules | `(4#4) => `((false,eval (.Call (.Name 6#1 p2) [e] [] zy) X.env))
local macro_rules | `(5#4) => `((h.2.map Rh.pv))
local macro_rules | `(6#4) => `((.Call (.Name x p) (a::as) [] zv))
local macro_rules | `(7#4) => `((EP X zc σ Q))
local macro_rules | `(8#4) => `([.Call (.Name 6#1 p2) [e] [] zy])
local macro_rules | `(9#4) => `((zK X.K Ta))
local macro_rules | `(0#5) => `((notedBy 9#2 A env λe s'=>R (.error e) s'))
local macro_rules | `(1#5) => `((sIx items.size items.size hi - sIx items.size 0 lo))
local macro_rules | `(2#5) => `((kvs.map λq=>(q.1,rA A.length q.2)))
local macro_rules | `(3#5) => `([4#1,"H","k","rows","turned","hands",84#1])
local macro_rules | `(4#5) => `((kvs.any λkv=>decide (kv.1=k)))
local macro_rules | `(5#5) => `((.ref C))
local macro_rules | `(6#5) => `((qx hr (qv 5) z6))
local macro_rules | `(7#5) => `((y8 h.1 k))
local macro_rules | `(8#5) => `((vY (xF P w g) P w K mg base N qual scope f cd A outer s0 H0 E))
local macro_rules | `(9#5) => `((λr s'=>r= .ok (.ret (.bool true))/\OldK s₁.heap s'.heap/\s'.os=s₁.os/\AllBare s'.gens))
local macro_rules | `(0#6) => `((false,eval a X.env))
local macro_rules | `(1#6) => `((.int i))
local macro_rules | `(2#6) => `((sh.map y7))
local macro_rules | `(3#6) => `((jj nm q C N bs bm hdct sn sub ab col dd k0 k1 k2 k3 k5 newId))
local macro_rules | `(4#6) => `((.ref s.heap.objs.size))
local macro_rules | `(5#6) => `([.Tuple [.Name x px,.Name y py] kt pt])
local macro_rules | `(6#6) => `((uX scope.names X.env.cells))
local macro_rules | `(7#6) => `((E++E1))
local macro_rules | `(8#6) => `([.lst (shl.map y7),.lst (shl.map y7)])
local macro_rules | `(9#6) => `((.tup xs))
local macro_rules | `(0#7) => `((∀x c,X.env.cells.lookup x=some c->c≠b))
local macro_rules | `(1#7) => `((fnOf name qual params body scope dV kV doc pm an zr ct))
local macro_rules | `(2#7) => `([.tup (sh.map zV),.tup (hs.map zW)])
local macro_rules | `(3#7) => `((wG wL 4#0 M.len dn (z3 (qv 3) z7)))
local macro_rules | `(4#7) => `((qk IH hr tO tV tL (z3 (qv 0) (z3 (qv 1) (z3 (qv 5) (z3 (zN qX (qv 3) z6) z7))))))
local macro_rules | `(5#7) => `((HT.sIx xs.length xs.length hi - HT.sIx xs.length 0 lo))
local macro_rules | `(6#7) => `((λ_ _=>False))
local macro_rules | `(7#7) => `((.val (.bl _)))
local macro_rules | `(8#7) => `((notedBy 1#2 (X.A.mark (some (.ref e))) X.env (cameBackBy 1#2 X.A X.env X.xe)))
local macro_rules | `(9#7) => `((envOfC qual scope s.heap.objs.size f zr))
local macro_rules | `(0#8) => `((m0++ [zA a b,.lst (Am.map Rh.pv),.lst (hd2.map yR)]))
local macro_rules | `(1#8) => `((he zc s σ H _ I h))
local macro_rules | `(2#8) => `((.ref f))
local macro_rules | `(3#8) => `((zj.map yQ))
local macro_rules | `(4#8) => `((z3 (qv 2) z7))
local macro_rules | `(5#8) => `((Option aa))
local macro_rules | `(6#8) => `((.bl true))
local macro_rules | `(7#8) => `((kvs.map λq=>sA q.1))
local macro_rules | `(8#8) => `((j==NameKind.free&&env.scope.kind== .function&&env.kindOf n==some .cell))
local macro_rules | `(9#8) => `((.tup (kvs.map λq=>match q.1 with | .inl i=> .int i | .inr z=> .str z)))
local macro_rules | `(0#9) => `([0#1,5#1,79#1,"_law_deep"])
local macro_rules | `(1#9) => `((λ_ s'=> ∃σ' H',z4 X zc σ' H' s'/\Q σ' H'))
local macro_rules | `(2#9) => `((b∈X.ex∨X.s₀.heap.objs.size<=b))
local macro_rules | `(3#9) => `((List Int×Int))
local macro_rules | `(4#9) => `((.ref e))
local macro_rules | `(5#9) => `((.inl rfl))
local macro_rules | `(6#9) => `((ha zc s σ H _ I h))
local macro_rules | `(7#9) => `(((items.size:Int) - 1))
local macro_rules | `(8#9) => `((.ref a))
local macro_rules | `(9#9) => `((λw hw=>kW rx fx r fs w (by simpa using hw)))
local macro_rules | `(0#10) => `((λC s H fp zc=>p7))
local macro_rules | `(1#10) => `((z3 (qv 0) z7))
local macro_rules | `(2#10) => `((hp.objs.size+1))
local macro_rules | `(3#10) => `((yV hr))
local macro_rules | `(4#10) => `((st.length+0))
local macro_rules | `(5#10) => `((qk y3 hr1 y6 zS y4 (z3 (qv 4) (z3 z6 z7))))
local macro_rules | `(6#10) => `((.tup [.tup (sh.map zV),.tup (all.map zW)]))
local macro_rules | `(7#10) => `((.lst xs.reverse))
local macro_rules | `(8#10) => `((fnOf x qual (pO st) (sR st) (zQ st) .none kV doc pm an zr ct))
local macro_rules | `(9#10) => `((.put hm))
local macro_rules | `(0#11) => `((z3 zG (z3 zG z7)))
local macro_rules | `(1#11) => `((wZ X.K TA))
local macro_rules | `(2#11) => `((st.take m))
local macro_rules | `(3#11) => `((false,eval b X.env))
local macro_rules | `(4#11) => `((z3 (qv 1) z7))
local macro_rules | `(5#11) => `((st.set i 3#3))
local macro_rules | `(6#11) => `((kids Rh.sp hs))
local macro_rules | `(7#11) => `((if decide (1000000000000000000<=c)=true then(1:Int)else 0))
local macro_rules | `(8#11) => `((E1++(E1c++ [(j,Ay)])))
local macro_rules | `(9#11) => `((-(2 ^ 20)<=lo/\lo < 2 ^ 20/\ -(2 ^ 20)<=hi/\hi < 2 ^ 20))
local macro_rules | `(0#12) => `((qx hr (qv 3) z6))
local macro_rules | `(1#12) => `((I.ok.hd hc))
local macro_rules | `(2#12) => `((∀b∈fp,H' b=none))
local macro_rules | `(3#12) => `((some (.builtin "object.__setattr__")))
local macro_rules | `(4#12) => `((some (.Name x pos')))
local macro_rules | `(5#12) => `((.Raise (some (.Call (.Name x p) [] [] pos)) none pos'))
local macro_rules | `(6#12) => `((ha pos zc s σ H _ I h))
local macro_rules | `(7#12) => `((false,eval (.Call (.Name 53#1 p2) [a,b] [] zy) X.env))
local macro_rules | `(8#12) => `((A.deeper (envOfC qual (zQ st) s.heap.objs.size f zr)))
local macro_rules | `(9#12) => `((.ref it))
local macro_rules | `(0#13) => `((ns.map PV.int))
local macro_rules | `(1#13) => `((.val (.int _)))
local macro_rules | `(2#13) => `((vY CX P w K mg base N qual scope f zr A outer s H E))
local macro_rules | `(3#13) => `((.ref p))
local macro_rules | `(4#13) => `((aj _ (aj _ (mK hb e))))
local macro_rules | `(5#13) => `((-1000000<=i/\i<=1000000/\ -1000000<=j/\j<=1000000))
local macro_rules | `(6#13) => `([.Call (.Name 53#1 p2) [a,b] [] zy])
local macro_rules | `(7#13) => `((.builtin 85#1 ⟨.ref C::us,kw⟩))
local macro_rules | `(8#13) => `((zN yO (qv 2) z6))
local macro_rules | `(9#13) => `((qx hr (qv 2) z6))
local macro_rules | `(0#14) => `((zD (y2 (yN (z3 zG (z3 (qv 4) (z3 (qv 8) z7)))))))
local macro_rules | `(1#14) => `((z3 (qv 5) z7))
local macro_rules | `(2#14) => `((upd H2 p (.dK us)))
local macro_rules | `(3#14) => `((A.length+B.length))
local macro_rules | `(4#14) => `((.tup ys))
local macro_rules | `(5#14) => `((.builtin id))
local macro_rules | `(6#14) => `([3#1,15#1,25#1])
local macro_rules | `(7#14) => `((by kernel_rfl))
local macro_rules | `(8#14) => `((a==sysModules))
local macro_rules | `(9#14) => `((λb=>if b=e then none else H2 b))
local macro_rules | `(0#15) => `((.Call (.Name 14#1 p) 8#4 [] pos))
local macro_rules | `(1#15) => `((az ⟨_,rfl,az h⟩))
local macro_rules | `(2#15) => `((Sum.inr k5,V.ref p3))
local macro_rules | `(3#15) => `((.Tuple [a,b] k2 pt2))
local macro_rules | `(4#15) => `((zR.map λq=>(q.1,q.2.2)))
local macro_rules | `(5#15) => `((all.map (·.1)))
local macro_rules | `(6#15) => `((0+(k:Int)))
local macro_rules | `(7#15) => `((.ref D))
local macro_rules | `(8#15) => `((.Compare a [op] [b] pos))
local macro_rules | `(9#15) => `(((h0::hs).map 7#5))
local macro_rules | `(0#16) => `([3#1,15#1,"_law_n",38#1,26#1,"_law_row_here"])
local macro_rules | `(1#16) => `((qm ⟨bh (ql z _ _) hz,fin⟩))
local macro_rules | `(2#16) => `((G a0 kv 6#2 zk 7#6 (R++X) 4#3))
local macro_rules | `(3#16) => `((.Name x pos))
local macro_rules | `(4#16) => `((!xs.isEmpty))
local macro_rules | `(5#16) => `([8#1,44#1,29#1,24#1])
local macro_rules | `(6#16) => `((z3 (qv 4) z7))
local macro_rules | `(7#16) => `((qk y3 hr1 y6 zS y4 (z3 (qv 0) (z3 3#7 z7))))
local macro_rules | `(8#16) => `((qk b6 hr2 zeY iK bV (z3 (qv 0) (z3 z6 z7))))
local macro_rules | `(9#16) => `((Or.inl rfl))
local macro_rules | `(0#17) => `((.lst ys))
local macro_rules | `(1#17) => `((.inl (x:Int)))
local macro_rules | `(2#17) => `([4#1,33#1,"hand","taken",73#1])
local macro_rules | `(3#17) => `((∀k a b,¬ tH en h kk k a b))
local macro_rules | `(4#17) => `((if([]:List Keyword).isEmpty then 0 else 1))
local macro_rules | `(5#17) => `((List z8×ac×aa))
local macro_rules | `(6#17) => `((.lst (l.map yR)))
local macro_rules | `(7#17) => `((((hs.take j).map 7#5).map zW))
local macro_rules | `(8#17) => `([.int i,.int j])
local macro_rules | `(9#17) => `((x9 X.K tc))
local macro_rules | `(0#18) => `((.builtin 37#1))
local macro_rules | `(1#18) => `([.str "when",xA x,d.pv])
local macro_rules | `(2#18) => `((λb o hb e=>kk b o (by simpa using hb) e))
local macro_rules | `(3#18) => `((pyNext (.ref I) >>= _))
local macro_rules | `(4#18) => `((if n==S then _ else _))
local macro_rules | `(5#18) => `([3#1,15#1,"_law_n"])
local macro_rules | `(6#18) => `([.lst 2#6,.lst 2#6])
local macro_rules | `(7#18) => `((decide_eq_false e))
local macro_rules | `(8#18) => `((aj _ (ao.mpr rfl)))
local macro_rules | `(9#18) => `((B++ [p]))
local macro_rules | `(0#19) => `((.BoolOp .And (a::b::zR) pos))
set_option hygiene true
set_option Elab.async false
set_option linter.all false
set_option maxRecDepth 100000
namespace L2
open PySem PySem.Spec PyProof.Rows
abbrev z8:=Sum Int Str
def mH:z8->aa->Bool
 | .inl k,v=>Value.isInt k v
 | .inr x,v=>Value.isStrOf x v
def zlT (w:ci):z8->Int
 | .inl k=>hashInt k
 | .inr x=>hashStr w x
theorem qS: ∀{k:z8} {v:aa},mH k v=true->(∃i t,k=Sum.inl i/\v=Value.int i t)∨(∃x t,k=Sum.inr x/\v=Value.str x t)
 | .inl i,v,h=>by
  obtain⟨t,e⟩:=Value.isInt_shape (k:=i) (v:=v) h;exact .inl ⟨i,t,rfl,e⟩
 | .inr x,v,h=>by
  obtain⟨t,e⟩:=Value.isStrOf_shape (x:=x) (v:=v) h;exact .inr ⟨x,t,rfl,e⟩
theorem zrO (i:Int)(t:nv):mH (.inl i) (.int i t)=true:=by simp[mH,Value.isInt]
theorem zrP (x:Str)(t:nv):mH (.inr x) (.str x t)=true:=by simp[mH,Value.isStrOf]
theorem zrS (a b:Int):decide ((Sum.inl a:z8)=Sum.inl b)=(a==b):=by
 by_cases e:a=b
 ·subst e;simp
 ·have h: ¬ (Sum.inl a:z8)=Sum.inl b:=λq=>e (ph q)
  rw[decide_eq_false h];exact(beq_eq_false_iff_ne.mpr e).symm
theorem zrV (a b:Str):decide ((Sum.inr a:z8)=Sum.inr b)=decide (a=b):=by
 by_cases e:a=b
 ·subst e;simp
 ·have h: ¬ (Sum.inr a:z8)=Sum.inr b:=λq=>e (jp q)
  rw[decide_eq_false h,decide_eq_false e]
theorem zrT (a:Int)(b:Str):decide ((Sum.inl a:z8)=Sum.inr b)=false:=decide_eq_false (λq=>nomatch q)
theorem zrU (a:Str)(b:Int):decide ((Sum.inr a:z8)=Sum.inl b)=false:=decide_eq_false (λq=>nomatch q)
def wD (prog:ce)(w:ci):PySem.KeyKind prog w z8 where
 is:=mH
 hash:=zlT w
 inj:=λv a b ha hb=>by
  rcases qS ha with⟨i,t,rfl,rfl⟩ | ⟨x,t,rfl,rfl⟩
  ·rcases qS hb with⟨j,u,rfl,e⟩ | ⟨y,u,rfl,e⟩
   ·injection e with e1 _;rw[e1]
   ·exact nomatch e
  ·rcases qS hb with⟨j,u,rfl,e⟩ | ⟨y,u,rfl,e⟩
   ·exact nomatch e
   ·injection e with e1 _;rw[e1]
 byValue:=λk v h=>by
  rcases qS h with⟨i,t,rfl,rfl⟩ | ⟨x,t,rfl,rfl⟩ <;> rfl
 pyHash:=λhv h=>by
  rcases qS hv with⟨i,t,rfl,rfl⟩ | ⟨x,t,rfl,rfl⟩
  ·exact wpAny_pyHash_int h
  ·exact wpAny_pyHash_str h
 eqBool:=λhu hv h=>by
  rcases qS hu with⟨i,t,rfl,rfl⟩ | ⟨x,t,rfl,rfl⟩
  ·rcases qS hv with⟨j,u,rfl,rfl⟩ | ⟨y,u,rfl,rfl⟩
   ·rw[zrS]at h;exact wpAny_eqBool_int h
   ·rw[zrT]at h;exact xp i t y u _ _ _ _ h
  ·rcases qS hv with⟨j,u,rfl,rfl⟩ | ⟨y,u,rfl,rfl⟩
   ·rw[zrU]at h;exact xq x t j u _ _ _ _ h
   ·rw[zrV]at h;exact wpAny_eqBool_str h
 «strs»:=λk x t v h=>by
  rcases qS h with⟨i,u,rfl,e⟩ | ⟨y,u,rfl,e⟩
  ·exact nomatch e
  ·injection e with e1 _
   subst e1;cases v <;> rfl
theorem zs7 (prog:ce)(w:ci)(i:Int)(t:nv):(wD prog w).is (.inl i) (.int i t)=true:=zrO i t
theorem zfc (prog:ce)(w:ci)(x:Str)(t:nv):(wD prog w).is (.inr x) (.str x t)=true:=zrP x t
inductive V where
 | non | bl (b:Bool) | int (i:Int) | str (x:Str) | byt (b:Array UInt8) | flt (b:UInt64) | ref (a:ac) | ty (n:String)
 deriving DecidableEq
def zO:V->aa->Prop
 | .non,u=>u=Value.none
 | .bl b,u=>u=Value.bool b
 | .int i,u=> ∃t,u=Value.int i t
 | .str x,u=> ∃t,u=Value.str x t
 | .byt b,u=> ∃t,u=Value.bytes b t
 | .flt b,u=> ∃t,u=Value.float b t
 | .ref a,u=>u=Value.ref a
 | .ty n,u=>u=Value.type n
abbrev zJ:List V->List aa->Prop:=Paired zO
theorem zJ.length {xs:List V}{us:List aa}(r:zJ xs us):xs.length=us.length:=jh r
theorem zJ.get: ∀{xs:List V} {us:List aa} {i:Nat} {x:V},zJ xs us->xs[i]?=some x->∃u,us[i]?=some u/\zO x u
 | _,_,_,_,.nil,e=>by simp at e
 | _,_,0,_,.cons r _,e=>by simp at e;subst e;exact⟨_,rfl,r⟩
 | _,_,i+1,x,.cons _ t,e=>by
  obtain⟨u,h1,h2⟩:=zJ.get (i:=i) (x:=x) t (by simpa using e);exact⟨u,by simpa using h1,h2⟩
theorem zJ.set {x:V}{u:aa}(r:zO x u): ∀{xs:List V} {us:List aa} (i:Nat),zJ xs us->zJ (xs.set i x) (us.set i u)
 | _,_,_,.nil=> .nil
 | _,_,0,.cons _ t=> .cons r t
 | _,_,i+1,.cons q t=> .cons q (zJ.set r i t)
theorem zJ.append: ∀{xs ys:List V} {us ws:List aa},zJ xs us->zJ ys ws->zJ (xs++ys) (us++ws)
 | _,_,_,_,.nil,s=>s
 | _,_,_,_,.cons r t,s=> .cons r (zJ.append t s)
theorem zJ.take: ∀{xs:List V} {us:List aa} (n:Nat),zJ xs us->zJ (xs.take n) (us.take n)
 | _,_,0,_=> .nil
 | _,_,_+1,.nil=> .nil
 | _,_,n+1,.cons r t=> .cons r (zJ.take n t)
theorem zJ.drop: ∀{xs:List V} {us:List aa} (n:Nat),zJ xs us->zJ (xs.drop n) (us.drop n)
 | _,_,0,r=>r
 | _,_,_+1,.nil=> .nil
 | _,_,n+1,.cons _ t=>zJ.drop n t
def uE:Option V->Option aa->Prop
 | some v,some u=>zO v u
 | none,none=>True
 | _,_=>False
def KV {κ:Type} :List (κ×V)->List (κ×aa)->Prop:=Paired λ(p:κ×V) (q:κ×aa)=>p.1=q.1/\zO p.2 q.2
def kV:z8->V
 | .inl i=> .int i
 | .inr x=> .str x
inductive HO where
 | lst (xs:List V)
 | tup (xs:List V)
 | dK (kvs:List (z8×V)) | dT (kvs:List (List z8×V))
 | set (S:Int->Bool) (n:Nat)
 | ins (C dx:ac) (fs:List (Str×V))
 | own (x:ac)
 | xd (fs:List (Str×V))
 | met (f x:ac)
 | rng (lo hi:Int)
 | frz (o:af) (u:HO)
 | tbl (ps:Array aa)
 | ext (φ:cn->Prop)
abbrev Hp:=ac->Option HO
def upd (H:Hp)(a:ac)(o:HO):Hp:=λb=>if b=a then some o else H b
theorem yM {H:Hp}{a:ac}{o:HO} :upd H a o a=some o:=by unfold upd;rw[if_pos rfl]
theorem yD {H:Hp}{a b:ac}{o:HO}(h:b≠a):upd H a o b=H b:=by unfold upd;rw[if_neg h]
theorem mO {H:Hp}{a b:ac}{o u:HO}(h:H a=some o)(h':H b=some u)(d:o≠u):a≠b:=by
 intro e;subst e;rw[h]at h';exact d (cf h')
theorem u9 {H:Hp}{a b:ac}{o:HO}(h:H a=some o)(h':H b=none):a≠b:=by
 intro e;subst e;rw[h]at h';cases h'
def sL (h:cn)(a:ac)(items:Array aa):Prop:= ∃o,h.get? a=some o/\o.cls= .type 18#1 /\∃n,o.data= .seq items n/\o.dict=none
theorem sL.tup {h:cn}{a:ac}{items:Array aa}(x:sL h a items):IsTup h a items:=let⟨o,e,c,n,d,_⟩:=x;⟨o,e,c,n,d⟩
theorem sL.lt {h:cn}{a:ac}{items:Array aa}(x:sL h a items):a < h.objs.size:=let⟨_,e,_⟩:=x;be e
theorem sL.new (h:cn)(items:Array aa):sL (h.push {cls:= .type 18#1,data:= .seq items}) h.objs.size items:=⟨_,cm _ rfl,rfl,_,rfl,rfl⟩
section
variable (P:ce) (w:ci)
def xZ (H:Hp)(h:cn)(a:ac):HO->Prop
 | .lst xs=>xs.length<=ak/\∃(zf:List aa) (n:Nat),zJ xs zf/\h.get? a=some {cls:= .type 14#1,data:= .seq zf.toArray n}
 | .tup xs=>xs.length<=ak/\∃zf:List aa,zJ xs zf/\sL h a zf.toArray
 | .dK kvs=>kvs.length<=ak/\8#14=false/\∃vs,KV kvs vs/\h.DictOf (wD P w) a vs
 | .dT kvs=>kvs.length<=ak/\8#14=false/\∃xs:List 5#17,
   Paired (λ(p:List z8×V) (q:List z8×ac×aa)=>p.1=q.1/\H q.2.1=some (.tup (p.1.map kV))/\zO p.2 q.2.2) kvs xs/\
   ∃o es ep,h.get? a=some o/\o.ExactDict/\o.data= .dict es ep/\es.toList=xs.map (entryOfKey (tupleKind (wD P w)))/\(xs.map (·.1)).Nodup
 | .set S n=>h.SetOf (intKind P w) a S n
 | .ins C dx fs=>H dx=some (.own a)/\fs.length<=1000/\dx≠a/\h.get? a=some (PySem.W.instObj C dx)/\
   ∃mA,h.Ns1 dx mA/\(∀f,uE (fs.lookup f) (mA f))/\PySem.Within mA (fs.map (·.1))
 | .own _=> ∃o,h.get? a=some o
 | .xd fs=> ∃mA,h.Ns1 a mA/\∀f,uE (fs.lookup f) (mA f)
 | .rng lo hi=> ∃t u v,h.get? a=some {cls:= .type 53#1,data:= .fields #[.int lo t,.int hi u,.int 1 v]}
 | .frz o u=>h.get? a=some o/\xZ H h a u
 | .tbl ps=>h.get? a=some {cls:= .none,data:= .fields ps}
 | .met f x=>h.get? a=some (methodObj 2#8 (.ref x))
 | .ext φ=>φ h/\(∃o,h.get? a=some o)/\∀h1 h2:cn,φ h1->(∀o,h1.get? a=some o->h2.get? a=some o)->φ h2
def xG (H:Hp)(h:cn):Prop:= ∀a o,H a=some o->xZ P w H h a o
end
section
variable {P:ce} {w:ci} {H H':Hp} {h h':cn} {a:ac} {o:HO}
theorem xZ.lt (x:xZ P w H h a o):a < h.objs.size:=by
 cases o with
 | lst xs=>obtain⟨_,_,_,_,e⟩:=x;exact be e
 | tup xs=>obtain⟨_,_,_,p⟩:=x;exact p.lt
 | dK kvs=>obtain⟨_,_,_,_,o,_,_,e,_⟩:=x;exact be e
 | dT kvs=>obtain⟨_,_,_,_,o,_,_,e,_⟩:=x;exact be e
 | set S n=>obtain⟨o,_,_,_,e,_⟩:=x;exact be e
 | ins C dx fs=>obtain⟨_,_,_,e,_⟩:=x;exact be e
 | own y=>obtain⟨_,e⟩:=x;exact be e
 | xd fs=>obtain⟨_,⟨_,_,_,e,_⟩,_⟩:=x;exact be e
 | rng lo hi=>obtain⟨_,_,_,e⟩:=x;exact be e
 | frz ob u=>obtain⟨e,_⟩:=x;exact be e
 | tbl ps=>exact be (show h.get? a=some _ from x)
 | met f y=>exact be (show h.get? a=some _ from x)
 | ext φ=>obtain⟨_,⟨_,e⟩,_⟩:=x;exact be e
theorem Paired.mapP {α β:Type}{F G:α->β->Prop} : ∀{l₁:List α} {l₂:List β},Paired F l₁ l₂->(∀a b,F a b->G a b)->Paired G l₁ l₂
 | _,_,.nil,_=> .nil
 | _,_,.cons r t,f=> .cons (f _ _ r) (Paired.mapP t f)
theorem xZ.stay (x:xZ P w H h a o)(k: ∀b u,(b=a∨H b=some (.own a))->h.get? b=some u->h'.get? b=some u)
  (ho: ∀b,H b=some (.own a)->H' b=some (.own a)) (ht: ∀b xs,H b=some 9#6->H' b=some 9#6):xZ P w H' h' a o:=by
 induction o with
 | lst xs=>obtain⟨z,zf,n,r,e⟩:=x;exact⟨z,zf,n,r,k _ _ 5#9 e⟩
 | tup xs=>obtain⟨z,zf,r,ob,e,c⟩:=x;exact⟨z,zf,r,ob,k _ _ 5#9 e,c⟩
 | dK kvs=>obtain⟨z,y,vs,r,ob,es,ep,e,c⟩:=x;exact⟨z,y,vs,r,ob,es,ep,k _ _ 5#9 e,c⟩
 | dT kvs=>
  obtain⟨z,y,xs,r,ob,es,ep,e,c⟩:=x;exact⟨z,y,xs,Paired.mapP r λp q z=>⟨z.1,ht _ _ z.2.1,z.2.2⟩,ob,es,ep,k _ _ 5#9 e,c⟩
 | set S n=>obtain⟨ob,es,ep,t,e,c⟩:=x;exact⟨ob,es,ep,t,k _ _ 5#9 e,c⟩
 | ins C dx fs=>
  obtain⟨d,z,ne,e,mA,⟨od,es,ep,e2,c⟩,r⟩:=x;exact⟨ho _ d,z,ne,k _ _ 5#9 e,mA,⟨od,es,ep,k _ _ (.inr d) e2,c⟩,r⟩
 | own y=>obtain⟨ob,e⟩:=x;exact⟨ob,k _ _ 5#9 e⟩
 | xd fs=>obtain⟨mA,⟨od,es,ep,e,c⟩,r⟩:=x;exact⟨mA,⟨od,es,ep,k _ _ 5#9 e,c⟩,r⟩
 | rng lo hi=>obtain⟨t,u,v,e⟩:=x;exact⟨t,u,v,k _ _ 5#9 e⟩
 | frz ob u ih=>obtain⟨e,q⟩:=x;exact⟨k _ _ 5#9 e,ih q⟩
 | tbl ps=>
  have e:h.get? a=some {cls:= .none,data:= .fields ps} :=x;show h'.get? a=some {cls:= .none,data:= .fields ps};exact k a _ 5#9 e
 | met f y=>
  have e:h.get? a=some (methodObj 2#8 (.ref y)):=x;show h'.get? a=some (methodObj 2#8 (.ref y));exact k a _ 5#9 e
 | ext φ=>obtain⟨p,⟨o,e⟩,st⟩:=x;exact⟨st _ _ p λo q=>k _ _ 5#9 q,⟨o,k _ _ 5#9 e⟩,st⟩
theorem xG.lt (x:xG P w H h)(e:H a=some o):a < h.objs.size:=(x a o e).lt
theorem xG.fresh (x:xG P w H h)(e:h.objs.size<=a):H a=none:=by
 cases q:H a with
 | none=>rfl
 | some u=>exact absurd (bp (x.lt q) e) (gz _)
theorem xG.kept (x:xG P w H h)(k: ∀b u,h.get? b=some u->h'.get? b=some u):xG P w H h':=λa o e=>
 (x a o e).stay (λb u _ q=>k b u q) (λ_ q=>q) λ_ _ q=>q
theorem xG.laid (x:xG P w H h)(k: ∀b u,h.get? b=some u->h'.get? b=some u)(hp:h.objs.size<=a)(new:xZ P w (upd H a o) h' a o):xG P w (upd H a o) h':=λb u e=>by
 have hn:=x.fresh hp;by_cases hb:b=a
 ·subst hb;rw[yM]at e;cases e;exact new
 ·rw[yD hb]at e
  exact(x b u e).stay (λc v _ q=>k c v q) (λc q=>by rw[yD (u9 q hn)];exact q) λc xs q=>by rw[yD (u9 q hn)];exact q
end
def Rd (H:Hp)(a:ac)(u:HO):Prop:=H a=some u∨∃o,H a=some (.frz o u)
theorem Rd.ok {P:ce}{w:ci}{H:Hp}{h:cn}{a:ac}{u:HO}(r:Rd H a u)(x:xG P w H h):xZ P w H h a u:=by
 rcases r with r | ⟨o,r⟩
 ·exact x a u r
 ·obtain⟨_,q⟩:=x a _ r
  exact q
def k7:Option HO->Prop
 | some (.lst _)=>True
 | some (.dK _)=>True
 | some (.dT _)=>True
 | some (.set _ _)=>True
 | some (.ins _ _ _)=>True
 | some (.ext _)=>True
 | _=>False
section
variable {P:ce} {w:ci} {H:Hp} {h h':cn} {x e:ac} {o':HO}
theorem xG.write (ok:xG P w H h)(mu:k7 (H x))(he:e=x∨H e=some (.own x))(k: ∀b u,b≠e->h.get? b=some u->h'.get? b=some u)(heo: ∃u,h'.get? e=some u)
  (new:xZ P w (upd H x o') h' x o'):xG P w (upd H x o') h':=λb u q=>by
 have nown: ∀c y,H c=some (.own y)->c≠x:=λc y r z=>by subst z;rw[r]at mu;exact mu
 have ntup: ∀c xs,H c=some 9#6->c≠x:=λc xs r z=>by subst z;rw[r]at mu;exact mu
 by_cases hb:b=x
 ·subst hb;rw[yM]at q;cases q;exact new
 ·rw[yD hb]at q
  by_cases hbe:b=e
  ·have q':H b=some (.own x):=by
    rcases he with z | z
    ·exact absurd (hbe.trans z) hb
    ·rw[hbe];exact z
   rw[q]at q';cases q';obtain⟨v,hv⟩:=heo;exact⟨v,by rw[hbe];exact hv⟩
  ·refine(ok b u q).stay (λc v hc r=>k c v ?_ r) (λc r=>by rw[yD (nown c b r)];exact r) λc xs r=>by rw[yD (ntup c xs r)];exact r
   rcases hc with rfl | hc
   ·exact hbe
   ·rintro rfl
    rcases he with z | z
    ·exact nown c b hc z
    ·rw[hc]at z;cases z;exact hb rfl
end
structure Un (fs ex:List ac)(H H':Hp)(h h':cn):Prop where
 keep: ∀b o,h.get? b=some o->H b=none->b∉fs->b∉ex->h'.get? b=some o
 slot: ∀b o,h.get? b=some o->H b=none->b∈fs->b∉ex->∃sl,h'.get? b=some {o with slots:=sl}
 free: ∀b o,h.get? b=some o->H b=none->b∉ex->H' b=none
 there: ∀b o,h.get? b=some o->b∉ex->∃o',h'.get? b=some o'
 tups: ∀b xs,H b=some 9#6->H' b=some 9#6
 frzs: ∀b o u,H b=some (.frz o u)->H' b=some (.frz o u)
 tbls: ∀b ps,H b=some (.tbl ps)->∃more,H' b=some (.tbl (ps++more))
section
variable {fs fs' ex ex':List ac} {H H1 H2:Hp} {h h1 h2 h':cn} {a x e:ac} {o:HO}
theorem Un.any (u:Un fs ex H H1 h h1){b:ac}{ob:af}(q:h.get? b=some ob)(n:H b=none)(hx:b∉ex): ∃sl,h1.get? b=some {ob with slots:=sl} :=by
 by_cases hb:b∈fs
 ·exact u.slot b ob q n hb hx
 ·exact⟨ob.slots,u.keep b ob q n hb hx⟩
theorem Un.kept (k: ∀b u,h.get? b=some u->h'.get? b=some u):Un fs ex H H h h':=
 ⟨λb ob q _ _ _=>k b ob q,λb ob q _ _ _=>⟨ob.slots,k b ob q⟩,λ_ _ _ n _=>n,λb ob q _=>⟨ob,k b ob q⟩,λ_ _ q=>q,λ_ _ _ q=>q,λ_ ps q=>⟨#[],by rw[q];simp⟩⟩
theorem Un.refl:Un fs ex H H h h:=Un.kept λ_ _ q=>q
theorem Un.laid (k: ∀b u,h.get? b=some u->h'.get? b=some u)(hp:h.objs.size<=a)(hn:H a=none):Un fs ex H (upd H a o) h h' where
 keep:=λb u q _ _ _=>k b u q
 slot:=λb u q _ _ _=>⟨u.slots,k b u q⟩
 free:=λb u q n _=>by rw[yD (bt (bp (be q) hp))];exact n
 there:=λb u q _=>⟨u,k b u q⟩
 tups:=λb xs q=>by rw[yD (u9 q hn)];exact q
 frzs:=λb u xs q=>by rw[yD (u9 q hn)];exact q
 tbls:=λb ps q=>⟨#[],by rw[yD (u9 q hn),q];simp⟩
theorem Un.write (mu:k7 (H x))(he:e=x∨H e=some (.own x))(k: ∀b u,b≠e->h.get? b=some u->h'.get? b=some u)(heo: ∃u,h'.get? e=some u):Un fs ex H (upd H x o) h h':=by
 have hx: ∀b,H b=none->b≠x:=λb n z=>by subst z;rw[n]at mu;exact mu
 have hb: ∀b,H b=none->b≠e:=λb n z=>by
  subst z;rcases he with r | r
  ·exact hx b n r
  ·rw[n]at r;cases r
 have hm: ∀b u,H b=some u->¬ k7 (some u)->b≠x:=λb u q nm z=>by subst z;rw[q]at mu;exact nm mu
 refine⟨λb u q n _ _=>k b u (hb b n) q,λb u q n _ _=>⟨u.slots,k b u (hb b n) q⟩,λb u q n _=>by rw[yD (hx b n)];exact n,λb u q _=> ?_,
  λb xs q=>by rw[yD (hm b _ q λz=>z)];exact q,λb u xs q=>by rw[yD (hm b _ q λz=>z)];exact q,λb ps q=>⟨#[],by rw[yD (hm b _ q λz=>z),q];simp⟩⟩
 by_cases hbe:b=e
 ·subst hbe;exact heo
 ·exact⟨u,k b u hbe q⟩
end
def uO (h:cn)(H:Hp):List ac:=(List.range h.objs.size).filter λa=>(H a).isSome
def qQ (h:cn)(H:Hp):cn:=PySem.W.hideAll h (uO h H)
theorem zr3 (h:cn)(H:Hp):(qQ h H).objs.size=h.objs.size:=PySem.W.hideAll_size _ _
theorem zr2 {h:cn}{H:Hp}{b:ac}{o:af}(e:h.get? b=some o)(n:H b=none):(qQ h H).get? b=some o:=
 PySem.W.hideAll_get _ e λhm=>by
  have q:(H b).isSome=true:=(jl.mp hm).2;rw[n]at q;simp at q
theorem ztr {h:cn}{H:Hp}{b:ac}{o:af}(e:(qQ h H).get? b=some o):h.get? b=some o/\H b=none:=by
 have e':h.get? b=some o:=PySem.W.of_hideAll (uO h H) e;refine⟨e',?_⟩;cases q:H b with
 | none=>rfl
 | some x=>
  have hm:b∈uO h H:=jl.mpr ⟨rf.mpr (be e'),by simp[q]⟩;have z:(qQ h H).get? b=none:=PySem.W.hideAll_none (uO h H) hm;rw[z]at e;cases e
def zpI (g h:cn)(L:ac):List 7#3:=(List.range h.objs.size).filterMap λa=>if a=L∨(g.get? a).isSome=true then none else(h.get? a).map λo=>(a,o)
def zR (g h:cn)(L d:ac):List 7#3:=(zpI g h L).filter λp=>decide (p.1≠d)
structure Mod (K:Frag)(mg:Str->Option aa)(base:cn):Prop where
 kin:K.In base
 glob:base.Ns dz mg
 blt: ∃mb,base.Ns builtinsNs mb/\∀x:Str,x≠ "__name__" ->mb x=bootBuiltins x
 nolimit:base.NoLimit
structure Cx where
 prog:ce
 w:ci
 K:Frag
 mg:Str->Option aa
 base:cn
 A:cw
 N:List Str
 s₀:ai
 H₀:Hp
 env:ly
 outer:List ly
 stack:List ly
 ex:List ac
 fn:Str->Bool
 calm:Bool
 pn:List 7#3
 xe:aa->ai->Prop
def w5 (l:List ly):List ac:=l.filterMap (·.frame)
abbrev Cx.fs (X:Cx):List ac:=w5 X.outer
def kC (sc:ll)(x:Str):Prop:=sc.names.lookup x=some .local∨sc.names.lookup x=some .cell∨sc.names.lookup x=some .free
def tW (sc:ll)(x:Str):Prop:=sc.names.lookup x=some .local∨sc.names.lookup x=some .cell
def zhj (env:ly)(h:cn)(m:Str->Option aa)(x:Str)(u:aa):Prop:=
 (env.kindOf x=some .local/\m x=some u)∨((env.kindOf x=some .cell∨env.kindOf x=some .free)/\∃c,env.cells.lookup x=some c/\h.IsCell c (some u))
structure Cx.Ok (X:Cx):Prop where
 mod:Mod X.K X.mg X.base
 kind:X.env.scope.kind= .function
 glob:X.env.globals=dz
 blt:X.env.builtins=builtinsNs
 above:X.s₀.heap.objs.size<=X.env.locals
 inj: ∀x y c,X.env.cells.lookup x=some c->X.env.cells.lookup y=some c->x=y
 has: ∀x,(X.env.kindOf x=some .cell∨X.env.kindOf x=some .free)->∃c,X.env.cells.lookup x=some c
 cab: ∀x c,X.fn x=true->X.env.cells.lookup x=some c->X.s₀.heap.objs.size<=c
 hd:X.calm=true->X.A.handled=none
 frames:X.A.frames=some X.stack
 stk:X.stack=X.outer∨(X.stack=X.env::X.outer/\X.env.frame=some X.env.locals)
 exf: ∀b∈X.ex,b≠X.env.locals/\∀x c,X.env.cells.lookup x=some c->c≠b
 bs: ∀b o,X.base.get? b=some o->X.s₀.heap.get? b=some o/\X.H₀ b=none
 bsz:X.base.objs.size<=X.s₀.heap.objs.size
 noex: ∀b o,X.base.get? b=some o->b∉X.ex
 exfs: ∀b∈X.ex,b∉X.fs
 funs:X.s₀.heap.FunFrames X.base X.outer
 frf: ∀b∈X.fs,X.H₀ b=none
structure z4 (X:Cx)(zc:List 7#3)(σ:List (Option V))(H:Hp)(s:ai):Prop where
 ok:X.Ok
 os:s.os=X.s₀.os
 bare:AllBare s.gens
 base:Un X.fs X.ex X.H₀ H X.s₀.heap s.heap
 loc: ∃m,s.heap.Ns X.env.locals m/\∀(i:Nat) (x:Str) (v:V),X.N[i]?=some x->σ[i]?=some (some v)->kC X.env.scope x->∃u,zO v u/\zhj X.env s.heap m x u
 cell: ∀x c,X.env.cells.lookup x=some c->∃v,s.heap.IsCell c v
 free:H X.env.locals=none
 freeC: ∀x c,X.env.cells.lookup x=some c->H c=none
 pin: ∀p∈X.pn++zc,s.heap.get? p.1=some p.2/\H p.1=none/\p.1≠X.env.locals/\p.1∉X.fs/\∀v,p.2.data≠ .cell v
 hok:xG X.prog X.w H s.heap
 len:σ.length=X.N.length
section
variable {X:Cx} {zc:List (ac×af)} {σ:List (Option V)} {H H':Hp} {s:ai} {h':cn}
theorem Cx.Ok.nofr (ok:X.Ok){b:ac}{o:af}(e:X.base.get? b=some o):b∉X.fs:=λhb=>by
 have:=(ok.funs.mem hb).1;rw[e]at this;cases this
theorem z4.bs (I:z4 X zc σ H s): ∀b o,X.base.get? b=some o->s.heap.get? b=some o/\H b=none:=λb o e=>
 ⟨I.base.keep b o (I.ok.bs b o e).1 (I.ok.bs b o e).2 (I.ok.nofr e) (I.ok.noex b o e),I.base.free b o (I.ok.bs b o e).1 (I.ok.bs b o e).2 (I.ok.noex b o e)⟩
theorem z4.bk (I:z4 X zc σ H s): ∀b o,X.base.get? b=some o->s.heap.get? b=some o:=λb o e=>(I.bs b o e).1
theorem z4.mod (I:z4 X zc σ H s):Mod X.K X.mg X.base:=I.ok.mod
theorem z4.kIn (I:z4 X zc σ H s):X.K.In s.heap:=I.ok.mod.kin.keeps I.bk
theorem z4.lt (I:z4 X zc σ H s):X.env.locals < s.heap.objs.size:=let⟨_,hn,_⟩:=I.loc;hn.lt
theorem z4.sz (I:z4 X zc σ H s):X.s₀.heap.objs.size<=s.heap.objs.size:=bh I.ok.above (oi I.lt)
theorem z4.nofs (I:z4 X zc σ H s){a:ac}(h:s.heap.objs.size<=a):a∉X.fs:=λhb=>by
 obtain⟨_,o,ho,_⟩:=I.ok.funs.mem hb;exact absurd (bp (be ho) (bh I.sz h)) (gz _)
theorem z4.cne (I:z4 X zc σ H s): ∀x c,X.env.cells.lookup x=some c->c≠X.env.locals:=λx c e z=>by
 obtain⟨v,o,ho,hd⟩:=I.cell x c e;obtain⟨m,⟨o',es,ep,ho',hd',_⟩,_⟩:=I.loc;rw[z,ho']at ho;cases ho;rw[hd']at hd;cases hd
theorem z4.funs (I:z4 X zc σ H s):s.heap.FunFrames X.base X.outer:=by
 have all: ∀(l:List ly),(∀b∈w5 l,b∈X.fs)->X.s₀.heap.FunFrames X.base l->s.heap.FunFrames X.base l:=by
  intro l
  induction l with
  | nil=>intro _ _;trivial
  | cons env r ih=>
   intro hs hl;obtain⟨hk,⟨L,o,hf,hn,ho,hd⟩,hr⟩:=hl;have hL:L∈X.fs:=hs L (by unfold w5;rw[cp,hf];exact aw);obtain⟨sl,e⟩:=I.base.slot L o ho (I.ok.frf L hL) hL λz=>I.ok.exfs L z hL;exact⟨hk,⟨L,_,hf,hn,e,hd⟩,ih (λb hb=>hs b (by unfold w5;rw[cp,hf];exact bf _ hb)) hr⟩
 exact all X.outer (λ_ hb=>hb) I.ok.funs
theorem z4.stack (I:z4 X zc σ H s):s.heap.FunFrames X.base X.stack:=by
 rcases I.ok.stk with e | ⟨e,hf⟩
 ·rw[e];exact I.funs
 ·rw[e]
  obtain⟨m,hn,_⟩:=I.loc;refine .cons (by rw[I.ok.kind];decide) hf hn ?_ I.funs;exact Heap.get?_none_of_le (bh I.ok.bsz I.ok.above)
theorem z4.stkSub (I:z4 X zc σ H s): ∀b∈w5 X.stack,b∈X.env.locals::X.fs:=λb hb=>by
 rcases I.ok.stk with e | ⟨e,hf⟩
 ·rw[e]at hb;exact bf _ hb
 ·rw[e]at hb
  unfold w5 at hb;rw[cp,hf]at hb;exact hb
theorem z4.stkFree (I:z4 X zc σ H s): ∀b∈w5 X.stack,H b=none:=λb hb=>by
 rcases bo.mp (I.stkSub b hb)with e | hb
 ·rw[e];exact I.free
 ·obtain⟨_,o,ho,_⟩:=I.ok.funs.mem hb
  exact I.base.free b o ho (I.ok.frf b hb) λz=>I.ok.exfs b z hb
theorem z4.step {g':Array uk}{t':Nat}{d':Drawn}{ch:List ac}(I:z4 X zc σ H s)
  (hch: ∀b∈ch,2#9/\b≠X.env.locals/\0#7/\∀p∈X.pn++zc,p.1≠b)
  (keep: ∀b o,b≠X.env.locals->b∉X.fs->b∉ch->s.heap.get? b=some o->H b=none->h'.get? b=some o)
  (slot: ∀b o,b≠X.env.locals->b∈X.fs->b∉ch->s.heap.get? b=some o->H b=none->∃sl,h'.get? b=some {o with slots:=sl}) (free: ∀b o,b∉ch->s.heap.get? b=some o->H b=none->H' b=none)
  (there: ∀b o,b∉ch->s.heap.get? b=some o->∃o',h'.get? b=some o')
  (tups: ∀b xs,H b=some 9#6->H' b=some 9#6) (frzs: ∀b o u,H b=some (.frz o u)->H' b=some (.frz o u)) (tbls: ∀b ps,H b=some (.tbl ps)->∃more,H' b=some (.tbl (ps++more)))
  (ns: ∀m,s.heap.Ns X.env.locals m->h'.Ns X.env.locals m) (hok:xG X.prog X.w H' h') (hg:AllBare g'):
  z4 X zc σ H' {s with heap:=h',gens:=g',drawn:=d',toks:=t'} :=by
 have neL: ∀b o,X.s₀.heap.get? b=some o->b≠X.env.locals:=λb o e=>bt (bp (be e) I.ok.above);have neC: ∀b o,X.s₀.heap.get? b=some o->b∉X.ex->b∉ch:=λb o e hx hb=>by
  rcases(hch b hb).1 with z | z
  ·exact hx z
  ·exact absurd (bp (be e) z) (gz _)
 have cellK: ∀x c,X.env.cells.lookup x=some c->∀v,s.heap.IsCell c v->h'.IsCell c v:=λx c e v ⟨o,ho,hd⟩=>by
  have nch:c∉ch:=λz=>(hch c z).2.2.1 x c e rfl;by_cases hc:c∈X.fs
  ·obtain⟨sl,q⟩:=slot c o (I.cne x c e) hc nch ho (I.freeC x c e)
   exact⟨_,q,hd⟩
  ·exact⟨o,keep c o (I.cne x c e) hc nch ho (I.freeC x c e),hd⟩
 refine⟨I.ok,I.os,hg,⟨λb o e n hb hx=> ?_,λb o e n hb hx=> ?_,λb o e n hx=> ?_,λb o e hx=> ?_,λb xs e=>tups b xs (I.base.tups b xs e),λb o xs e=>frzs b o xs (I.base.frzs b o xs e),λb ps e=> ?_⟩,?_,λx c e=> ?_,?_,λx c e=> ?_,λp hp=> ?_,hok,I.len⟩
 ·exact keep b o (neL b o e) hb (neC b o e hx) (I.base.keep b o e n hb hx) (I.base.free b o e n hx)
 ·obtain⟨sl,e1⟩:=I.base.slot b o e n hb hx
  obtain⟨sl',e2⟩:=slot b _ (neL b o e) hb (neC b o e hx) e1 (I.base.free b o e n hx);exact⟨sl',e2⟩
 ·obtain⟨o',e1⟩:=I.base.there b o e hx
  exact free b o' (neC b o e hx) e1 (I.base.free b o e n hx)
 ·obtain⟨o',e1⟩:=I.base.there b o e hx
  exact there b o' (neC b o e hx) e1
 ·obtain⟨m1,e1⟩:=I.base.tbls b ps e
  obtain⟨m2,e2⟩:=tbls b _ e1;exact⟨m1++m2,by rw[e2,Array.append_assoc]⟩
 ·obtain⟨m,hn,hl⟩:=I.loc
  refine⟨m,ns m hn,λi x v e1 e2 e3=> ?_⟩;obtain⟨u,r,l⟩:=hl i x v e1 e2 e3;refine⟨u,r,?_⟩;rcases l with l | ⟨k,c,e,z⟩
  ·exact .inl l
  ·exact .inr ⟨k,c,e,cellK x c e _ z⟩
 ·obtain⟨v,z⟩:=I.cell x c e
  exact⟨v,cellK x c e v z⟩
 ·obtain⟨m,⟨o,_,_,ho,_⟩,_⟩:=I.loc
  exact free _ o (λz=>(hch _ z).2.1 rfl) ho I.free
 ·obtain⟨v,o,ho,hd⟩:=I.cell x c e
  exact free c o (λz=>(hch c z).2.2.1 x c e rfl) ho (I.freeC x c e)
 ·obtain⟨e,n,ne,nf,d⟩:=I.pin p hp
  have nch:p.1∉ch:=λz=>(hch p.1 z).2.2.2 p hp rfl;exact⟨keep p.1 p.2 ne nf nch e n,free p.1 p.2 nch e n,ne,nf,d⟩
theorem z4.un {t':Nat}(I:z4 X zc σ H s)(u:Un X.fs [] H H' s.heap h')(hok:xG X.prog X.w H' h'):z4 X zc σ H' {s with heap:=h',toks:=t'} :=by
 obtain⟨m,⟨o,es,ep,ho,r⟩,_⟩:=id I.loc;obtain⟨sl,hL⟩:=u.any ho I.free 3#0;exact I.step (g':=s.gens) (d':=s.drawn) (ch:= []) (λ_ z=>nomatch z) (λb o _ hb _ e n=>u.keep b o e n hb 3#0) (λb o _ hb _ e n=>u.slot b o e n hb 3#0) (λb o _ e n=>u.free b o e n 3#0) (λb o _ e=>u.there b o e 3#0) u.tups u.frzs u.tbls (λm' hm=>by
  obtain⟨o',es',ep',ho',r'⟩:=hm;rw[ho]at ho';cases ho';exact⟨_,es',ep',hL,r'⟩) hok I.bare
theorem z4.call {g':Array uk}{t':Nat}{d':Drawn}{ch:List ac}(I:z4 X zc σ H s)(u:Un (w5 X.stack) ch H H' s.heap h')(hok:xG X.prog X.w H' h')(hg:AllBare g')
  (hch: ∀b∈ch,2#9/\b≠X.env.locals/\0#7/\∀p∈X.pn++zc,p.1≠b):
  z4 X zc σ H' {s with heap:=h',gens:=g',drawn:=d',toks:=t'} :=by
 obtain⟨m,⟨o,es,ep,ho,r⟩,_⟩:=id I.loc;obtain⟨sl,hL⟩:=u.any ho I.free λz=>(hch _ z).2.1 rfl;exact I.step (ch:=ch) hch (λb o hL hb hc e n=>u.keep b o e n (λz=>(bo.mp (I.stkSub b z)).elim hL hb) hc) (λb o _ _ hc e n=>u.any e n hc) (λb o hc e n=>u.free b o e n hc) (λb o hc e=>u.there b o e hc) u.tups u.frzs u.tbls (λm' hm=>by
  obtain⟨o',es',ep',ho',r'⟩:=hm;rw[ho]at ho';cases ho';exact⟨_,es',ep',hL,r'⟩) hok hg
theorem z4.turned {t':Nat}{it:ac}(I:z4 X zc σ H s)(k: ∀b o,b≠it->s.heap.get? b=some o->h'.get? b=some o)(hn:H it=none)(hL:it≠X.env.locals)
  (h1:it∈X.ex∨X.s₀.heap.objs.size<=it) (h2: ∀x c,X.env.cells.lookup x=some c->c≠it) (h3: ∀p∈X.pn++zc,p.1≠it):z4 X zc σ H {s with heap:=h',toks:=t'} :=by
 have nit: ∀b u,H b=some u->b≠it:=λb u e z=>by rw[z,hn]at e;cases e
 refine I.step (g':=s.gens) (d':=s.drawn) (ch:= [it]) (λb hb=> ?_) (λb o _ _ hc e _=>k b o (λz=>hc (by simp[z])) e) (λb o _ _ hc e _=>⟨o.slots,k b o (λz=>hc (by simp[z])) e⟩) (λ_ _ _ _ n=>n)
  (λb o hc e=>⟨o,k b o (λz=>hc (by simp[z])) e⟩) (λ_ _ e=>e) (λ_ _ _ e=>e) (λb ps e=>⟨#[],by rw[e];simp⟩) (λm hm=> ?_) (λb u e=> ?_) I.bare
 ·have e:b=it:=by simpa using hb
  subst e;exact⟨h1,hL,h2,h3⟩
 ·obtain⟨o,es,ep,ho,r⟩:=hm
  exact⟨o,es,ep,k _ o (fw hL) ho,r⟩
 ·refine(I.hok b u e).stay (λc v hc q=>k c v ?_ q) (λ_ q=>q) λ_ _ q=>q
  rcases hc with z | z
  ·rw[z];exact nit b u e
  ·exact nit c _ z
theorem z4.tok (I:z4 X zc σ H s)(t:Nat):z4 X zc σ H {s with toks:=t} :=I.un (h':=s.heap) (t':=t) Un.refl I.hok
theorem z4.kept {t':Nat}(I:z4 X zc σ H s)(k: ∀b u,s.heap.get? b=some u->h'.get? b=some u):z4 X zc σ H {s with heap:=h',toks:=t'} :=I.un (Un.kept k) (I.hok.kept k)
theorem z4.laid {a:ac}{o:HO}{t':Nat}(I:z4 X zc σ H s)(k: ∀b u,s.heap.get? b=some u->h'.get? b=some u)(hp:s.heap.objs.size<=a)(new:xZ X.prog X.w (upd H a o) h' a o):
  z4 X zc σ (upd H a o) {s with heap:=h',toks:=t'} :=I.un (Un.laid k hp (I.hok.fresh hp)) (I.hok.laid k hp new)
theorem z4.write {x e:ac}{o:HO}{t':Nat}(I:z4 X zc σ H s)(mu:k7 (H x))(he:e=x∨H e=some (.own x))(k: ∀b u,b≠e->s.heap.get? b=some u->h'.get? b=some u)(heo: ∃u,h'.get? e=some u)
  (new:xZ X.prog X.w (upd H x o) h' x o):z4 X zc σ (upd H x o) {s with heap:=h',toks:=t'} :=I.un (Un.write mu he k heo) (I.hok.write mu he k heo new)
theorem z4.pins_of {pins':List 7#3}(I:z4 X zc σ H s)(h: ∀p∈pins',s.heap.get? p.1=some p.2/\H p.1=none/\p.1≠X.env.locals/\p.1∉X.fs/\∀v,p.2.data≠ .cell v):z4 X pins' σ H s:=
 ⟨I.ok,I.os,I.bare,I.base,I.loc,I.cell,I.free,I.freeC,λp hp=>(aq.mp hp).elim (λz=>I.pin p (ax _ z)) (h p),I.hok,I.len⟩
theorem zmw {N:List Str}(hN:N.Nodup){i j:Nat}{x:Str}(a:N[i]?=some x)(b:N[j]?=some x):i=j:=by
 obtain⟨h1,e1⟩:=ah.mp a;obtain⟨h2,e2⟩:=ah.mp b;exact(List.getElem_inj hN).mp (e1.trans e2.symm)
theorem znV {M:Model}{A:cw}{E:aa->ai->Prop}{i:Nat}{x:Str}{v:V}{u:aa}{Q:Unit->ai->Prop}(I:z4 X zc σ H s)(hN:X.N.Nodup)(hi:X.N[i]?=some x)(hx:tW X.env.scope x)(r:zO v u)
  (h: ∀s',z4 X zc (σ.set i (some v)) H s'->(∃a,Heap.SameBut a s.heap s'.heap/\(a=X.env.locals∨X.env.cells.lookup x=some a))->Q () s') (hf:X.fn x=true∨X.env.scope.names.lookup x=some .local:=by first | exact .inl rfl | exact .inr rfl | assumption):ay M A (storeName X.env x u) Q E s:=by
 obtain⟨m,hn,hl⟩:=id I.loc;have hcls:(X.env.scope.kind== .class||(X.env.scope.kind== .module&&X.env.locals !=X.env.globals))=false:=by rw[I.ok.kind];rfl
 have hiσ:i < σ.length:=by rw[I.len];exact(ah.mp hi).1
 have cne:=I.cne;have tracked: ∀{a:ac} {h':cn},(∃o,s.heap.get? a=some o/\H a=none)->Heap.SameBut a s.heap h'->xG X.prog X.w H h':=λ{a h'} ha hs b ob e=>by
  obtain⟨_,_,hfree⟩:=ha;refine(I.hok b ob e).stay (λc w' hc q=>(hs.2 c ?_).trans q) (λ_ q=>q) λ_ _ q=>q;rintro rfl;rcases hc with rfl | hc
  ·rw[hfree]at e;cases e
  ·rw[hfree]at hc;cases hc
 rcases hx with hk | hk
 ·refine wpAny_storeName_local hk hn (λh' hn' hs=> ?_) hcls
  obtain⟨oL,_,_,hoL,_⟩:=id hn;refine h _ ⟨I.ok,I.os,I.bare,⟨λb o e n hb hx=> ?_,λb o e n hb hx=> ?_,I.base.free,λb o e hx=> ?_,I.base.tups,I.base.frzs,I.base.tbls⟩,⟨_,hn',λj y v' e1 e2 e3=> ?_⟩,λy c e=> ?_,I.free,I.freeC,λp hp=> ?_,tracked ⟨oL,hoL,I.free⟩ hs,by simpa using I.len⟩ ⟨_,hs,.inl rfl⟩
  ·exact(hs.2 b (bt (bp (be e) I.ok.above))).trans (I.base.keep b o e n hb hx)
  ·obtain⟨sl,e1⟩:=I.base.slot b o e n hb hx
   exact⟨sl,(hs.2 b (bt (bp (be e) I.ok.above))).trans e1⟩
  ·obtain⟨o',e1⟩:=I.base.there b o e hx
   exact⟨o',(hs.2 b (bt (bp (be e) I.ok.above))).trans e1⟩
  ·by_cases hj:j=i
   ·subst hj
    rw[hi]at e1;cases e1;rw[dv hiσ]at e2;cases e2;exact⟨u,r,.inl ⟨hk,3#0⟩⟩
   ·rw[dw (fw hj)]at e2
    obtain⟨u',r',q⟩:=hl j y v' e1 e2 e3;refine⟨u',r',?_⟩;rcases q with⟨k,e⟩ | ⟨k,c,e,z⟩
    ·refine .inl ⟨k,?_⟩
     have:y≠x:=λe=>hj (zmw hN e1 (e▸hi));simp[this,e]
    ·exact .inr ⟨k,c,e,z.sameBut hs (cne y c e)⟩
  ·obtain⟨w',z⟩:=I.cell y c e
   exact⟨w',z.sameBut hs (cne y c e)⟩
  ·obtain⟨e,n,ne,nf,d⟩:=I.pin p hp
   exact⟨(hs.2 p.1 ne).trans e,n,ne,nf,d⟩
 ·have hfn:X.fn x=true:=by
   rcases hf with z | z
   ·exact z
   ·rw[z]at hk;cases hk
  obtain⟨c,hc⟩:=I.ok.has x (.inl hk);obtain⟨w',z⟩:=I.cell x c hc;refine wpAny_storeName_cell I.ok.kind hk hc z (λh' hc' hs=> ?_);obtain⟨oc,hoc,hocd⟩:=id z;refine h {s with heap:=h'} ⟨I.ok,I.os,I.bare,⟨λb o e n hb hx=> ?_,λb o e n hb hx=> ?_,I.base.free,λb o e hx=> ?_,I.base.tups,I.base.frzs,I.base.tbls⟩,⟨m,hn.sameBut hs (fw (cne x c hc)),λj y v' e1 e2 e3=> ?_⟩,λy c' e=> ?_,I.free,I.freeC,λp hp=> ?_,tracked ⟨oc,hoc,I.freeC x c hc⟩ hs,by simpa using I.len⟩ ⟨c,hs,.inr hc⟩
  ·exact(hs.2 b (bt (bp (be e) (I.ok.cab x c hfn hc)))).trans (I.base.keep b o e n hb hx)
  ·obtain⟨sl,e1⟩:=I.base.slot b o e n hb hx
   exact⟨sl,(hs.2 b (bt (bp (be e) (I.ok.cab x c hfn hc)))).trans e1⟩
  ·obtain⟨o',e1⟩:=I.base.there b o e hx
   exact⟨o',(hs.2 b (bt (bp (be e) (I.ok.cab x c hfn hc)))).trans e1⟩
  ·by_cases hj:j=i
   ·subst hj
    rw[hi]at e1;cases e1;rw[dv hiσ]at e2;cases e2;exact⟨u,r,.inr ⟨.inl hk,c,hc,hc'⟩⟩
   ·rw[dw (fw hj)]at e2
    obtain⟨u',r',q⟩:=hl j y v' e1 e2 e3;refine⟨u',r',?_⟩;rcases q with q | ⟨k,c',e,z'⟩
    ·exact .inl q
    ·refine .inr ⟨k,c',e,z'.sameBut hs ?_⟩
     rintro rfl;exact hj (zmw hN e1 (I.ok.inj _ _ _ e hc▸hi))
  ·by_cases hcc:c'=c
   ·subst hcc;exact⟨_,hc'⟩
   ·obtain⟨w2,z2⟩:=I.cell y c' e
    exact⟨w2,z2.sameBut hs hcc⟩
  ·obtain⟨e,n,ne,nf,d⟩:=I.pin p hp
   refine⟨(hs.2 p.1 ?_).trans e,n,ne,nf,d⟩;intro q;rw[q,hoc]at e;have q':oc=p.2:=cf e;exact d w' (by rw[<- q'];exact hocd)
theorem lI {M:Model}{A:cw}{E:aa->ai->Prop}{i:Nat}{x:Str}{v:V}{u:aa}{Q:Unit->ai->Prop}(I:z4 X zc σ H s)(hN:X.N.Nodup)(hi:X.N[i]?=some x)(hx:tW X.env.scope x)(r:zO v u)
  (h: ∀s',z4 X zc (σ.set i (some v)) H s'->Q () s') (hf:X.fn x=true∨X.env.scope.names.lookup x=some .local:=by first | exact .inl rfl | exact .inr rfl | assumption):ay M A (storeName X.env x u) Q E s:=
 znV I hN hi hx r (λs' I' _=>h s' I') hf
theorem z4.call' {s':ai}{ch:List ac}(I:z4 X zc σ H s)(ho:s'.os=s.os)(u:Un (w5 X.stack) ch H H' s.heap s'.heap)(hok:xG X.prog X.w H' s'.heap)(hg:AllBare s'.gens)
  (hch: ∀b∈ch,2#9/\b≠X.env.locals/\0#7/\∀p∈X.pn++zc,p.1≠b):z4 X zc σ H' s':=by
 obtain⟨h',g',d',t',o'⟩:=s';have e:o'=s.os:=ho;subst e;exact I.call (g':=g') (t':=t') (d':=d') u hok hg hch
end
abbrev XK:=aa->Option ac->Hp->Prop
abbrev St:=List (Option V)
abbrev VK:=V->Hp->Prop
abbrev TE:=St->Hp->VK->Prop
abbrev TT:=St->Hp->(Bool->Hp->Prop)->Prop
abbrev TA:=St->Hp->(List V->Hp->Prop)->Prop
structure sK where
 nx:St->Hp->Prop
 rt:VK
 bk:St->Hp->Prop:=λ_ _=>False
 ct:St->Hp->Prop:=λ_ _=>False
abbrev TS:=sK->St->Hp->Prop
def EP (X:Cx)(zc:List 7#3)(σ:St)(Q:VK)(u:aa)(s':ai):Prop:= ∃v H',z4 X zc σ H' s'/\zO v u/\Q v H'
def TP (X:Cx)(zc:List 7#3)(σ:St)(Q:Bool->Hp->Prop)(b:Bool)(s':ai):Prop:= ∃H',z4 X zc σ H' s'/\Q b H'
def AP (X:Cx)(zc:List 7#3)(σ:St)(Q:List V->Hp->Prop)(us:List aa)(s':ai):Prop:= ∃vs H',z4 X zc σ H' s'/\zJ vs us/\Q vs H'
def SP (X:Cx)(zc:List 7#3)(D:sK)(f:Flow)(s':ai):Prop:=
 match f with
 | .next=> ∃σ' H',z4 X zc σ' H' s'/\D.nx σ' H'
 | .brk=> ∃σ' H',z4 X zc σ' H' s'/\D.bk σ' H'
 | .cont=> ∃σ' H',z4 X zc σ' H' s'/\D.ct σ' H'
 | .ret u=> ∃v σ' H',z4 X zc σ' H' s'/\zO v u/\D.rt v H'
structure PE (X:Cx)(e:Expr)(t:TE):Prop where
 run:
  ∀(zc:List 7#3) (s:ai) (σ:St) (H:Hp) (Q:VK),z4 X zc σ H s->t σ H Q->ay 1#2 X.A (eval e X.env) 7#4 X.xe s
instance {X:Cx} {e:Expr} {t:TE} :CoeFun (PE X e t) λ_=>
 ∀(zc:List 7#3) (s:ai) (σ:St) (H:Hp) (Q:VK),z4 X zc σ H s->t σ H Q->ay 1#2 X.A (eval e X.env) 7#4 X.xe s
  :=⟨PE.run⟩
structure PT (X:Cx)(e:Expr)(t:TT):Prop where
 run:
  ∀(zc:List 7#3) (s:ai) (σ:St) (H:Hp) (Q:Bool->Hp->Prop),z4 X zc σ H s->t σ H Q->ay 1#2 X.A (isTrue e X.env (eval e X.env)) (TP X zc σ Q) X.xe s
instance {X:Cx} {e:Expr} {t:TT} :CoeFun (PT X e t) λ_=>
 ∀(zc:List 7#3) (s:ai) (σ:St) (H:Hp) (Q:Bool->Hp->Prop),z4 X zc σ H s->t σ H Q->ay 1#2 X.A (isTrue e X.env (eval e X.env)) (TP X zc σ Q) X.xe s
  :=⟨PT.run⟩
structure PW (X:Cx)(e:Expr)(t:TT):Prop where
 run:
  ∀(whole:Sem aa) (zc:List 7#3) (s:ai) (σ:St) (H:Hp) (Q:Bool->Hp->Prop),z4 X zc σ H s->t σ H Q->ay 1#2 X.A (isTrue e X.env whole) (TP X zc σ Q) X.xe s
instance {X:Cx} {e:Expr} {t:TT} :CoeFun (PW X e t) λ_=>
 ∀(whole:Sem aa) (zc:List 7#3) (s:ai) (σ:St) (H:Hp) (Q:Bool->Hp->Prop),z4 X zc σ H s->t σ H Q->ay 1#2 X.A (isTrue e X.env whole) (TP X zc σ Q) X.xe s
  :=⟨PW.run⟩
theorem PW.pt {X:Cx}{e:Expr}{t:TT}(h:PW X e t):PT X e t:=⟨h.run _⟩
structure PA (X:Cx)(es:List Expr)(t:TA):Prop where
 run:
  ∀(pos:fe) (zc:List 7#3) (s:ai) (σ:St) (H:Hp) (Q:List V->Hp->Prop),z4 X zc σ H s->t σ H Q->ay 1#2 X.A (spliced (backTo pos 1#4)) (AP X zc σ Q) X.xe s
instance {X:Cx} {es:List Expr} {t:TA} :CoeFun (PA X es t) λ_=>
 ∀(pos:fe) (zc:List 7#3) (s:ai) (σ:St) (H:Hp) (Q:List V->Hp->Prop),z4 X zc σ H s->t σ H Q->ay 1#2 X.A (spliced (backTo pos 1#4)) (AP X zc σ Q) X.xe s
  :=⟨PA.run⟩
structure PS (X:Cx)(st:cu)(t:TS):Prop where
 run:
  ∀(zc:List 7#3) (s:ai) (σ:St) (H:Hp) (D:sK),z4 X zc σ H s->t D σ H->ay 1#2 X.A (exec st X.env) (SP X zc D) X.xe s
instance {X:Cx} {st:cu} {t:TS} :CoeFun (PS X st t) λ_=>
 ∀(zc:List 7#3) (s:ai) (σ:St) (H:Hp) (D:sK),z4 X zc σ H s->t D σ H->ay 1#2 X.A (exec st X.env) (SP X zc D) X.xe s
  :=⟨PS.run⟩
structure xC (X:Cx)(st:List cu)(t:TS):Prop where
 run:
  ∀(zc:List 7#3) (s:ai) (σ:St) (H:Hp) (D:sK),z4 X zc σ H s->t D σ H->ay 1#2 X.A (execs st X.env) (SP X zc D) X.xe s
instance {X:Cx} {st:List cu} {t:TS} :CoeFun (xC X st t) λ_=>
 ∀(zc:List 7#3) (s:ai) (σ:St) (H:Hp) (D:sK),z4 X zc σ H s->t D σ H->ay 1#2 X.A (execs st X.env) (SP X zc D) X.xe s
  :=⟨xC.run⟩
theorem zL {α:Type}{t:Sem α}{Q Q':α->ai->Prop}{M:Model}{A:cw}{E:aa->ai->Prop}{s:ai}(h:ay M A t Q E s)(hQ: ∀a s,Q a s->Q' a s):ay M A t Q' E s:=jy h hQ λ_ _ x=>x
section
variable {X:Cx}
def pD (i:Nat):TE:=λσ H Q=> ∃v,σ[i]?=some (some v)/\Q v H
def tC (v:V):TE:=λ_ H Q=>Q v H
theorem fL {i:Nat}{x:Str}{pos:fe}(hN:X.N[i]?=some x)(hv:kC X.env.scope x)(hd:8#3=false:=by decide)(hcd:(x==("__classdict__" :Str))=false:=by decide):PE X 3#16 (pD i):=by
 constructor;intro zc s σ H Q I h;obtain⟨v,e,h⟩:=h;obtain⟨m,hn,hl⟩:=I.loc;obtain⟨u,r,l⟩:=hl i x v hN e hv;have fin:EP X zc σ Q u s:=⟨v,H,I,r,h⟩;rcases l with⟨hk,hm⟩ | ⟨hk,c,hc,hcell⟩
 ·exact wpAny_Name (wpAny_loadName_local I.ok.kind hk hn hm fin) hd
 ·rcases hk with hk | hk
  ·exact wpAny_Name (wpAny_loadName_cell I.ok.kind hk hc hcell fin) hd
  ·exact wpAny_Name (wpAny_loadName_free I.ok.kind hk hc hcell fin hcd) hd
theorem zuu {i j pos} :PE X (.Constant 1#6 j pos) (tC 1#6):=⟨λ_ _ _ H _ I h=>wpAny_Constant_int ⟨.int i,H,I.tok _,⟨_,rfl⟩,h⟩⟩
theorem zuk {b j pos} :PE X (.Constant (.bool b) j pos) (tC (.bl b)):=⟨λ_ _ _ H _ I h=>Constant_bool ⟨.bl b,H,I,rfl,h⟩⟩
theorem zuz {j pos} :PE X (.Constant .none j pos) (tC .non):=⟨λ_ _ _ H _ I h=>Constant_none ⟨.non,H,I,rfl,h⟩⟩
theorem oR {x j pos} :PE X (.Constant (.str x) j pos) (tC (.str x)):=⟨λ_ _ _ H _ I h=>Calls.Constant_str ⟨.str x,H,I.tok _,⟨_,rfl⟩,h⟩⟩
def Gl (X:Cx)(x:Str):Prop:=X.env.kindOf x=some .globalImplicit
theorem qU {E:aa->ai->Prop}{zc:List 7#3}{s:ai}{σ:St}{H:Hp}{x:Str}{u:aa}{pos:fe}{Q:aa->ai->Prop}(I:z4 X zc σ H s)(hg:Gl X x)(hm:X.mg x=some u)(h:Q u s)
  (hd:8#3=false:=by decide):ay 1#2 X.A (eval 3#16 X.env) Q E s:=
 su I.ok.kind hg (Calls.loadGlobal_global (by rw[I.ok.glob];exact I.mod.glob.keeps I.bk) hm h) hd
theorem sY {E:aa->ai->Prop}{zc:List 7#3}{s:ai}{σ:St}{H:Hp}{x:Str}{u:aa}{pos:fe}{Q:aa->ai->Prop}(I:z4 X zc σ H s)(hg:Gl X x)(hm:X.mg x=none)(hv:bootBuiltins x=some u)(h:Q u s)
  (hn:x≠ "__name__" :=by decide) (hd:8#3=false:=by decide):ay 1#2 X.A (eval 3#16 X.env) Q E s:=by
 obtain⟨mb,h1,h2⟩:=I.mod.blt;exact su I.ok.kind hg (Calls.loadGlobal_builtin (by rw[I.ok.glob];exact I.mod.glob.keeps I.bk) hm (by rw[I.ok.blt];exact h1.keeps I.bk) ((h2 x hn).trans hv) h) hd
theorem mU {x:Str}{v:V}{u:aa}{pos:fe}(hg:Gl X x)(hm:X.mg x=some u)(r:zO v u)(hd:8#3=false:=by decide):PE X 3#16 (tC v):=
 ⟨λ_ _ _ H _ I h=>qU I hg hm ⟨v,H,I,r,h⟩ hd⟩
theorem zul {x:Str}{v:V}{u:aa}{pos:fe}(hg:Gl X x)(hm:X.mg x=none)(hv:bootBuiltins x=some u)(r:zO v u)(hn:x≠ "__name__" :=by decide)(hd:8#3=false:=by decide):PE X 3#16 (tC v):=
 ⟨λ_ _ _ H _ I h=>sY I hg hm hv ⟨v,H,I,r,h⟩ hn hd⟩
variable {a b:Expr} {ta tb:TE} {pos:fe}
structure PC (X:Cx)(op:CmpOp)(a b:Expr)(t:TE):Prop where
 run:
  ∀(zc:List 7#3) (s:ai) (σ:St) (H:Hp) (Q:VK),z4 X zc σ H s->t σ H Q->
   ay 1#2 X.A (eval a X.env) (λv s₁=>ay 1#2 X.A (eval b X.env) (λu s₂=>ay 1#2 X.A (compareOp op v u) 7#4 X.xe s₂) X.xe s₁) X.xe s
instance {X:Cx} {op:CmpOp} {a b:Expr} {t:TE} :CoeFun (PC X op a b t) λ_=>
 ∀(zc:List 7#3) (s:ai) (σ:St) (H:Hp) (Q:VK),z4 X zc σ H s->t σ H Q->
  ay 1#2 X.A (eval a X.env) (λv s₁=>ay 1#2 X.A (eval b X.env) (λu s₂=>ay 1#2 X.A (compareOp op v u) 7#4 X.xe s₂) X.xe s₁) X.xe s
  :=⟨PC.run⟩
variable {tA tB':TT} {zR:List Expr}
def zoe (t u:TT):TT:=λσ H Q=>t σ H λc H1=>if c=true then u σ H1 Q else Q false H1
def tOr (t u:TT):TT:=λσ H Q=>t σ H λc H1=>if c=true then Q true H1 else u σ H1 Q
def zxj (t:TT):TT:=λσ H Q=>t σ H λc H1=>Q (!c) H1
theorem zvh (ha:PT X a tA):PW X (.BoolOp .And [a] pos) tA:=by
 constructor;intro wh zc s σ H Q I h;refine isTrue_and (zL (ha zc s σ H Q I h) λc s1 e=> ?_);cases c with
 | true=>exact isTrue_and_nil e
 | false=>exact e
theorem zvj (ha:PT X a tA):PW X (.BoolOp .Or [a] pos) tA:=by
 constructor;intro wh zc s σ H Q I h;refine isTrue_or (zL (ha zc s σ H Q I h) λc s1 e=> ?_);cases c with
 | false=>exact isTrue_or_nil e
 | true=>exact e
theorem zvg (ha:PT X a tA)(hb:PW X (.BoolOp .And (b::zR) pos) tB'):PW X 0#19 (zoe tA tB'):=by
 constructor;intro wh zc s σ H Q I h;refine isTrue_and (zL 6#9 λc s1 ⟨H1,I1,q1⟩=> ?_);cases c with
 | true=>exact hb wh zc s1 σ H1 Q I1 q1
 | false=>exact⟨H1,I1,q1⟩
theorem zvi (ha:PT X a tA)(hb:PW X (.BoolOp .Or (b::zR) pos) tB'):PW X (.BoolOp .Or (a::b::zR) pos) (tOr tA tB'):=by
 constructor;intro wh zc s σ H Q I h;refine isTrue_or (zL 6#9 λc s1 ⟨H1,I1,q1⟩=> ?_);cases c with
 | true=>exact⟨H1,I1,q1⟩
 | false=>exact hb wh zc s1 σ H1 Q I1 q1
theorem zvc (ha:PT X a tA):PT X (.UnaryOp .Not a pos) (zxj tA):=by
 constructor;intro zc s σ H Q I h;exact isTrue_not (ha zc s σ H (λc H1=>Q (!c) H1) I h)
def zgj (ta tb:TE):TE:=λσ H Q=>ta σ H λx H1=> ∃c,x= .bl c/\if c=true then tb σ H1 Q else Q (.bl false) H1
def zog (ta:TE):TE:=λσ H Q=>ta σ H λx H1=> ∃c,x= .bl c/\Q (.bl (!c)) H1
theorem zfs {op}{t:TE}(h:PE X a t):PE X (.BoolOp op [a] pos) t:=⟨λzc s σ H Q I hw=>BoolOp_one (h zc s σ H Q I hw)⟩
theorem zfp (ha:PE X a ta)(hb:PE X (.BoolOp .And (b::zR) pos) tb):PE X 0#19 (zgj ta tb):=by
 constructor;intro zc s σ H Q I h;refine BoolOp_and (zL 6#9 λv s1 ⟨x,H1,I1,r1,q1⟩=> ?_);obtain⟨c,rfl,q1⟩:=q1;cases r1;refine pd ?_;cases c with
 | true=>exact hb zc s1 σ H1 Q I1 q1
 | false=>exact⟨.bl false,H1,I1,rfl,q1⟩
theorem zu0 (ha:PE X a ta):PE X (.UnaryOp .Not a pos) (zog ta):=by
 constructor;intro zc s σ H Q I h;refine UnaryOp_ (zL 6#9 λv s1 ⟨x,H1,I1,r1,q1⟩=> ?_);obtain⟨c,rfl,q1⟩:=q1;cases r1;exact not_of (pd ⟨.bl (!c),H1,I1,rfl,q1⟩)
def tIf (t:TT)(ta tb:TE):TE:=λσ H Q=>t σ H λc H1=>if c=true then ta σ H1 Q else tb σ H1 Q
theorem zut {c:Expr}(hc:PT X c tA)(ha:PE X a ta)(hb:PE X b tb):PE X (.IfExp c a b pos) (tIf tA ta tb):=by
 constructor;intro zc s σ H Q I h;refine wpAny_IfExp (zL (hc zc s σ H _ I h) λd s1 ⟨H1,I1,q1⟩=> ?_);cases d with
 | true=>exact ha zc s1 σ H1 Q I1 q1
 | false=>exact hb zc s1 σ H1 Q I1 q1
end
def x8 (K:Frag)(H:Hp)(a:ac)(xs:List V):Prop:=
 Rd H a 9#3∨
  ∃(o:af) (zf:Array aa) (n:Nat),K.lookup a=some o/\o.cls= .type 14#1 /\o.dict=none/\o.data= .seq zf n/\zf.size<=ak/\zJ xs zf.toList/\o.slots= #[]
def xT (K:Frag)(H:Hp)(a:ac)(xs:List V):Prop:=
 Rd H a 9#6∨
  ∃(o:af) (zf:Array aa) (n:Nat),K.lookup a=some o/\o.cls= .type 18#1 /\o.dict=none/\o.data= .seq zf n/\zf.size<=ak/\zJ xs zf.toList
def zpF:aa->Option V
 | .none=>some .non
 | .bool b=>some (.bl b)
 | .int i _=>some 1#6
 | .str x _=>some (.str x)
 | .bytes b _=>some (.byt b)
 | .float b _=>some (.flt b)
 | .ref a=>some 8#9
 | .type n=>some (.ty n)
 | _=>none
theorem zO.abs {x:V}{u:aa}(r:zO x u):zpF u=some x:=by
 cases x with
 | non=>cases r;rfl
 | bl _=>cases r;rfl
 | int _=>obtain⟨t,rfl⟩:=r;rfl
 | str _=>obtain⟨t,rfl⟩:=r;rfl
 | byt _=>obtain⟨t,rfl⟩:=r;rfl
 | flt _=>obtain⟨t,rfl⟩:=r;rfl
 | ref _=>cases r;rfl
 | ty _=>cases r;rfl
theorem zO.inj {x y:V}{u:aa}(r:zO x u)(q:zO y u):x=y:=cf (r.abs.symm.trans q.abs)
theorem zJ.inj: ∀{xs ys:List V} {us:List aa},zJ xs us->zJ ys us->xs=ys
 | _,_,_,.nil,.nil=>rfl
 | _,_,_,.cons r t,.cons r' t'=>by rw[r.inj r',zJ.inj t t']
section
variable {X:Cx} {zc:List (ac×af)} {σ:St} {H:Hp} {s:ai} {a:ac} {xs ys:List V}
theorem x8.of {K:Frag}(h:H a=some 9#3):x8 K H a xs:= .inl (.inl h)
theorem z4.list (I:z4 X zc σ H s)(h:x8 X.K H a xs): ∃zf:List aa,zJ xs zf/\PlainL s.heap a zf.toArray/\xs.length<=ak:=by
 rcases h with h | ⟨o,zf,n,hk,hc,hd,hs,hz,r,_⟩
 ·obtain⟨z,zf,n,r,e⟩:=h.ok I.hok
  exact⟨zf,r,⟨_,n,e,rfl,rfl,rfl⟩,z⟩
 ·refine⟨zf.toList,r,⟨o,n,I.kIn a o hk,hc,hd,by simpa using hs⟩,?_⟩
  have e:=r.length;simp only[jo]at e;grobner
theorem z4.tuple (I:z4 X zc σ H s)(h:xT X.K H a xs): ∃zf:List aa,zJ xs zf/\IsTup s.heap a zf.toArray/\xs.length<=ak:=by
 rcases h with h | ⟨o,zf,n,hk,hc,_,hs,hz,r⟩
 ·obtain⟨z,zf,r,p⟩:=h.ok I.hok
  exact⟨zf,r,p.tup,z⟩
 ·refine⟨zf.toList,r,⟨o,I.kIn a o hk,hc,n,by simpa using hs⟩,?_⟩
  have e:=r.length;simp only[jo]at e;grobner
theorem z4.listX (I:z4 X zc σ H s)(h:x8 X.K H a xs): ∃(zf:List aa) (n:Nat),zJ xs zf/\s.heap.get? a=some {cls:= .type 14#1,data:= .seq zf.toArray n} /\xs.length<=ak:=by
 rcases h with h | ⟨o,zf,n,hk,hc,hd,hs,hz,r,Ax⟩
 ·obtain⟨z,zf,n,r,e⟩:=h.ok I.hok
  exact⟨zf,n,r,e,z⟩
 ·obtain⟨cls,dict,data,slots⟩:=o
  dsimp only at hc hd hs Ax;subst hc hd hs Ax;refine⟨zf.toList,n,r,by simpa using I.kIn a _ hk,?_⟩;have e:=r.length;simp only[jo]at e;grobner
theorem z4.tupleD (I:z4 X zc σ H s)(h:xT X.K H a xs): ∃zf:List aa,zJ xs zf/\sL s.heap a zf.toArray/\xs.length<=ak:=by
 rcases h with h | ⟨o,zf,n,hk,hc,hd,hs,hz,r⟩
 ·obtain⟨z,zf,r,p⟩:=h.ok I.hok
  exact⟨zf,r,p,z⟩
 ·refine⟨zf.toList,r,⟨o,I.kIn a o hk,hc,n,by simpa using hs,hd⟩,?_⟩
  have e:=r.length;simp only[jo]at e;grobner
theorem z4.list_inj (I:z4 X zc σ H s)(h:x8 X.K H a xs)(h':x8 X.K H a ys):xs=ys:=by
 obtain⟨zf,r,⟨o,n,e,_,_,d⟩,_⟩:=I.list h;obtain⟨its',r',⟨o',n',e',_,_,d'⟩,_⟩:=I.list h';rw[e]at e';cases e';rw[d]at d';injection d' with d1 _
 have:zf=its':=by simpa using congrArg Array.toList d1
 subst this;exact r.inj r'
theorem z4.tuple_inj (I:z4 X zc σ H s)(h:xT X.K H a xs)(h':xT X.K H a ys):xs=ys:=by
 obtain⟨zf,r,⟨o,e,_,n,d⟩,_⟩:=I.tuple h;obtain⟨its',r',⟨o',e',_,n',d'⟩,_⟩:=I.tuple h';rw[e]at e';cases e';rw[d]at d';injection d' with d1 _
 have:zf=its':=by simpa using congrArg Array.toList d1
 subst this;exact r.inj r'
end
abbrev Cx.wish (X:Cx)(E:aa->ai->Prop):Cx:= {X with xe:=E}
abbrev Cx.nox (X:Cx):Cx:=X.wish λ_ _=>False
theorem Cx.Ok.wish {X:Cx}(ok:X.Ok)(E:aa->ai->Prop):(X.wish E).Ok:=
 ⟨ok.mod,ok.kind,ok.glob,ok.blt,ok.above,ok.inj,ok.has,ok.cab,ok.hd,ok.frames,ok.stk,ok.exf,ok.bs,ok.bsz,ok.noex,ok.exfs,ok.funs,ok.frf⟩
theorem Cx.Ok.unwish {X:Cx}{E:aa->ai->Prop}(ok:(X.wish E).Ok):X.Ok:=
 ⟨ok.mod,ok.kind,ok.glob,ok.blt,ok.above,ok.inj,ok.has,ok.cab,ok.hd,ok.frames,ok.stk,ok.exf,ok.bs,ok.bsz,ok.noex,ok.exfs,ok.funs,ok.frf⟩
section
variable {X:Cx} {zc:List (ac×af)} {σ:St} {H:Hp} {s:ai} {E:aa->ai->Prop}
theorem z4.wish (I:z4 X zc σ H s)(E:aa->ai->Prop):z4 (X.wish E) zc σ H s:=⟨I.ok.wish E,I.os,I.bare,I.base,I.loc,I.cell,I.free,I.freeC,I.pin,I.hok,I.len⟩
theorem z4.unwish (I:z4 (X.wish E) zc σ H s):z4 X zc σ H s:=⟨I.ok.unwish,I.os,I.bare,I.base,I.loc,I.cell,I.free,I.freeC,I.pin,I.hok,I.len⟩
theorem SP.unwish {D:sK}{f:Flow}{s':ai}(h:SP (X.wish E) zc D f s'):SP X zc D f s':=by
 cases f with
 | next=>obtain⟨σ',H',I,q⟩:=h;exact⟨σ',H',I.unwish,q⟩
 | brk=>obtain⟨σ',H',I,q⟩:=h;exact⟨σ',H',I.unwish,q⟩
 | cont=>obtain⟨σ',H',I,q⟩:=h;exact⟨σ',H',I.unwish,q⟩
 | ret u=>obtain⟨v,σ',H',I,r,q⟩:=h;exact⟨v,σ',H',I.unwish,r,q⟩
theorem xC.nox {st:List cu}{t:TS}(h:xC X.nox st t):xC X st t:=⟨λzc s σ H D I hw=>
 jy (h zc s σ H D (I.wish _) hw) (λ_ _ q=>q.unwish) λ_ _ z=>False.elim z⟩
end
section
variable {X:Cx} {st:cu} {zR:List cu} {t u:TS} {e:Expr} {te:TE} {pos:fe}
def zxh:TS:=λD σ H=>D.nx σ H
def zoj (t u:TS):TS:=λD σ H=>t {D with nx:=u D} σ H
theorem zvb:xC X [] zxh:=⟨λ_ _ σ H _ I h=>jz ⟨σ,H,I,h⟩⟩
theorem oS (h1:PS X st t)(h2:xC X zR u):xC X (st::zR) (zoj t u):=by
 constructor;intro zc s σ H D I h;refine nq (zL (h1 zc s σ H {D with nx:=u D} I h) λf s1 q=> ?_);cases f with
 | next=>
  obtain⟨σ',H',I',q⟩:=q;exact h2 zc s1 σ' H' D I' q
 | ret v=>exact q
 | brk=>exact q
 | cont=>exact q
theorem j7 (h1:PS X st t):xC X [st] t:=by
 constructor;intro zc s σ H D I h;refine nq (zL (h1 zc s σ H D I h) λf s1 q=> ?_);cases f with
 | next=>exact jz q
 | ret v=>exact q
 | brk=>exact q
 | cont=>exact q
theorem z4.quiet {zc:List 7#3}{σ:St}{H:Hp}{s:ai}(I:z4 X zc σ H s):interactive X.env=false:=by simp[interactive,I.ok.kind]
def zwX (te:TE):TS:=λD σ H=>te σ H λ_ H1=>D.nx σ H1
theorem fM (he:PE X e te)(hs:swapsWith e none pos.line X.env=pure false:=by rfl):PS X (.Expr e pos) (zwX te):=by
 constructor;intro zc s σ H D I h;exact wpAny_Expr_any (zL 1#8 λv s1 ⟨x,H1,I1,r1,q1⟩=>⟨σ,H1,I1,q1⟩) I.quiet hs
def zxm (te:TE):TS:=λD σ H=>te σ H D.rt
theorem zuX (he:PE X e te):PS X (.Return (some e) pos) (zxm te):=by
 constructor;intro zc s σ H D I h;exact wpAny_Return_some (zL 1#8 λv s1 ⟨x,H1,I1,r1,q1⟩=>⟨x,σ,H1,I1,r1,q1⟩)
def zxa (c:TT)(t u:TS):TS:=λD σ H=>c σ H λb H1=>if b=true then t D σ H1 else u D σ H1
theorem zuS {c:Expr}{a b:List cu}{tc:TT}(hc:PT X c tc)(ha:xC X a t)(hb:xC X b u):PS X (.If c a b pos) (zxa tc t u):=by
 constructor;intro zc s σ H D I h;refine wpAny_If (zL (hc zc s σ H _ I h) λd s1 ⟨H1,I1,q1⟩=> ?_);cases d with
 | true=>exact ha zc s1 σ H1 D I1 q1
 | false=>exact hb zc s1 σ H1 D I1 q1
def zxg:TS:=λ_ _ _=>False
theorem zuT:PS X st zxg:=⟨λ_ _ _ _ _ _ h=>h.elim⟩
end
abbrev TG:=V->St->Hp->(St->Hp->Prop)->Prop
abbrev uT:=List V->St->Hp->(St->Hp->Prop)->Prop
structure PG (X:Cx)(zh:Expr)(t:TG):Prop where
 run:
  ∀(zc:List 7#3) (s:ai) (σ:St) (H:Hp) (v:V) (u:aa) (Q:St->Hp->Prop),z4 X zc σ H s->zO v u->t v σ H Q->
   ay 1#2 X.A (assign zh X.env u) 1#9 X.xe s
instance {X:Cx} {zh:Expr} {t:TG} :CoeFun (PG X zh t) λ_=>
 ∀(zc:List 7#3) (s:ai) (σ:St) (H:Hp) (v:V) (u:aa) (Q:St->Hp->Prop),z4 X zc σ H s->zO v u->t v σ H Q->
  ay 1#2 X.A (assign zh X.env u) 1#9 X.xe s
  :=⟨PG.run⟩
structure uD (X:Cx)(ts:List Expr)(t:uT):Prop where
 run:
  ∀(zc:List 7#3) (s:ai) (σ:St) (H:Hp) (vs:List V) (us:List aa) (Q:St->Hp->Prop),z4 X zc σ H s->zJ vs us->t vs σ H Q->
   ay 1#2 X.A (assignInOrder ((assignEach ts X.env).map (·.2)) us) 1#9 X.xe s
instance {X:Cx} {ts:List Expr} {t:uT} :CoeFun (uD X ts t) λ_=>
 ∀(zc:List 7#3) (s:ai) (σ:St) (H:Hp) (vs:List V) (us:List aa) (Q:St->Hp->Prop),z4 X zc σ H s->zJ vs us->t vs σ H Q->
  ay 1#2 X.A (assignInOrder ((assignEach ts X.env).map (·.2)) us) 1#9 X.xe s
  :=⟨uD.run⟩
abbrev bL:=V->V->V->Hp->(Hp->Prop)->Prop
def iT (X:Cx)(t:bL):Prop:=
 ∀(zc:List 7#3) (s:ai) (σ:St) (H:Hp) (o i v:V) (ov iv u:aa) (Q:Hp->Prop),z4 X zc σ H s->zO o ov->zO i iv->zO v u->t o i v H Q->
  ay 1#2 X.A (setItem ov iv u) (λ_ s'=> ∃H',z4 X zc σ H' s'/\Q H') X.xe s
section
variable {X:Cx} {pos:fe}
def mE (i:Nat):TG:=λv σ H Q=>Q (σ.set i (some v)) H
theorem zu_ {i:Nat}{x:Str}(hN:X.N.Nodup)(hi:X.N[i]?=some x)(hx:tW X.env.scope x)(hf:X.fn x=true∨X.env.scope.names.lookup x=some .local:=by first | exact .inl rfl | exact .inr rfl | assumption):PG X 3#16 (mE i):=by
 constructor;intro zc s σ H v u Q I r h;exact wpAny_assign_Name (lI I hN hi hx r (λs' I'=>⟨_,H,I',h⟩) hf)
def zly:uT:=λvs σ H Q=>vs= []/\Q σ H
def zeE (t:TG)(u:uT):uT:=λvs σ H Q=> ∃v r,vs=v::r/\t v σ H λσ' H'=>u r σ' H' Q
theorem zmW:uD X [] zly:=by
 constructor;intro zc s σ H vs us Q I r h;obtain⟨e,h⟩:=h;subst e;cases r;exact assignInOrder_nil ⟨σ,H,I,h⟩
theorem zfw {e:Expr}{es:List Expr}{t:TG}{u:uT}(h1:PG X e t)(h2:uD X es u)
  (hs:(assignEach (e::es) X.env).map (·.2)=assign e X.env::(assignEach es X.env).map (·.2):=by rfl):uD X (e::es) (zeE t u):=by
 constructor;intro zc s σ H vs us Q I r h;obtain⟨v,vr,e1,h⟩:=h;subst e1;cases r with
 | cons r rr=>
  rw[hs];refine rh (zL (h1 zc s σ H _ _ _ I r h) λ_ s1 ⟨σ1,H1,I1,q1⟩=> ?_);exact h2 zc s1 σ1 H1 _ _ Q I1 rr q1
def zlz (K:Frag)(n:Nat)(t:uT):TG:=λv σ H Q=> ∃a xs,v= .ref a/\xT K H a xs/\xs.length=n/\t xs σ H Q
theorem zmV {es:List Expr}{k:Nat}{t:uT}{n:Nat}(hc:X.calm=true)(h:uD X es t)
  (hn:(assignEach es X.env).length=n:=by rfl) (Ag:(assignEach es X.env).findIdx? (·.1)=none:=by rfl):PG X (.Tuple es k pos) (zlz X.K n t):=by
 constructor;intro zc s σ H v u Q I r hw;obtain⟨a,xs,e1,hq,hl,hw⟩:=hw;subst e1;cases r;obtain⟨zf,rv,ht,hz⟩:=I.tuple hq;refine assign_Tuple_tuple 1#12 ht (by simp[hn,<- hl,rv.length]) Ag λh' hx=> ?_;have I1:z4 X zc σ H {s with heap:=h'} :=I.kept (t':=s.toks) λb o e=>hx b o (bt (be e)) e;exact h zc _ σ H xs _ Q I1 (by simpa using rv) hw
def zeF (to ti:TE)(t:bL):TG:=λv σ H Q=>to σ H λo H1=>ti σ H1 λi H2=>t o i v H2 λH3=>Q σ H3
theorem zfu {o i:Expr}{to ti:TE}{t:bL}(ho:PE X o to)(hi:PE X i ti)(hs:iT X t)
  (ha: ∀v,assign (.Subscript o i pos) X.env v=(do
   let ov <- holding [v] (eval o X.env)
   let iv <- holding [v,ov] (eval i X.env)
   standAt pos
   holding [v,ov,iv] (setItem ov iv v)
   release [v,ov,iv] []):=by intro _;rfl):PG X (.Subscript o i pos) (zeF to ti t):=by
 constructor;intro zc s σ H v u Q I r h;rw[ha];refine ad (dj (zL (ho zc s σ H _ I h) λov s1 ⟨x,H1,I1,r1,q1⟩=> ?_));refine ad (dj (zL (hi zc s1 σ H1 _ I1 q1) λiv s2 ⟨y,H2,I2,r2,q2⟩=> ?_));refine ad (ia (ad (dj (zL (hs zc s2 σ H2 x y v ov iv u _ I2 r1 r2 r q2) λ_ s3 ⟨H3,I3,q3⟩=> ?_))));exact wpAny_release ⟨σ,H3,I3,q3⟩
def nB (te:TE)(g:TG):TS:=λD σ H=>te σ H λx H1=>g x σ H1 D.nx
theorem zna {tg e:Expr}{te:TE}{g:TG}(he:PE X e te)(hg:PG X tg g)(hs:swapsWithSole [tg] e pos.line X.env=pure false:=by rfl)(hw:swappedStores [tg] e X.env=pure none:=by rfl)
  (h1:(assignEach [tg] X.env).map (·.2)= [assign tg X.env]:=by rfl):PS X (.Assign [tg] e pos) (nB te g):=by
 constructor;intro zc s σ H D I h;refine wpAny_Assign_stores (zL 1#8 λv s1 ⟨x,H1,I1,r1,q1⟩=> ?_) hs hw;rw[h1];exact zL (hg zc s1 σ H1 x v _ I1 r1 q1) λ_ s2 q=>q
theorem fN {i:Nat}{x:Str}{e:Expr}{te:TE}{pos':fe}(hN:X.N.Nodup)(hi:X.N[i]?=some x)(hx:tW X.env.scope x)(he:PE X e te)(hs:swapsWith e 4#12 pos.line X.env=pure false:=by rfl)(hf:X.fn x=true∨X.env.scope.names.lookup x=some .local:=by first | exact .inl rfl | exact .inr rfl | assumption):
  PS X (.Assign [.Name x pos'] e pos) (nB te (mE i)):=by
 constructor;intro zc s σ H D I h;refine wpAny_Assign_Name (zL 1#8 λv s1 ⟨y,H1,I1,r1,q1⟩=> ?_) hs;exact lI I1 hN hi hx r1 (λs2 I2=>⟨_,H1,I2,q1⟩) hf
def zxk (i j:Nat)(ta:TA):TS:=λD σ H=>ta σ H λvs H1=> ∃v w,vs= [v,w]/\D.nx ((σ.set i (some v)).set j (some w)) H1
theorem zuU {i j:Nat}{x y:Str}{a b:Expr}{ta:TA}{px py pt:fe}{kt k2 pt2}(hc:X.calm=true)(hN:X.N.Nodup)(hi:X.N[i]?=some x)(hj:X.N[j]?=some y)(Av:i≠j)
  (hx:X.env.scope.names.lookup x=some .local) (hy:X.env.scope.names.lookup y=some .local) (ha:PA X [a,b] ta)
  (hw:swappedStores 5#6 3#15 X.env=pure (some [x,y]))
  (hs:swapsWithSole 5#6 3#15 pos.line X.env=pure false:=by rfl):
  PS X (.Assign 5#6 3#15 pos) (zxk i j ta):=by
 constructor;intro zc s σ H D I h;rw[exec_Assign_arm];refine ad (ia ?_);rw[hs];refine ad (az ?_);rw[if_neg 2#0];refine ad (Tuple_ (zL (ha _ zc s σ H _ I h) λus s1 ⟨vs,H1,I1,r1,q1⟩=> ?_));obtain⟨v,w,e1,q1⟩:=q1;subst e1;obtain⟨u1,u2,rfl,rv,rw'⟩: ∃u1 u2,us= [u1,u2]/\zO v u1/\zO w u2:=by
  cases r1 with
  | cons p q=>
   cases q with
   | cons p' q'=>
    cases q';exact⟨_,_,rfl,p,p'⟩
 refine gw ?_ (by show 2<=ak;decide);have I2:z4 X zc σ H1 {s1 with heap:=s1.heap.push {cls:= .type 18#1,data:= .seq [u1,u2].toArray}} :=I1.kept (t':=s1.toks) λb o e=>ap _ e;rw[hw];refine ad (az ?_);show ay 1#2 X.A (do rule "assign.swapped-stores";let items <- unpackItems (.ref s1.heap.objs.size) 2 none;assignInOrder [λv=>bindName X.env y v,λv=>bindName X.env x v] items.reverse;pure Flow.next) _ _ _;refine ad (oy (ad (unpackItems_tuple (items:= #[u1,u2]) 1#12 (IsTup.new s1.heap _) λh' hx'=> ?_)));have I3:=I2.kept (h':=h') (t':=s1.toks) λb o e=>hx' b o (bt (be e)) e;show ay _ _ (assignInOrder [λv=>bindName X.env y v,λv=>bindName X.env x v] [u2,u1] >>= λ_=>pure Flow.next) _ _ _;refine ad (rh (wpAny_bindName (lI I3 hN hj (.inl hy) rw' (λs2 I4=> ?_) (.inr hy))));refine rh (wpAny_bindName (lI I4 hN hi (.inl hx) rv (λs3 I5=>assignInOrder_nil (az ?_)) (.inr hx)));rw[List.set_comm _ _ (fw Av)]at I5;exact⟨_,H1,I5,q1⟩
end
section
variable {X:Cx} {pos:fe}
def zxp (c:TT)(tb:TS):TS:=λD σ H=> ∃W:Nat->St->Hp->Prop,(∃m,W m σ H)/\∀m σ H,W m σ H->
 c σ H λb H1=>if b=true then ∃N:St->Hp->Prop,(∀σ' H',N σ' H'->∃m',m' < m/\W m' σ' H')/\tb {D with nx:=N,ct:=N,bk:=D.nx} σ H1 else D.nx σ H1
theorem zva {c:Expr}{body:List cu}{tc:TT}{tb:TS}(hp:PassesOwn 1#2 X.A X.env X.xe)(hc:PT X c tc)(hb:xC X body tb):PS X (.While c body [] pos) (zxp tc tb):=by
 constructor;intro zc s σ H D I h;obtain⟨W,⟨m0,w0⟩,turn⟩:=h;refine wpAny_While (codeAny_whileLoop (λn s'=> ∃σ' H',z4 X zc σ' H' s'/\W n σ' H') ?_ m0 ⟨σ,H,I,w0⟩);rintro n s1 ⟨σ1,H1,I1,w1⟩;refine lm hp (zL (hc zc s1 σ1 H1 _ I1 (turn n σ1 H1 w1)) λb s2 ⟨H2,I2,q2⟩=> ?_);cases b with
 | true=>
  obtain⟨N,hN,q2⟩:=q2;rw[if_pos rfl];refine lm hp (zL (hb zc s2 σ1 H2 _ I2 q2) λf s3 q3=> ?_);cases f with
  | next=>
   obtain⟨σ3,H3,I3,n3⟩:=q3;obtain⟨m',hm,w3⟩:=hN σ3 H3 n3;exact⟨m',hm,σ3,H3,I3,w3⟩
  | cont=>
   obtain⟨σ3,H3,I3,n3⟩:=q3;obtain⟨m',hm,w3⟩:=hN σ3 H3 n3;exact⟨m',hm,σ3,H3,I3,w3⟩
  | brk=>exact q3
  | ret v=>exact q3
 | false=>
  rw[if_neg fz];exact jz ⟨σ1,H2,I2,q2⟩
end
structure It where
 go:Nat->Hp->Prop
 yld:Nat->Hp->V->Hp->Prop
 stop:Nat->Hp->Prop
def qG (X:Cx)(zc:List 7#3)(H:Hp)(b:ac):Prop:=
 H b=none/\b≠X.env.locals/\b∉X.fs/\2#9/\0#7/\∀p∈X.pn++zc,p.1≠b
theorem z4.fpOk {X:Cx}{zc:List 7#3}{σ:St}{H H':Hp}{s:ai}{b:ac}(I:z4 X zc σ H s)(hb:s.heap.objs.size<=b)(hn:H' b=none):qG X zc H' b:=by
 refine⟨hn,gk (bp I.lt hb),I.nofs hb,.inr (bh I.sz hb),λx c e z=> ?_,λp hp z=> ?_⟩
 ·obtain⟨v,q⟩:=I.cell x c e
  exact absurd (bp q.lt (by rw[z];exact hb)) (gz _)
 ·exact absurd (bp (be (I.pin p hp).1) (by rw[z];exact hb)) (gz _)
structure nQ (P:ce)(w:ci)(K:Frag)(tg:Expr)(J:It)(fp:List ac)(it:ac)(tn:Nat->cn->Prop):Prop where
 mem:it∈fp
 obj: ∀i h,tn i h->∀b∈fp,∃o,h.get? b=some o/\∀v,o.data≠ .cell v
 keep: ∀i h h',tn i h->(∀b∈fp,∀o,h.get? b=some o->h'.get? b=some o)->tn i h'
 item: ∀(X:Cx),X.prog=P->X.w=w->X.K=K->X.calm=true->∀(i:Nat) (zc:List 7#3) (s:ai) (σ:St) (H:Hp) (E:aa->ai->Prop),z4 X zc σ H s->(∀b∈fp,qG X zc H b)->tn i s.heap->J.go i H->
  ay (bc P w) X.A (pyNext 9#12) (λr s1=> ∃u,r=some u/\
   ay (bc P w) X.A (letOwnedTupleGo tg 9#12 u) (λ_ s2=> ∃x H',z4 X zc σ H' s2/\zO x u/\J.yld i H x H'/\tn (i+1) s2.heap/\∀b∈fp,H' b=none) E s1) E s
 done: ∀(X:Cx),X.prog=P->X.w=w->X.K=K->X.calm=true->∀(i:Nat) (zc:List 7#3) (s:ai) (σ:St) (H:Hp) (E:aa->ai->Prop),z4 X zc σ H s->(∀b∈fp,qG X zc H b)->tn i s.heap->J.stop i H->
  ay (bc P w) X.A (pyNext 9#12) (λr s1=>r=none/\z4 X zc σ H s1) E s
 self: ∀(A:cw) (i:Nat) (s:ai) (Q:aa->ai->Prop) (E:aa->ai->Prop),tn i s.heap->Q 9#12 s->ay (bc P w) A (pyIter 9#12) Q E s
abbrev TI:=St->Hp->(It->Hp->Prop)->Prop
def iS (X:Cx)(zc:List 7#3)(σ:St)(tg:Expr)(R:It->Hp->Prop)(itv:aa)(s2:ai):Prop:=
 ∃(it:ac) (fp:List ac) (tn:Nat->cn->Prop) (J:It) (H':Hp),itv= .ref it/\z4 X zc σ H' s2/\nQ X.prog X.w X.K tg J fp it tn/\tn 0 s2.heap/\(∀b∈fp,qG X zc H' b)/\R J H'
structure PI (X:Cx)(tg zo:Expr)(wi:TI):Prop where
 run:
  ∀(zc:List 7#3) (s:ai) (σ:St) (H:Hp) (R:It->Hp->Prop),z4 X zc σ H s->wi σ H R->
   ay 1#2 X.A (eval zo X.env) (λv s1=>ay 1#2 X.A (pyIter v) (iS X zc σ tg R) X.xe s1) X.xe s
instance {X:Cx} {tg zo:Expr} {wi:TI} :CoeFun (PI X tg zo wi) λ_=>
 ∀(zc:List 7#3) (s:ai) (σ:St) (H:Hp) (R:It->Hp->Prop),z4 X zc σ H s->wi σ H R->
  ay 1#2 X.A (eval zo X.env) (λv s1=>ay 1#2 X.A (pyIter v) (iS X zc σ tg R) X.xe s1) X.xe s
  :=⟨PI.run⟩
theorem gV {M:Model}{A:cw}{E:aa->ai->Prop}{s:ai}{tg:Expr}{it:ac}{u:aa}{o:af}{n:String}{vs:Array aa}{Q:Unit->ai->Prop}(ho:s.heap.get? it=some o)(hc:o.cls= .type n)(hd:o.data= .fields vs)
  (hn: ["enumerate","zip","dict_itemiterator","dict_reverseitemiterator","odict_iterator","itertools.zip_longest","itertools.pairwise"].contains n=false) (hQ:Q () s):ay M A (letOwnedTupleGo tg 9#12 u) Q E s:=by
 unfold letOwnedTupleGo;cases tg <;> first
  | exact az hQ
  | (cases u <;> first
    | exact az hQ
    | (refine ad (wpAny_load ho ?_)
       rw[hc,hd];show ay M A (if(["enumerate","zip","dict_itemiterator","dict_reverseitemiterator","odict_iterator","itertools.zip_longest","itertools.pairwise"].contains n&&vs[0]?==some (rawInt _))=true then _ else _) Q E s;rw[if_neg (by intro h;rw[hn,yw]at h;cases h)];exact az hQ))
def iP (K:Frag)(a:ac):It:=
 ⟨λi H=> ∃xs x,x8 K H a xs/\xs[i]?=some x,λi H x H'=>H'=H/\∀xs,x8 K H a xs->xs[i]?=some x,λi H=> ∃xs,x8 K H a xs/\xs.length<=i⟩
def bD (K:Frag)(a:ac):It:=
 ⟨λi H=> ∃xs x,xT K H a xs/\xs[i]?=some x,λi H x H'=>H'=H/\∀xs,xT K H a xs->xs[i]?=some x,λi H=> ∃xs,xT K H a xs/\xs.length<=i⟩
def lZ (lo:Int)(n:Nat):It:=⟨λi _=>i < n,λi H x H'=>H'=H/\x= .int (lo+i),λi _=>n<=i⟩
theorem zx4 {P:ce}{w:ci}{K:Frag}{tg:Expr}(a it:ac):nQ P w K tg (iP K a) [it] it (λi h=>h.IsListIter it a i) where
 mem:=3#0
 obj:=λi h st b hb=>by
  have e:b=it:=by simpa using hb
  subst e;obtain⟨o,e,c,d⟩:=st;exact⟨o,e,λv z=>by rw[d]at z;cases z⟩
 keep:=λi h h' st k=>st.at λo e=>k it 3#0 o e
 item:=by
  intro X hP hw hK hc i zc s σ H E I hf st hg;subst hP hw hK;obtain⟨xs,x,hq,hx⟩:=hg;obtain⟨zf,rv,p,hz⟩:=I.list hq;obtain⟨u,hu,ru⟩:=rv.get hx;obtain⟨f0,f1,f2,f3,f4,f5⟩:=hf it 3#0;refine vj st p.isList (x:=u) (by simpa using hu) λh' zl sb=> ?_;have I1:z4 X zc σ H {s with heap:=h'} :=I.turned (t':=s.toks) (λb o hb e=>(sb.2 b hb).trans e) f0 f1 f3 f4 f5;obtain⟨o,e,c,d⟩:=id zl;exact⟨u,rfl,gV (s:= {s with heap:=h'}) e c d 2#0 ⟨x,H,I1,ru,⟨rfl,λys hy=>by rw[I.list_inj hy hq];exact hx⟩,zl,λb hb=>(hf b hb).1⟩⟩
 done:=by
  intro X hP hw hK hc i zc s σ H E I hf st hg;subst hP hw hK;obtain⟨xs,hq,hx⟩:=hg;obtain⟨zf,rv,p,hz⟩:=I.list hq;obtain⟨f0,f1,f2,f3,f4,f5⟩:=hf it 3#0;have hl:=rv.length;exact vq 1#12 st p.isList (by simp;grobner) λh' eb=>⟨rfl,I.turned (t':=s.toks) (λb o hb e=>eb b o hb e) f0 f1 f3 f4 f5⟩
 self:=λ_ _ _ _ _ st h=>wpAny_pyIter_listiter st h
theorem zx6 {P:ce}{w:ci}{K:Frag}{tg:Expr}(a it:ac):nQ P w K tg (bD K a) [it] it (λi h=>h.IsTupleIter it a i) where
 mem:=3#0
 obj:=λi h st b hb=>by
  have e:b=it:=by simpa using hb
  subst e;obtain⟨o,e,c,d⟩:=st;exact⟨o,e,λv z=>by rw[d]at z;cases z⟩
 keep:=λi h h' st k=>st.at λo e=>k it 3#0 o e
 item:=by
  intro X hP hw hK hc i zc s σ H E I hf st hg;subst hP hw hK;obtain⟨xs,x,hq,hx⟩:=hg;obtain⟨zf,rv,p,hz⟩:=I.tuple hq;obtain⟨u,hu,ru⟩:=rv.get hx;obtain⟨f0,f1,f2,f3,f4,f5⟩:=hf it 3#0;refine wpAny_pyNext_tuple_item st (show s.heap.IsTuple a zf.toArray from p) (x:=u) (by simpa using hu) λh' zl sb=> ?_;have I1:z4 X zc σ H {s with heap:=h'} :=I.turned (t':=s.toks) (λb o hb e=>(sb.2 b hb).trans e) f0 f1 f3 f4 f5;obtain⟨o,e,c,d⟩:=id zl;exact⟨u,rfl,gV (s:= {s with heap:=h'}) e c d 2#0 ⟨x,H,I1,ru,⟨rfl,λys hy=>by rw[I.tuple_inj hy hq];exact hx⟩,zl,λb hb=>(hf b hb).1⟩⟩
 done:=by
  intro X hP hw hK hc i zc s σ H E I hf st hg;subst hP hw hK;obtain⟨xs,hq,hx⟩:=hg;obtain⟨zf,rv,p,hz⟩:=I.tuple hq;obtain⟨f0,f1,f2,f3,f4,f5⟩:=hf it 3#0;have hl:=rv.length;exact wpAny_pyNext_tuple_end 1#12 st (show s.heap.IsTuple a zf.toArray from p) (by simp;grobner) λh' eb=>⟨rfl,I.turned (t':=s.toks) (λb o hb e=>eb b o hb e) f0 f1 f3 f4 f5⟩
 self:=λ_ _ _ _ _ st h=>wpAny_pyIter_tupleiter st h
theorem zx5 {P:ce}{w:ci}{K:Frag}{tg:Expr}(it:ac)(lo:Int)(n:Nat):nQ P w K tg (lZ lo n) [it] it (λi h=>IsRangeIter h it (lo+(i:Nat) * 1) ((n:Int) - (i:Nat)) 1) where
 mem:=3#0
 obj:=λi h st b hb=>by
  have e:b=it:=by simpa using hb
  subst e;exact⟨_,st,λv z=>by
   have z':Data.fields _=Data.cell v:=z;cases z'⟩
 keep:=λi h h' st k=>k it 3#0 _ st
 item:=by
  intro X hP hw hK hc i zc s σ H E I hf st hg;subst hP hw hK;obtain⟨f0,f1,f2,f3,f4,f5⟩:=hf it 3#0;have W:=Walks.range (prog:=X.prog) (w:=X.w) 1#12 it lo 1 n;refine W.item i s _ _ hg st λv h' tk hv zl kk=> ?_;obtain⟨t,rfl⟩:=hv;have I1:z4 X zc σ H {s with heap:=h',toks:=tk} :=I.turned 2#18 f0 f1 f3 f4 f5;refine⟨_,rfl,gV (s:= {s with heap:=h',toks:=tk}) (n:= "range_iterator") zl rfl rfl 2#0 ⟨.int (lo+i),H,I1,⟨t,?_⟩,⟨rfl,rfl⟩,zl,λb hb=>(hf b hb).1⟩⟩;rw[Int.mul_one]
 done:=by
  intro X hP hw hK hc i zc s σ H E I hf st hg;subst hP hw hK;obtain⟨f0,f1,f2,f3,f4,f5⟩:=hf it 3#0;exact wpAny_pyNext_range_end 1#12 st (by have:n<=i:=hg;grobner) λh' eb=>⟨rfl,I.turned (t':=s.toks) (λb o hb e=>eb b o hb e) f0 f1 f3 f4 f5⟩
 self:=λ_ _ _ _ _ st h=>wpAny_pyIter_rangeiter st h
section
variable {X:Cx} {tg:Expr}
theorem znr {zc:List 7#3}{σ:St}{H:Hp}{s:ai}{R:It->Hp->Prop}{E:aa->ai->Prop}{lo hi:Int}{t u v:nv}{tk:Nat}(I:z4 X zc σ H s)(h1: -(2 ^ 62)<=lo)(h2:lo < 2 ^ 62)(h3: -(2 ^ 62)<=hi)(h4:hi < 2 ^ 62)
  (q:R (lZ lo (hi - lo).toNat) H):ay 1#2 X.A (pyIter 4#6) (iS X zc σ tg R) E {s with heap:=s.heap.push {cls:= .type 53#1,data:= .fields #[.int lo t,.int hi u,.int 1 v]},toks:=tk} :=by
 refine wpAny_pyIter_range (IsRange.new ..) (small_one h1 h2 h3 h4) ?_;have I1:z4 X zc σ H {s with heap:=s.heap.push {cls:= .type 53#1,data:= .fields #[.int lo t,.int hi u,.int 1 v]},toks:=tk} :=I.kept λb o e=>ap _ e;refine⟨(s.heap.push {cls:= .type 53#1,data:= .fields #[.int lo t,.int hi u,.int 1 v]}).objs.size,[(s.heap.push {cls:= .type 53#1,data:= .fields #[.int lo t,.int hi u,.int 1 v]}).objs.size],_,_,H,rfl,
  I1.kept (t':=tk) λb o e=>ap _ e,zx5 _ lo (hi - lo).toNat,?_,λb hb=> ?_,q⟩
 ·have e1:lo+((0:Nat):Int) * 1=lo:=3#0
  have e2:(((hi - lo).toNat:Nat):Int) - ((0:Nat):Int)=Builtin.Range.rangeSize lo hi 1:=by rw[rangeSize_one];split <;> grobner
  show IsRangeIter _ _ (lo+((0:Nat):Int) * 1) ((((hi - lo).toNat:Nat):Int) - ((0:Nat):Int)) 1;rw[e1,e2];exact cm _ rfl
 ·have e:b=(s.heap.push {cls:= .type 53#1,data:= .fields #[.int lo t,.int hi u,.int 1 v]}).objs.size:=by simpa using hb
  subst e;exact I1.fpOk (ar _) (I1.hok.fresh (ar _))
def zr8 (ta:TA):TI:=λσ H R=>ta σ H λvs H1=> ∃j:Int,vs= [.int j]/\ -(2 ^ 62)<=j/\j < 2 ^ 62/\R (lZ 0 j.toNat) H1
def zr9 (ta:TA):TI:=λσ H R=>ta σ H λvs H1=> ∃i j:Int,vs= 8#17/\(-(2 ^ 62)<=i/\i < 2 ^ 62/\ -(2 ^ 62)<=j/\j < 2 ^ 62)/\R (lZ i (j - i).toNat) H1
theorem zuE {a:Expr}{ta:TA}{p pos:fe}(hg:Gl X 53#1)(hm:X.mg 53#1 =none)(ha:PA X [a] ta)(hs:starEach [a] X.env= [0#6]:=by rfl):PI X tg (.Call (.Name 53#1 p) [a] [] pos) (zr8 ta):=by
 constructor;intro zc s σ H R I h;refine Call_ (sY I hg hm boot_range (callWith_type1 (zL 6#12 λus s1 ⟨vs,H1,I1,r1,q1⟩=> ?_) hs rfl));obtain⟨j,e,q1,q2,q⟩:=q1;subst e;cases r1 with
 | cons r rr=>
  cases rr;obtain⟨t,rfl⟩:=r;exact call_range_1 (znr I1 0#0 0#0 q1 q2 (by simpa using q))
theorem zuF {a b:Expr}{ta:TA}{p pos:fe}(hg:Gl X 53#1)(hm:X.mg 53#1 =none)(ha:PA X [a,b] ta)(hs:starEach [a,b] X.env= [0#6,3#11]:=by rfl)(An:starEach [b] X.env= [3#11]:=by rfl):
  PI X tg (.Call (.Name 53#1 p) [a,b] [] pos) (zr9 ta):=by
 constructor;intro zc s σ H R I h;refine Call_ (sY I hg hm boot_range (callWith_type1 (zL 6#12 λus s1 ⟨vs,H1,I1,r1,q1⟩=> ?_) (by rw[hs,An]) (by rw[An];rfl)));obtain⟨i,j,e,⟨q1,q2,q3,q4⟩,q⟩:=q1;subst e;cases r1 with
 | cons r rr=>
  cases rr with
  | cons r' rr=>
   cases rr;obtain⟨t,rfl⟩:=r;obtain⟨t',rfl⟩:=r';exact call_range_2 (znr I1 q1 q2 q3 q4 q)
def zwY (wi:TI)(g:TG)(tb:TS):TS:=λD σ H=>wi σ H λJ H1=> ∃W:Nat->Nat->St->Hp->Prop,(∃m,W 0 m σ H1)/\∀i m σ H,W i m σ H->
 (J.stop i H/\D.nx σ H)∨(J.go i H/\∃N:St->Hp->Prop,(∀σ' H',N σ' H'->∃m',m' < m/\W (i+1) m' σ' H')/\∀x H',J.yld i H x H'->g x σ H' λσ2 H2=>tb {D with nx:=N,ct:=N,bk:=D.nx} σ2 H2)
def qA (fp:List ac)(h:cn):List 7#3:=fp.filterMap λb=>(h.get? b).map λo=>(b,o)
theorem mK {fp:List ac}{h:cn}{b:ac}{o:af}(hb:b∈fp)(e:h.get? b=some o):(b,o)∈qA fp h:=cy.mpr ⟨b,hb,by rw[e];rfl⟩
theorem zfj {fp:List ac}{h:cn}{p:ac×af}(hp:p∈qA fp h):p.1∈fp/\h.get? p.1=some p.2:=by
 obtain⟨b,hb,e⟩:=cy.mp hp;cases q:h.get? b with
 | none=>rw[q]at e;cases e
 | some o=>
  rw[q]at e;have e':(b,o)=p:=cf e;subst e';exact⟨hb,q⟩
theorem z4.pinned {zc:List 7#3}{σ:St}{H:Hp}{s:ai}{fp:List ac}(I:z4 X zc σ H s)(hf: ∀b∈fp,qG X zc H b)(ho: ∀b∈fp,∃o,s.heap.get? b=some o/\∀v,o.data≠ .cell v):z4 X (zc++qA fp s.heap) σ H s:=
 I.pins_of λp hp=>(aq.mp hp).elim (λz=>I.pin p (aj _ z)) λz=>by
  obtain⟨hb,e⟩:=zfj z;obtain⟨f0,f1,f2,_⟩:=hf p.1 hb;obtain⟨o,e',d⟩:=ho p.1 hb;rw[e]at e';cases e';exact⟨e,f0,f1,f2,d⟩
theorem z4.unpinned {zc pl:List 7#3}{σ:St}{H:Hp}{s:ai}(I:z4 X (zc++pl) σ H s):z4 X zc σ H s:=I.pins_of λp hp=>I.pin p (aj _ (ax _ hp))
theorem zuR {zo:Expr}{body:List cu}{wi:TI}{g:TG}{tb:TS}{pos:fe}(hp:PassesOwn 1#2 X.A X.env X.xe)(hc:X.calm=true)(hi:PI X tg zo wi)(hg:PG X tg g)(hb:xC X body tb)
  (hs: ∀x,foldedSetIterable zo X.env x=pure x:=by intro _;rfl):PS X (.For tg zo body [] pos) (zwY wi g tb):=by
 constructor;intro zc s σ H D I h;refine wpAny_For (zL (hi zc s σ H _ I h) λv s1 h1=>zL h1 λitv s2 h2=> ?_) hs;obtain⟨it,fp,tn,J,H2,e,I2,T,zi,f2,W,⟨m0,w0⟩,turn⟩:=h2;subst e;have As: ∀{H':Hp},2#12->∀b∈fp,qG X zc H' b:=λhn b hb=>⟨hn b hb,(f2 b hb).2⟩;refine codeAny_forLoop_any (λn s'=> ∃i σ' H',z4 X zc σ' H' s'/\tn i s'.heap/\2#12/\W i n σ' H') ?_ m0 ⟨0,σ,H2,I2,zi,λb hb=>(f2 b hb).1,w0⟩;rintro n s3 ⟨i,σ3,H3,I3,Ab,fr3,w3⟩;rcases turn i n σ3 H3 w3 with⟨stop,qn⟩ | ⟨go,N,hN,step⟩
 ·refine lm hp (zL (T.done X rfl rfl rfl hc i zc s3 σ3 H3 X.xe I3 (As fr3) Ab stop) λr s4 ⟨hr,I4⟩=> ?_)
  subst hr;exact jz ⟨σ3,H3,I4,qn⟩
 ·refine lm hp (zL (T.item X rfl rfl rfl hc i zc s3 σ3 H3 X.xe I3 (As fr3) Ab go) λr s4 ⟨u,hr,h4⟩=> ?_)
  subst hr;refine lm hp (zL h4 λ_ s5 ⟨x,H5,I5,r5,y5,st5,fr5⟩=> ?_);have I5':=I5.pinned (As fr5) (T.obj _ _ st5);refine lm hp (zL (hg _ s5 σ3 H5 x u _ I5' r5 (step x H5 y5)) λ_ s6 ⟨σ6,H6,I6,q6⟩=> ?_);refine lm hp (zL (hb _ s6 σ6 H6 _ I6 q6) λf s7 q7=> ?_);have again: ∀{σ7:St} {H7:Hp},z4 X (zc++qA fp s5.heap) σ7 H7 s7->N σ7 H7->∃m,m < n/\∃i σ' H',z4 X zc σ' H' s7/\tn i s7.heap/\2#12/\W i m σ' H':=λ{σ7 H7} I7 n7=>by
   obtain⟨m',hm,w7⟩:=hN σ7 H7 n7;refine⟨m',hm,i+1,σ7,H7,I7.unpinned,T.keep _ _ _ st5 λb hb o e=>(I7.pin (b,o) 4#13).1,λb hb=> ?_,w7⟩;obtain⟨o,e,d⟩:=T.obj _ _ st5 b hb;exact(I7.pin (b,o) 4#13).2.1
  cases f with
  | next=>obtain⟨σ7,H7,I7,n7⟩:=q7;exact again I7 n7
  | cont=>obtain⟨σ7,H7,I7,n7⟩:=q7;exact again I7 n7
  | brk=>obtain⟨σ7,H7,I7,q7⟩:=q7;exact⟨σ7,H7,I7.unpinned,q7⟩
  | ret v=>obtain⟨x7,σ7,H7,I7,r7,q7⟩:=q7;exact⟨x7,σ7,H7,I7.unpinned,r7,q7⟩
end
abbrev R2:=V->V->Hp->VK->Prop
def yJ (X:Cx)(f:aa->aa->Sem aa)(r:R2):Prop:=
 ∀(zc:List 7#3) (s:ai) (σ:St) (H:Hp) (x y:V) (v u:aa) (Q:VK),z4 X zc σ H s->zO x v->zO y u->r x y H Q->
  ay 1#2 X.A (f v u) 7#4 X.xe s
def kB (X:Cx)(f:aa->Sem aa)(r:V->Hp->VK->Prop):Prop:=
 ∀(zc:List 7#3) (s:ai) (σ:St) (H:Hp) (x:V) (v:aa) (Q:VK),z4 X zc σ H s->zO x v->r x H Q->
  ay 1#2 X.A (f v) 7#4 X.xe s
def wA (X:Cx)(f:aa)(r:List V->Hp->VK->Prop):Prop:=
 ∀(zc:List 7#3) (s:ai) (σ:St) (H:Hp) (xs:List V) (us:List aa) (Q:VK),z4 X zc σ H s->zJ xs us->r xs H Q->
  ay 1#2 X.A (call f us) 7#4 X.xe s
def zpA (X:Cx)(r:V->Hp->(Bool->Hp->Prop)->Prop):Prop:=
 ∀(zc:List 7#3) (s:ai) (σ:St) (H:Hp) (x:V) (v:aa) (Q:Bool->Hp->Prop),z4 X zc σ H s->zO x v->r x H Q->
  ay 1#2 X.A (truthy v) (TP X zc σ Q) X.xe s
def lN (r:R2)(ta tb:TE):TE:=λσ H Q=>ta σ H λx H1=>tb σ H1 λy H2=>r x y H2 Q
def tUn (r:V->Hp->VK->Prop)(ta:TE):TE:=λσ H Q=>ta σ H λx H1=>r x H1 Q
def rI (C:Int->Int->Prop)(g:Int->Int->V):R2:=λx y H Q=> ∃i j,x= .int i/\y= .int j/\C i j/\Q (g i j) H
def o0 (g:Int->Int->V):R2:=λx y H Q=> ∃i j,x= .int i/\y= .int j/\Q (g i j) H
def rU (g:Int->V):V->Hp->VK->Prop:=λx H Q=> ∃i,x= .int i/\Q (g i) H
section
variable {X:Cx} {a b c:Expr} {ta tb tc:TE} {pos:fe}
theorem bY (ha:PE X a ta)(hb:PE X b tb){zc:List 7#3}{s:ai}{σ:St}{H:Hp}{R:V->V->Hp->Prop}(I:z4 X zc σ H s)
  (h:ta σ H λx H1=>tb σ H1 λy H2=>R x y H2) {Q:aa->ai->Prop} {f:aa->aa->Sem aa}
  (hf: ∀v u s2 x y H2,z4 X zc σ H2 s2->zO x v->zO y u->R x y H2->ay 1#2 X.A (f v u) Q X.xe s2):
  ay 1#2 X.A (eval a X.env) (λv s₁=>ay 1#2 X.A (eval b X.env) (λu s₂=>ay 1#2 X.A (f v u) Q X.xe s₂) X.xe s₁) X.xe s:=by
 refine zL 6#9 λv s1 ⟨x,H1,I1,r1,q1⟩=> ?_;refine zL (hb zc s1 σ H1 _ I1 q1) λu s2 ⟨y,H2,I2,r2,q2⟩=> ?_;exact hf v u s2 x y H2 I2 r1 r2 q2
theorem zu1 {op:Operator}{r:R2}(ho:yJ X (binaryOp op) r)(ha:PE X a ta)(hb:PE X b tb):PE X (.BinOp a op b pos) (lN r ta tb):=by
 constructor;intro zc s σ H Q I h;exact wpAny_BinOp (bY ha hb I h λv u s2 x y H2 I2 rx ry q=>ho zc s2 σ H2 x y v u Q I2 rx ry q)
theorem zu4 {op:UnaryOp}{r:V->Hp->VK->Prop}(ho:kB X (unaryOp op) r)(ha:PE X a ta):PE X (.UnaryOp op a pos) (tUn r ta):=by
 constructor;intro zc s σ H Q I h;exact UnaryOp_ (zL 6#9 λv s1 ⟨x,H1,I1,r1,q1⟩=>ho zc s1 σ H1 x v Q I1 r1 q1)
theorem fD {f:aa->aa->Sem aa}{C:Int->Int->Prop}{g:Int->Int->Int}
  (rule: ∀(i j:Int) (t u:nv) (s:ai) (Q:aa->ai->Prop) (E:aa->ai->Prop),C i j->Q (.int (g i j) s.toks) {s with toks:=s.toks+1} ->ay 1#2 X.A (f (.int i t) (.int j u)) Q E s):
  yJ X f (rI C λi j=> .int (g i j)):=by
 intro zc s σ H x y v u Q I rx ry h;obtain⟨i,j,rfl,rfl,hc,q⟩:=h;obtain⟨t,rfl⟩:=rx;obtain⟨t',rfl⟩:=ry;exact rule i j t t' s _ _ hc ⟨.int (g i j),H,I.tok _,⟨_,rfl⟩,q⟩
theorem zmH {f:aa->aa->Sem aa}{g:Int->Int->Int}
  (rule: ∀(i j:Int) (t u:nv) (s:ai) (Q:aa->ai->Prop) (E:aa->ai->Prop),Q (.int (g i j) s.toks) {s with toks:=s.toks+1} ->ay 1#2 X.A (f (.int i t) (.int j u)) Q E s):
  yJ X f (o0 λi j=> .int (g i j)):=by
 intro zc s σ H x y v u Q I rx ry h;obtain⟨i,j,rfl,rfl,q⟩:=h;obtain⟨t,rfl⟩:=rx;obtain⟨t',rfl⟩:=ry;exact rule i j t t' s _ _ ⟨.int (g i j),H,I.tok _,⟨_,rfl⟩,q⟩
theorem zfl {f:aa->aa->Sem aa}{g:Int->Int->Bool}
  (rule: ∀(i j:Int) (t u:nv) (s:ai) (Q:aa->ai->Prop) (E:aa->ai->Prop),Q (.bool (g i j)) s->ay 1#2 X.A (f (.int i t) (.int j u)) Q E s):
  yJ X f (o0 λi j=> .bl (g i j)):=by
 intro zc s σ H x y v u Q I rx ry h;obtain⟨i,j,rfl,rfl,q⟩:=h;obtain⟨t,rfl⟩:=rx;obtain⟨t',rfl⟩:=ry;exact rule i j t t' s _ _ ⟨.bl (g i j),H,I,rfl,q⟩
def iE (i j:Int):Prop:=0<=j/\j<=1000000/\i.natAbs < 2 ^ 64
def cO (i j:Int):Prop:=(-(2 ^ 64) < i/\i < 2 ^ 64)∨(-(2 ^ 64) < j/\j < 2 ^ 64)
theorem cO.ok {i j:Int}(h:cO i j):IntMulOk i j:=by
 rcases h with⟨h1,h2⟩ | ⟨h1,h2⟩
 ·exact .of_left (intBits_le_64 h1 h2)
 ·exact .of_right (intBits_le_64 h1 h2)
theorem ztN:yJ X (binaryOp .Add) (o0 λi j=> .int (i+j)):=zmH λ_ _ _ _ _ _ _ q=>add_int q
theorem zue:yJ X (binaryOp .Sub) (o0 λi j=> .int (i - j)):=zmH λ_ _ _ _ _ _ _ q=>sub_int q
theorem ztZ:yJ X (binaryOp .Mult) (rI cO λi j=> .int (i * j)):=fD λ_ _ _ _ _ _ _ hc q=>mul_int q hc.ok
theorem ztY:yJ X (binaryOp .Mod) (rI (λ_ j=>0 < j) λi j=> .int (i % j)):=fD λi j _ _ _ _ _ hc q=>by
 have h1:(0:Int) < j:=hc;exact mod_int' 0#0 (by rw[Int.fmod_eq_emod_of_nonneg i 0#0];exact q)
theorem zud:yJ X (binaryOp .Pow) (rI iE λi j=> .int (i ^ j.toNat)):=fD λ_ _ _ _ _ _ _ hc q=>pow_int_small hc.1 hc.2.1 hc.2.2 q
theorem unI {f:aa->Sem aa}{g:Int->Int}
  (rule: ∀(i:Int) (t:nv) (s:ai) (Q:aa->ai->Prop) (E:aa->ai->Prop),Q (.int (g i) s.toks) {s with toks:=s.toks+1} ->ay 1#2 X.A (f (.int i t)) Q E s):
  kB X f (rU λi=> .int (g i)):=by
 intro zc s σ H x v Q I rx h;obtain⟨i,rfl,q⟩:=h;obtain⟨t,rfl⟩:=rx;exact rule i t s _ _ ⟨.int (g i),H,I.tok _,⟨_,rfl⟩,q⟩
theorem zxA:kB X (unaryOp .USub) (rU λi=> .int (-i)):=unI λ_ _ _ _ _ q=>neg_int q
end
section
variable {X:Cx} {a b c:Expr} {ta tb tc:TE} {pos:fe}
theorem ze7 {zc:List 7#3}{σ:St}{H:Hp}{s:ai}{Q:VK}{k k':Bool}(I:z4 X zc σ H s)(q:Q (.bl k) H)(e:k=k'):EP X zc σ Q (.bool k') s:=by
 subst e;exact⟨.bl k,H,I,rfl,q⟩
theorem ztX:yJ X (compareOp .Lt) (o0 λi j=> .bl (decide (i < j))):=zfl λ_ _ _ _ _ _ _ q=>lt_int q
theorem ztT:yJ X (compareOp .Gt) (o0 λi j=> .bl (decide (j < i))):=zfl λ_ _ _ _ _ _ _ q=>gt_int q
theorem ztS:yJ X (compareOp .GtE) (o0 λi j=> .bl (decide (j<=i))):=zfl λ_ _ _ _ _ _ _ q=>ge_int q
theorem ztV:yJ X (compareOp .In) (λx y H Q=> ∃i j,x= .str i/\y= .str j/\Q (.bl (!(Builtin.Str.occurrences j i 0 j.length 1).isEmpty)) H):=by
 intro zc s σ H x y v u Q I rx ry h;obtain⟨i,j,rfl,rfl,q⟩:=h;obtain⟨t,rfl⟩:=rx;obtain⟨t',rfl⟩:=ry;exact in_str (ze7 I q rfl)
theorem ztW:yJ X (compareOp .Is) (λx y H Q=>y= .non/\Q (.bl (decide (x= .non))) H):=by
 intro zc s σ H x y v u Q I rx ry h;obtain⟨rfl,q⟩:=h;cases ry;refine is_none_gen (ze7 I q ?_);cases x <;> first
  | (cases rx;rfl)
  | (obtain⟨t,rfl⟩:=rx;rfl)
theorem zuc:yJ X (compareOp .IsNot) (λx y H Q=>y= .non/\Q (.bl (!decide (x= .non))) H):=by
 intro zc s σ H x y v u Q I rx ry h;obtain⟨rfl,q⟩:=h;cases ry;refine isnot_none_gen (ze7 I q ?_);cases x <;> first
  | (cases rx;rfl)
  | (obtain⟨t,rfl⟩:=rx;rfl)
theorem qV (b:Expr){op:CmpOp}(h:op≠ .In:=by decide)(h2:op≠ .NotIn:=by decide):behindInMarks op b=false:=by
 have e1:(op==CmpOp.In)=false:=by cases op <;> first | rfl | exact absurd rfl h
 have e2:(op==CmpOp.NotIn)=false:=by cases op <;> first | rfl | exact absurd rfl h2
 cases b <;> simp[behindInMarks,e1,e2]
theorem zup {op:CmpOp}{r:R2}(ho:yJ X (compareOp op) r)(ha:PE X a ta)(hb:PE X b tb)(hm:behindInMarks op b=false):PE X 8#15 (lN r ta tb):=by
 constructor;intro zc s σ H Q I h;exact wpAny_Compare1 (bY ha hb I h λv u s2 x y H2 I2 rx ry q=>ho zc s2 σ H2 x y v u Q I2 rx ry q) hm
def zok (t:TE):TT:=λσ H Q=>t σ H λx H'=> ∃k,x= .bl k/\Q k H'
theorem znc {op:CmpOp}{r:R2}(ho:yJ X (compareOp op) r)(ha:PE X a ta)(hb:PE X b tb)(hm:behindInMarks op b=false):PT X 8#15 (zok (lN r ta tb)):=by
 constructor;intro zc s σ H Q I h;refine wpAny_isTrue_Compare1 (zL 6#9 λv s1 ⟨x,H1,I1,r1,q1⟩=>zL (hb zc s1 σ H1 _ I1 q1) λu s2 ⟨y,H2,I2,r2,q2⟩=>
  zL (ho zc s2 σ H2 x y v u _ I2 r1 r2 q2) λc s3 ⟨z,H3,I3,r3,k,e,q3⟩=> ?_) hm
 subst e;cases r3;exact pd ⟨H3,I3,q3⟩
def bN (K:Frag)(x:V)(H:Hp)(k:Bool):Prop:=
 match x with
 | .non=>k=false
 | .bl b=>k=b
 | .int i=>k=(i !=0)
 | .str y=>y.length<=ak/\k=((y.length:Int) !=0)
 | .byt y=>y.size<=ak/\k=((y.size:Int) !=0)
 | .ref p=>(∃xs,x8 K H p xs/\k= !xs.isEmpty)∨(∃xs,xT K H p xs/\k= !xs.isEmpty)∨∃kvs,H p=some (.dK kvs)/\k= !kvs.isEmpty
 | _=>False
theorem zrD {κ:Type}{kvs:List (κ×V)}{vs:List (κ×aa)}(r:KV kvs vs):(!vs.isEmpty)= !kvs.isEmpty:=by
 cases r <;> rfl
theorem zlH {xs:List V}{zf:List aa}(r:zJ xs zf):(!zf.toArray.isEmpty)= !xs.isEmpty:=by
 cases r <;> simp
theorem rT:(ak:Nat) < 2 ^ 63:=by rw[di];decide
theorem zxz:zpA X (λx H Q=> ∃k,bN X.K x H k/\Q k H):=by
 intro zc s σ H x v Q I rx h;obtain⟨k,e,q⟩:=h;have hl:=rT;have hs:ak=16777216:=di;cases x with
 | non=>
  cases rx;have e':k=false:=e;subst e';exact truthy_none ⟨H,I,q⟩
 | bl b=>
  cases rx;have e':k=b:=e;subst e';exact pd ⟨H,I,q⟩
 | int i=>
  obtain⟨t,rfl⟩:=rx;have e':k=(i !=0):=e;subst e';exact PySem.P.truthy_int ⟨H,I,q⟩
 | str y=>
  obtain⟨t,rfl⟩:=rx;obtain⟨hy,e'⟩:y.length<=ak/\k=((y.length:Int) !=0):=e;subst e';exact PySem.P.truthy_str 0#0 ⟨H,I.tok _,q⟩
 | byt y=>
  obtain⟨t,rfl⟩:=rx;obtain⟨hy,e'⟩:y.size<=ak/\k=((y.size:Int) !=0):=e;subst e';exact PySem.W.truthy_bytes 0#0 ⟨H,I.tok _,q⟩
 | ref p=>
  cases rx;have e':(∃xs,x8 X.K H p xs/\k= !xs.isEmpty)∨(∃xs,xT X.K H p xs/\k= !xs.isEmpty)∨∃kvs,H p=some (.dK kvs)/\k= !kvs.isEmpty:=e;rcases e' with⟨xs,hx,e'⟩ | ⟨xs,hx,e'⟩ | ⟨kvs,hx,e'⟩
  ·subst e'
   obtain⟨zf,r,pl,hz⟩:=I.list hx;have zu:=r.length;exact wpAny_truthy_list pl.isList (by simp only[bq];grobner) ⟨H,I.tok _,by rw[zlH r];exact q⟩
  ·subst e'
   obtain⟨zf,r,pl,hz⟩:=I.tuple hx;have zu:=r.length;exact truthy_tuple pl (by simp only[bq];grobner) ⟨H,I.tok _,by rw[zlH r];exact q⟩
  ·subst e'
   obtain⟨hz,hS,vs,r,m⟩:kvs.length<=ak/\(p==sysModules)=false/\∃vs,KV kvs vs/\s.heap.DictOf (wD X.prog X.w) p vs:=I.hok p _ hx;have zu:kvs.length=vs.length:=jh r;exact wpAny_truthy_dict hS m 0#0 ⟨H,I.tok _,by rw[zrD r];exact q⟩
 | _=>exact(show False from e).elim
theorem zvd (ha:PE X a ta)(he: ∀whole,isTrue a X.env whole=(do let v <- whole;standAt a.pos;holding [v] (truthy v))):
  PT X a (λσ H Q=>ta σ H λx H'=> ∃k,bN X.K x H' k/\Q k H'):=by
 constructor;intro zc s σ H Q I h;exact isTrue_plain (zL 6#9 λv s1 ⟨x,H1,I1,r1,q1⟩=>zxz zc s1 σ H1 x v Q I1 r1 q1) (he _)
theorem ztO:yJ X (binaryOp .Add) (λx y H Q=> ∃i j,x= .str i/\y= .str j/\i.length+j.length<=ak/\Q (.str (i++j)) H):=by
 intro zc s σ H x y v u Q I rx ry h;obtain⟨i,j,rfl,rfl,hz,q⟩:=h;obtain⟨t,rfl⟩:=rx;obtain⟨t',rfl⟩:=ry;exact add_str (λt' tk=>⟨.str (i++j),H,I.tok _,⟨_,rfl⟩,q⟩) hz
theorem o7 {x:V}{us:List aa}(r:zJ [x] us): ∃u,us= [u]/\zO x u:=by
 cases r with
 | cons r1 r2=>cases r2;exact⟨_,rfl,r1⟩
theorem zhA:wA X (.type "int") (λxs H Q=>(∃i,xs= [.int i]/\Q 1#6 H)∨∃k,xs= [.bl k]/\Q (.int (if k then 1 else 0)) H):=by
 intro zc s σ H xs us Q I r h;rcases h with⟨i,rfl,q⟩ | ⟨k,rfl,q⟩
 ·obtain⟨u,rfl,t,rfl⟩:=o7 r
  exact call_int_int ⟨.int i,H,I,⟨_,rfl⟩,q⟩
 ·obtain⟨u,rfl,r1⟩:=o7 r
  cases r1;exact call_int_bool ⟨.int (if k then 1 else 0),H,I.tok _,⟨_,rfl⟩,q⟩
def zp8 (K:Frag)(x:V)(H:Hp)(n:Nat):Prop:=
 match x with
 | .str y=>y.length<=ak/\n=y.length
 | .byt y=>y.size<=ak/\n=y.size
 | .ref p=>(∃xs,x8 K H p xs/\n=xs.length)∨∃xs,xT K H p xs/\n=xs.length
 | _=>False
theorem hZ:wA X (.builtin "len") (λxs H Q=> ∃x n,xs= [x]/\zp8 X.K x H n/\Q (.int n) H):=by
 intro zc s σ H xs us Q I r h;obtain⟨x,n,rfl,e,q⟩:=h;obtain⟨u,rfl,rx⟩:=o7 r;have hl:=rT;have hs:ak=16777216:=di;cases x with
 | str y=>
  obtain⟨t,rfl⟩:=rx;obtain⟨hy,e'⟩:y.length<=ak/\n=y.length:=e;subst e';exact len_str 0#0 ⟨.int _,H,I.tok _,⟨_,rfl⟩,q⟩
 | byt y=>
  obtain⟨t,rfl⟩:=rx;obtain⟨hy,e'⟩:y.size<=ak/\n=y.size:=e;subst e';exact PySem.W.len_bytes 0#0 ⟨.int _,H,I.tok _,⟨_,rfl⟩,q⟩
 | ref p=>
  cases rx;have e':(∃xs,x8 X.K H p xs/\n=xs.length)∨∃xs,xT X.K H p xs/\n=xs.length:=e;rcases e' with⟨xs,hx,e'⟩ | ⟨xs,hx,e'⟩
  ·subst e'
   obtain⟨zf,r',pl,hz⟩:=I.list hx;have zu:=r'.length;exact Calls.call_len_list pl.isList (by simp only[bq];grobner) ⟨.int xs.length,H,I.tok _,⟨_,by simp only[bq];rw[zu]⟩,q⟩
  ·subst e'
   obtain⟨zf,r',pl,hz⟩:=I.tuple hx;have zu:=r'.length;exact len_tuple pl (by simp only[bq];grobner) ⟨.int xs.length,H,I.tok _,⟨_,by simp only[bq];rw[zu]⟩,q⟩
 | _=>exact(show False from e).elim
end
theorem uE.some_of {v:V}{o:Option aa}(r:uE (some v) o): ∃u,o=some u/\zO v u:=by
 cases o with
 | none=>exact(show False from r).elim
 | some u=>exact⟨u,rfl,r⟩
def bH (K:Frag)(C:ac)(f:Str):Prop:=findIn K 5#5 f=some none
structure zI (k:Nat)(A:cw):Prop where
 hd:A.handled=none
 dp:A.depth+3 * k+5 < recursionLimit
 un:A.units+16 * k+200 < cLine
theorem zI.mono {j k:Nat}{A:cw}(r:zI k A)(h:j<=k):zI j A:=⟨r.hd,by have:=r.dp;grobner,by have:=r.un;grobner⟩
theorem zI.deeper {k:Nat}{A:cw}(r:zI (k+1) A)(env:ly):zI k (A.deeper env):=
 ⟨r.hd,by have:=r.dp;show A.depth+1+3 * k+5 < _;grobner,by have:=r.un;show A.units+3+16 * k+200 < _;grobner⟩
theorem zmi {A:cw}{C:ac}{us:List aa}{kw:List (Str×aa)} :(A.under 7#13).depth=A.depth+1:=by
 first | rfl | simp[Around.under,Code.weight,Code.isCreation,Code.isGuard,Code.isCaller,Code.frames,Code.isFrame,guardIds]
theorem zsy {A:cw}{C:ac}{us:List aa}{kw:List (Str×aa)} :(A.under 7#13).units=A.units+1:=by
 first | rfl | simp[Around.under,Code.cUnits,Code.frames,Code.isFrame]
theorem zI.make {k:Nat}{A:cw}(r:zI (k+1) A)(C:ac)(us:List aa)(kw:List (Str×aa)):zI k (A.under 7#13):=
 ⟨r.hd,by have:=r.dp;rw[zmi];grobner,by have:=r.un;rw[zsy];grobner⟩
theorem zI.depth {k:Nat}{A:cw}(r:zI k A):A.depth < recursionLimit:=by have:=r.dp;grobner
theorem zI.units {k:Nat}{A:cw}(r:zI k A):A.units+64 < cLine:=by have:=r.un;grobner
def lM:TA:=λ_ H Q=>Q [] H
def sI (ta:TE)(tr:TA):TA:=λσ H Q=>ta σ H λx H1=>tr σ H1 λxs H2=>Q (x::xs) H2
section
variable {X:Cx} {e:Expr} {es:List Expr} {te:TE} {t:TA} {pos:fe}
theorem rZ:PA X [] lM:=⟨λ_ _ _ _ H Q I h=>lu ⟨[],H,I,.nil,h⟩⟩
theorem vJ (ha:PE X e te)(hr:PA X es t)(hs:starEach (e::es) X.env=5#3::starEach es X.env:=by rfl):PA X (e::es) (sI te t):=by
 constructor;intro pos zc s σ H Q I h;rw[hs];show ay _ _ (spliced (5#3::backTo pos 1#4)) _ _ s;refine lh (zL 6#9 λu s1 ⟨x,H1,I1,r1,q1⟩=> ?_);exact zL (hr pos zc s1 σ H1 _ I1 q1) λus s2 ⟨xs,H2,I2,r2,q2⟩=>⟨x::xs,H2,I2,.cons r1 r2,q2⟩
def zgn (t:TA):TE:=λσ H Q=>t σ H λxs H1=>xs.length<=ak/\∀p,H1 p=none->Q 3#13 (upd H1 p 9#6)
def zxc (t:TA):TE:=λσ H Q=>t σ H λxs H1=>xs.length<=ak/\∀p,H1 p=none->Q 3#13 (upd H1 p 9#3)
theorem zft {x1}(h:PA X es t):PE X (.Tuple es x1 pos) (zgn t):=by
 constructor;intro zc s σ H Q I hq;refine wpAny_Tuple_spliced (zL (h pos zc s σ H _ I hq) λus s1 ⟨xs,H1,I1,r,z,q⟩=>⟨by rw[<- r.length];exact z,?_⟩);have hf:H1 s1.heap.objs.size=none:=I1.hok.fresh (ar _);refine⟨.ref s1.heap.objs.size,upd H1 s1.heap.objs.size 9#6,I1.laid (t':=s1.toks) (λb u e=>ap _ e) (ar _) ?_,rfl,q _ hf⟩;exact⟨z,us,r,⟨_,cm _ rfl,rfl,_,rfl,rfl⟩⟩
theorem zmU (h:PA X es t):PE X (.List es pos) (zxc t):=by
 constructor;intro zc s σ H Q I hq;refine wpAny_List_spliced (zL (h pos zc s σ H _ I hq) λus s1 ⟨xs,H1,I1,r,z,q⟩=>⟨by rw[<- r.length];exact z,?_⟩);have hf:H1 s1.heap.objs.size=none:=I1.hok.fresh (ar _);refine⟨.ref s1.heap.objs.size,upd H1 s1.heap.objs.size 9#3,I1.laid (t':=s1.toks) (λb u e=>ap _ e) (ar _) ?_,rfl,q _ hf⟩;exact⟨z,us,0,r,cm _ rfl⟩
end
abbrev Sp:=List V->Hp->VK->XK->Prop
abbrev uC:=List ly->Hp->ai->XK->aa->ai->Prop
structure uR (P:ce)(w:ci)(K:Frag)(mg:Str->Option aa)(base:cn)(A:cw)(outer:List ly)(s:ai)(H:Hp):Prop where
 frames:A.frames=some outer
 mod:Mod K mg base
 bs: ∀b o,base.get? b=some o->s.heap.get? b=some o/\H b=none
 bsz:base.objs.size<=s.heap.objs.size
 funs:s.heap.FunFrames base outer
 frf: ∀b∈w5 outer,H b=none
 hok:xG P w H s.heap
 bare:AllBare s.gens
def CE (outer:List ly)(P:ce)(w:ci)(H:Hp)(s:ai)(Q:VK)(u:aa)(s':ai):Prop:=
 ∃v H',s'.os=s.os/\AllBare s'.gens/\Un (w5 outer) [] H H' s.heap s'.heap/\xG P w H' s'.heap/\zO v u/\Q v H'
def CR (CX:uC)(outer:List ly)(P:ce)(w:ci)(H:Hp)(s:ai)(Q:VK)(E:XK)(r:Result)(s':ai):Prop:=
 match r with
 | .ok (.ret u)=>CE outer P w H s Q u s'
 | .ok _=>False
 | .error e=>CX outer H s E e s'
structure zM (P:ce)(w:ci)(K:Frag)(mg:Str->Option aa)(base:cn)(CX:uC)(k:Nat)(f:ac)(fd:bu)(ps:List Str)(sp:Sp):Prop where
 len: ∀vs H Q E,sp vs H Q E->vs.length=ps.length
 run: ∀(A:cw) (outer:List ly) (s:ai) (H:Hp) (args:Args) (us:List aa) (vs:List V) (Q:VK) (E:XK),zI k A->uR P w K mg base A outer s H->BindsTo s fd args (ps.zip us)->zJ vs us->sp vs H Q E->
  kf (bc P w) A (.call 2#8 args) (CR CX outer P w H s Q E) s
theorem uR.make {P:ce}{w:ci}{K:Frag}{mg:Str->Option aa}{base:cn}{A:cw}{outer:List ly}{s:ai}{H:Hp}(e:uR P w K mg base A outer s H)(C:ac)(us:List aa)(kw:List (Str×aa)):
  uR P w K mg base (A.under 7#13) outer s H:=⟨by first | exact e.frames | (simpa [Around.under,Code.envs,Code.isFrame,pushEnvs]using e.frames),e.mod,e.bs,e.bsz,e.funs,e.frf,e.hok,e.bare⟩
section
variable {X:Cx} {zc:List (ac×af)} {σ:St} {H:Hp} {s s':ai}
theorem z4.env0 (I:z4 X zc σ H s):uR X.prog X.w X.K X.mg X.base X.A X.stack s H:=
 ⟨I.ok.frames,I.ok.mod,I.bs,bh I.ok.bsz I.sz,I.stack,I.stkFree,I.hok,I.bare⟩
theorem z4.after {Q:VK}{u:aa}(I:z4 X zc σ H s)(h:CE X.stack X.prog X.w H s Q u s'):EP X zc σ Q u s':=by
 obtain⟨v,H',os,bare,un,hok,r,q⟩:=h;obtain⟨hh,g,d,t,os'⟩:=s';obtain rfl:os'=s.os:=os;exact⟨v,H',I.call (h':=hh) (g':=g) (d':=d) (t':=t) (ch:= []) un hok bare (λb z=>absurd z 3#0),r,q⟩
end
def zwV (sp:Sp)(dvs:List V)(E:XK)(t:TA):TE:=λσ H Q=>t σ H λvs H1=>sp (vs++dvs) H1 Q E
def xI (K:Frag)(fd:bu)(ps:List Str)(ds:List aa):Prop:=
 ∀(s:ai) (us:List aa),K.In s.heap->(us++ds).length=ps.length->BindsTo s fd ⟨us,[]⟩ (ps.zip (us++ds))
theorem xI.all {K:Frag}{fd:bu}{ps:List Str}(h: ∀us:List aa,us.length=ps.length->bindArgs fd ⟨us,[]⟩=pure (ps.zip us)):xI K fd ps []:=λs us _ hl=>by
 rw[da]at hl⊢
 exact .of_eq (h us hl)
def rK (CX:uC)(X:Cx)(E:XK):Prop:= ∀(zc:List 7#3) (σ:St) (H:Hp) (s:ai) (e:aa) (s':ai),z4 X zc σ H s->CX X.stack H s E e s'->X.xe e s'
section
variable {X:Cx} {CX:uC} {k:Nat} {f C:ac} {fd:bu} {ps:List Str} {sp:Sp} {dvs:List V} {ds:List aa} {E:XK} {x m:Str} {p pos Af:fe} {e o:Expr} {es:List Expr} {ta:TE} {t:TA}
theorem zvY {zc:List 7#3}{σ:St}{H:Hp}{s:ai}{Q:VK}{us:List aa}{vs:List V}(F:zM X.prog X.w X.K X.mg X.base CX k f fd ps sp)(hr:zI k X.A)(hb:xI X.K fd ps ds)(hd:zJ dvs ds)(hx:rK CX X E)
  (I:z4 X zc σ H s) (r:zJ vs us) (h:sp (vs++dvs) H Q E):ay 1#2 X.A (call 2#8 us) 7#4 X.xe s:=by
 have r2:zJ (vs++dvs) (us++ds):=r.append hd;have hl:(us++ds).length=ps.length:=by rw[<- r2.length];exact F.len _ _ _ _ h
 refine lw (lj (F.run X.A X.stack s H ⟨us,[]⟩ (us++ds) (vs++dvs) Q E hr I.env0 (hb s us I.kIn hl) r2 h) λr s' hq=> ?_);cases r with
 | error e=>exact hx zc σ H s e s' I hq
 | ok fl=>
  cases fl with
  | ret u=>exact I.after hq
  | next=>exact False.elim hq
  | brk=>exact False.elim hq
  | cont=>exact False.elim hq
theorem zmS (F:zM X.prog X.w X.K X.mg X.base CX k f fd ps sp)(hr:zI k X.A)(hg:Gl X x)(hm:X.mg x=some 2#8)(hk:keepIn X.K 2#8=true)(hb:xI X.K fd ps ds)(hd:zJ dvs ds)(hx:rK CX X E)
  (ha:PA X (e::es) t) (hdb:8#3=false:=by decide) (he:starEach (e::es) X.env=5#3::starEach es X.env:=by rfl) (Al:(backTo pos 1#4).any (·.1)=false:=by rfl):
  PE X 3#4 (zwV sp dvs E t):=by
 constructor;intro zc s σ H Q I h;refine ef (qU I hg hm ?_ hdb);refine wm (h₀:=X.base) I.ok.mod.kin hk (zL 6#12 λus s1 ⟨vs,H1,I1,r,q⟩=>⟨I1.kIn,?_⟩) he Al;exact zvY F hr hb hd hx I1 r q
end
structure PK (X:Cx)(kws:List Keyword)(t:TA):Prop where
 run:
  ∀(pos:fe) (zc:List 7#3) (s:ai) (σ:St) (H:Hp) (Q:List V->Hp->Prop),z4 X zc σ H s->t σ H Q->ay 1#2 X.A (evalAll ((backToKw pos (keywordEach kws X.env)).map (·.2))) (AP X zc σ Q) X.xe s
instance {X:Cx} {kws:List Keyword} {t:TA} :CoeFun (PK X kws t) λ_=>
 ∀(pos:fe) (zc:List 7#3) (s:ai) (σ:St) (H:Hp) (Q:List V->Hp->Prop),z4 X zc σ H s->t σ H Q->ay 1#2 X.A (evalAll ((backToKw pos (keywordEach kws X.env)).map (·.2))) (AP X zc σ Q) X.xe s
  :=⟨PK.run⟩
structure yL (N P:List Str)(sc:ll):Prop where
 kind:sc.kind= .function
 co:sc.isCoroutine=false
 gen:sc.isGenerator=false
 nd:N.Nodup
 pre:N.take P.length=P
 par: ∀x∈P,sc.names.lookup x=some .local∨sc.names.lookup x=some .cell
 nofree: ∀y∈sc.names,y.2≠ .free
theorem zh3 {kindOf:Str->Option NameKind}{x:Str} : ∀{binds:List (Str×aa)} {m:Str->Option aa},(∀v,(x,v)∉binds)->bindL kindOf binds m x=m x
 | [],_,_=>rfl
 | (n,v)::r,m,h=>by
  unfold bindL;rw[zh3 λw hw=>h w (bf _ hw)]
  split
  ·have:x≠n:=by rintro rfl;exact h v aw
   simp[this]
  ·rfl
theorem zh1 {kindOf:Str->Option NameKind}{x:Str} : ∀{binds:List (Str×aa)} {m:Str->Option aa},(∀v,(x,v)∉binds)->bindC kindOf binds m x=m x
 | [],_,_=>rfl
 | (n,v)::r,m,h=>by
  unfold bindC;rw[zh1 λw hw=>h w (bf _ hw)]
  split
  ·rfl
  ·have:x≠n:=by rintro rfl;exact h v aw
   simp[this]
theorem zh2 {kindOf:Str->Option NameKind}{x:Str}{v:aa} : ∀{P:List Str} {vs:List aa} {i:Nat} {m:Str->Option aa},P.Nodup->P[i]?=some x->vs[i]?=some v->kindOf x=some .local->
  bindL kindOf (P.zip vs) m x=some v
 | [],_,_,_,_,h,_,_=>by simp at h
 | _::_,[],_,_,_,_,h,_=>by simp at h
 | p::P,w::vs,0,m,nd,h1,h2,hk=>by
  simp at h1 h2;subst h1;subst h2;show bindL kindOf ((p,w)::P.zip vs) m p=_;unfold bindL;rw[zh3 λv hv=>(fg.mp nd).1 (qi hv).1,if_pos hk];simp
 | p::P,w::vs,i+1,m,nd,h1,h2,hk=>by
  show bindL kindOf ((p,w)::P.zip vs) m x=_;unfold bindL;exact zh2 (i:=i) (fg.mp nd).2 (by simpa using h1) (by simpa using h2) hk
theorem zh0 {kindOf:Str->Option NameKind}{x:Str}{v:aa} : ∀{P:List Str} {vs:List aa} {i:Nat} {m:Str->Option aa},P.Nodup->P[i]?=some x->vs[i]?=some v->kindOf x≠some .local->
  bindC kindOf (P.zip vs) m x=some v
 | [],_,_,_,_,h,_,_=>by simp at h
 | _::_,[],_,_,_,_,h,_=>by simp at h
 | p::P,w::vs,0,m,nd,h1,h2,hk=>by
  simp at h1 h2;subst h1;subst h2;show bindC kindOf ((p,w)::P.zip vs) m p=_;unfold bindC;rw[zh1 λv hv=>(fg.mp nd).1 (qi hv).1,if_neg hk];simp
 | p::P,w::vs,i+1,m,nd,h1,h2,hk=>by
  show bindC kindOf ((p,w)::P.zip vs) m x=_;unfold bindC;exact zh0 (i:=i) (fg.mp nd).2 (by simpa using h1) (by simpa using h2) hk
def start (N:List Str)(vs:List V):St:=vs.map some++List.replicate (N.length - vs.length) none
def vY (CX:uC)(P:ce)(w:ci)(K:Frag)(mg:Str->Option aa)(base:cn)(N:List Str)(qual:Str)(scope:ll)(f:ac)(cd:aa)(A:cw)(outer:List ly)(s:ai)(H:Hp)(E:XK):Cx where
 prog:=P
 w:=w
 K:=K
 mg:=mg
 base:=base
 A:=A.deeper (envOfC qual scope s.heap.objs.size f cd)
 N:=N
 s₀:=s
 H₀:=H
 env:=envOfC qual scope s.heap.objs.size f cd
 outer:=outer
 stack:=envOfC qual scope s.heap.objs.size f cd::outer
 ex:= []
 calm:=true
 fn:=λ_=>true
 pn:= []
 xe:=λe s'=>ay (bc P w) (A.deeper (envOfC qual scope s.heap.objs.size f cd)) (leaving (envOfC qual scope s.heap.objs.size f cd) e) (λ_ s''=>CX outer H s E e s'') (λe' s''=>CX outer H s E e' s'') s'
theorem zhI {sc:ll}{n:Nat}{x:Str}(h:sc.names.lookup x=some .cell): ∃c,(cellsFrom n sc.names []).lookup x=some c:=by
 have q:=vt sc.names n [] (.inl h);exact ul.mp q
theorem zlF {CX:uC}{P:ce}{w:ci}{K:Frag}{mg:Str->Option aa}{base:cn}{N ps:List Str}{qual:Str}{scope:ll}{f:ac}{cd:aa}{A:cw}{outer:List ly}{s s1:ai}{H:Hp}{E:XK}{us:List aa}{vs:List V}
  (S:yL N ps scope) (hd:A.handled=none) (e0:uR P w K mg base A outer s H) (hl:vs.length=ps.length) (r:zJ vs us)
  (x:InCallC s s.heap.objs.size (bindL (envOfC qual scope s.heap.objs.size f cd).kindOf (ps.zip us) λ_=>none) (cellsFrom (s.heap.objs.size+1) scope.names []) (bindC (envOfC qual scope s.heap.objs.size f cd).kindOf (ps.zip us) λ_=>none) s1):
  z4 (vY CX P w K mg base N qual scope f cd A outer s H E) [] (start N vs) H s1:=by
 have Al:ps.length<=N.length:=by have:=congrArg List.length S.pre;rw[cz]at this;grobner
 obtain⟨h1,tk,rfl,hk⟩:=x.done;have noA: ∀b:ac,b∉(vY CX P w K mg base N qual scope f cd A outer s H E).ex:=λb z=>absurd (show b∈([]:List ac)from z) 3#0;refine⟨⟨e0.mod,S.kind,rfl,rfl,ar _,λy z c h1 h2=> ?_,λy hy=> ?_,λy c _ h=> ?_,λ_=>hd,Around.frames_deeper e0.frames,.inr ⟨rfl,rfl⟩,λb z=>absurd z (noA b),e0.bs,e0.bsz,λb _ _=>noA b,λb z=>absurd z (noA b),e0.funs,e0.frf⟩,
  rfl,e0.bare,Un.kept hk,⟨_,x.toInCall.ns,λi y v h1 h2 h3=> ?_⟩,λy c h=>⟨_,x.cell y c h⟩,e0.hok.fresh (ar _),λy c h=> ?_,λp hp=>absurd (show p∈([]:List 7#3)from hp) 3#0,e0.hok.kept hk,?_⟩
 ·exact name_of_addr x.apart (ix h1) (ix h2)
 ·have hy:scope.names.lookup y=some .cell∨scope.names.lookup y=some .free:=hy
  rcases hy with hy | hy
  ·exact zhI hy
  ·exact absurd rfl (S.nofree _ (ix hy))
 ·exact oi (x.above y c (ix h))
 ·have hi:i < vs.length:=by
   unfold start at h2;by_cases hi:i < vs.length
   ·exact hi
   ·rw[ba (by simpa using hi)]at h2
    rw[kj]at h2
    split at h2 <;> cases h2
  have ha:vs[i]?=some v:=by
   unfold start at h2;rw[bw (by simpa using hi),br]at h2;cases e:vs[i]? with
   | none=>rw[e]at h2;cases h2
   | some a=>rw[e]at h2;cases h2;rfl
  obtain⟨u,hu,rv⟩:=r.get ha;have hp:ps[i]?=some y:=by
   rw[<- S.pre,gc 0#0];exact h1
  have ndP:ps.Nodup:=by rw[<- S.pre];exact S.nd.sublist (jk _ _)
  refine⟨u,rv,?_⟩;rcases S.par y (dh hp)with k | k
  ·exact .inl ⟨k,zh2 ndP hp hu k⟩
  ·obtain⟨c,e⟩:=zhI (n:=s.heap.objs.size+1) k
   refine .inr ⟨.inl k,c,e,?_⟩;have q:=x.cell y c e;rw[zh0 ndP hp hu (by show scope.names.lookup y≠_;rw[k];decide)]at q;exact q
 ·exact e0.hok.fresh (oi (x.above y c (ix h)))
 ·unfold start
  show _=N.length;rw[am,ae,jv];grobner
theorem zlx {CX:uC}{P:ce}{w:ci}{K:Frag}{mg:Str->Option aa}{base:cn}{k:Nat}{f:ac}{name qual:Str}{params:Arguments}{body:List cu}{scope:ll}{dV kV doc pm zr ct oc:aa}{an od:Option ac}
  {AC:Array 5#8} {N ps:List Str} {sp:Sp} (lk:K.lookup f=some ⟨oc,od,.func 1#7,AC⟩) (hcd:codeIn K zr qual=true) (S:yL N ps scope)
  (len: ∀vs H Q E,sp vs H Q E->vs.length=ps.length)
  (hbody: ∀(A:cw) (outer:List ly) (s:ai) (H:Hp) (vs:List V) (Q:VK) (E:XK),zI k (A.deeper 9#7)->sp vs H Q E->
   ∃t,xC 2#13 body t/\t {nx:=λ_ H'=>Q .non H',rt:=Q} (start N vs) H):
  zM P w K mg base CX (k+1) f 1#7 ps sp:=by
 refine⟨len,λA outer s H args us vs Q E hr e0 hb r Aq=> ?_⟩;have hl:=len _ _ _ _ Aq;have KX:K.In s.heap:=e0.mod.kin.keeps λb o e=>(e0.bs b o e).1;have lim:s.heap.NoLimit:=e0.mod.nolimit.keeps λb o e=>(e0.bs b o e).1;have hkind: ∀y∈ps.zip us,scope.names.lookup y.1=some .local∨(scope.names.lookup y.1=some .cell/\((cellsFrom (s.heap.objs.size+1) scope.names []).lookup y.1).isSome=true):=λ⟨n,v⟩ hy=>by
  rcases S.par n (qi hy).1 with q | q
  ·exact .inl q
  ·exact .inr ⟨q,vt _ _ _ (.inl q)⟩
 refine vw hr.depth (KX _ _ lk) rfl S.co S.gen rfl (codeRec_of KX hcd) (hb _ _ _ _ ?_);refine sv S.kind hkind λenv he s1 x=> ?_;subst he;refine⟨lim.keeps x.toInCall.keep,codeAny_func ?_⟩;obtain⟨t,ht,hq⟩:=hbody A outer s H vs Q E (hr.deeper _) Aq;have I:z4 2#13 [] (start N vs) H s1:=zlF S hr.hd e0 hl r x;refine jy (ht [] s1 (start N vs) H _ I hq) (λfl s' hs=> ?_) λe s' hs=>hs;have fin: ∀{σ':St} {H':Hp} {v:V} {u:aa},z4 2#13 [] σ' H' s'->zO v u->Q v H'->CE outer P w H s Q u s':=
  λ{σ' H' v u} J rv q=>⟨v,H',J.os,J.bare,J.base,J.hok,rv,q⟩
 cases fl with
 | ret u=>
  obtain⟨v,σ',H',J,rv,q⟩:=hs;exact fin J rv q
 | next=>
  obtain⟨σ',H',J,q⟩:=hs;exact fin (v:=V.non) (u:=Value.none) J rfl q
 | brk=>
  obtain⟨_,_,_,q⟩:=hs;exact False.elim q
 | cont=>
  obtain⟨_,_,_,q⟩:=hs;exact False.elim q
section
variable {X:Cx} {x:Str} {p pos:fe} {e:Expr} {es:List Expr} {t:TA} {id T:String} {r:List V->Hp->VK->Prop}
def lK (r:List V->Hp->VK->Prop)(t:TA):TE:=λσ H Q=>t σ H λvs H1=>r vs H1 Q
theorem fK (hc:wA X 5#14 r)(hg:Gl X x)(hm:X.mg x=none)(hv:bootBuiltins x=some 5#14)(ha:PA X (e::es) t)(hn:x≠ "__name__" :=by decide)(hdb:8#3=false:=by decide)
  (he:starEach (e::es) X.env=5#3::starEach es X.env:=by rfl) (Al:(backTo pos 1#4).any (·.1)=false:=by rfl):PE X 3#4 (lK r t):=by
 constructor;intro zc s σ H Q I h;refine ef (sY I hg hm hv ?_ hn hdb);exact PyProof.Rows.callWith_builtin1 (zL 6#12 λus s1 ⟨vs,H1,I1,r1,q1⟩=>hc zc s1 σ H1 vs us Q I1 r1 q1) he Al
theorem zuo (hc:wA X (.type T) r)(hg:Gl X x)(hm:X.mg x=none)(hv:bootBuiltins x=some (.type T))(ha:PA X (e::es) t)(hn:x≠ "__name__" :=by decide)(hdb:8#3=false:=by decide)
  (he:starEach (e::es) X.env=5#3::starEach es X.env:=by rfl) (Al:(backTo pos 1#4).any (·.1)=false:=by rfl):PE X 3#4 (lK r t):=by
 constructor;intro zc s σ H Q I h;refine ef (sY I hg hm hv ?_ hn hdb);exact callWith_type1 (zL 6#12 λus s1 ⟨vs,H1,I1,r1,q1⟩=>hc zc s1 σ H1 vs us Q I1 r1 q1) he Al
end
end L2
namespace HT
open PySem PyProof.Rows
section
variable {prog:ce} {w:ci} {A:cw} {E:aa->ai->Prop} {s:ai}
theorem cat_tup {t b:ac}{vs ws:List aa}{Q:aa->ai->Prop}(ht:IsTup s.heap t vs.toArray)(hb:IsTup s.heap b ws.toArray)(hv:vs≠ [])
  (h1:ws= []->Q (.ref t) s) (h2:ws≠ []->Q 4#6 {s with heap:=s.heap.push {cls:= .type 18#1,data:= .seq (vs++ws).toArray}})
  (hsz:vs.length+ws.length<=ak):ay 9#2 A (binaryOp .Add (.ref t) (.ref b)) Q E s:=by
 obtain⟨⟨cls,dd,data,sl⟩,ho,hc,n,hd⟩:=id ht;obtain⟨⟨cls2,dd2,data2,sl2⟩,ho2,hc2,n2,hd2⟩:=id hb;simp only at hc hd hc2 hd2;subst hc hd hc2 hd2;have e:vs.toArray++ws.toArray=(vs++ws).toArray:=3#0
 by_cases hw:ws= []
 ·exact xr ⟨_,ho,rfl⟩ ⟨_,ho2,rfl⟩ um xf pi pb (oj _ _)
   (tuple_addW1 t b vs.toArray ws.toArray n n2 dd dd2 sl sl2 (by simpa using hv) (by simp[hw])) ⟨ho,ho2,h1 hw⟩
 ·refine xr ⟨_,ho,rfl⟩ ⟨_,ho2,rfl⟩ um xf pi pb (oj _ _)
   (tuple_addW2 t b vs.toArray ws.toArray n n2 dd dd2 sl sl2 (by simpa using hv) (by simpa using hw) (by rw[bq,bq];exact hsz)) ⟨ho,ho2,?_⟩
  rw[e];exact h2 hw
def sIx (n d:Nat):Option Int->Nat
 | none=>d
 | some v=>if v < 0 then(v+(n:Int)).toNat else min v.toNat n
theorem sIx_none (n d:Nat):sIx n d none=d:=rfl
theorem sIx_nat (n d k:Nat):sIx n d (some (k:Int))=min k n:=by
 show(if(k:Int) < 0 then((k:Int)+(n:Int)).toNat else min (k:Int).toNat n)=min k n;rw[if_neg 0#0,yd]
theorem zwa (n d:Nat)(hd:d<=n)(o:Option Int):sIx n d o<=n:=by
 cases o with
 | none=>exact hd
 | some v=>
  show(if v < 0 then(v+(n:Int)).toNat else min v.toNat n)<=n;by_cases hv:v < 0
  ·rw[if_pos hv];grobner
  ·rw[if_neg hv];exact Nat.min_le_right _ _
theorem zhN (v:Int)(n d:Nat):(if v < 0 then max (v+(n:Int)) 0 else min v (n:Int))=((sIx n d (some v):Nat):Int):=by
 show(if v < 0 then max (v+(n:Int)) 0 else min v (n:Int))=(((if v < 0 then(v+(n:Int)).toNat else min v.toNat n):Nat):Int);by_cases hv:v < 0
 ·simp only[if_pos hv];grobner
 ·simp only[if_neg hv];grobner
theorem zpH (lo hi:Option Int)(n:Nat):Builtin.Slice.sliceAdjust lo hi 1 (n:Int)=(((sIx n 0 lo:Nat):Int),((sIx n n hi:Nat):Int)):=by
 have h1: ¬ ((1:Int) < 0):=0#0
 unfold Builtin.Slice.sliceAdjust;simp only[h1,if_false];refine Prod.ext ?_ ?_
 ·cases lo with
  | none=>rfl
  | some v=>exact zhN v n 0
 ·cases hi with
  | none=>rfl
  | some v=>exact zhN v n n
theorem zuK (i j:Nat):Builtin.Slice.slicePlaces (i:Int) (j:Int) 1=j - i:=by
 unfold Builtin.Slice.slicePlaces;have h1:(1:Int) > 0:=0#0
 simp only[h1,if_true,Int.ediv_one]
 split <;> grobner
theorem znD {v:aa}{o:Option Int}{Q:Option Int->ai->Prop}(p:IsPart v o)(h:Q o s):ay 9#2 A (Builtin.Slice.slicePartIndex v) Q E s:=by
 cases p with
 | none=>exact slicePart_none h
 | int i t=>exact slicePart_int h
theorem sliceApplied_gen {sl:ac}{vl vu:aa}{lo hi:Option Int}{n:Nat}{Q:Int×Int×Nat->ai->Prop}(hs:s.heap.IsSliceOf sl vl vu .none)(pl:IsPart vl lo)(pu:IsPart vu hi)
  (h:Q (((sIx n 0 lo:Nat):Int),1,sIx n n hi - sIx n 0 lo) s):ay 9#2 A (Builtin.Slice.sliceApplied (.ref sl) (pure (n:Int))) Q E s:=by
 obtain⟨os,hos,hcs,hds⟩:=id hs;unfold Builtin.Slice.sliceApplied Builtin.Slice.sliceFields;refine ad (ad (ij hos hds (x:=vl) rfl (ad (ij hos hds (x:=vu) rfl (ad (ij hos hds (x:= .none) rfl (az ?_)))))));refine ad (slicePart_none ?_);show ay _ _ (if((1:Int)==0)=true then _ else _) _ _ s;rw[if_neg 2#0];refine ad (znD pl (ad (znD pu (ad (az ?_)))));show ay _ _ (match Builtin.Slice.sliceAdjust lo hi 1 (n:Int)with | (lo,hi)=>pure (lo,(1:Int),Builtin.Slice.slicePlaces lo hi 1)) _ _ s;rw[zpH lo hi n];show ay _ _ (pure (((sIx n 0 lo:Nat):Int),(1:Int),Builtin.Slice.slicePlaces ((sIx n 0 lo:Nat):Int) ((sIx n n hi:Nat):Int) 1)) _ _ s;rw[zuK];exact az h
theorem zuG (xs:Array aa)(i k:Nat):((List.range k).filterMap λ(m:Nat)=>xs[((i:Int)+(m:Int) * 1).toNat]?).toArray=((xs.toList.drop i).take k).toArray:=by
 have e:(λ(m:Nat)=>xs[((i:Int)+(m:Int) * 1).toNat]?)=λm=>xs[i+m]?:=by
  funext m
  have:((i:Int)+(m:Int) * 1).toNat=i+m:=0#0
  rw[this]
 rw[e];have:=pick_run xs i k;rw[ol]at this;have e2:((λx=>xs[x]?) ∘ λx=>i+x)=λm=>xs[i+m]?:=rfl;rw[e2]at this;rw[this]
theorem getItem_tuple_cut {t sl:ac}{items:Array aa}{vl vu:aa}{lo hi:Option Int}{Q:aa->ai->Prop}(ht:IsTup s.heap t items)(hs:s.heap.IsSliceOf sl vl vu .none)(pl:IsPart vl lo)(pu:IsPart vu hi)
  (hw: ¬ (sIx items.size 0 lo=0/\sIx items.size items.size hi=items.size))
  (h:Q 4#6 {s with heap:=s.heap.push {cls:= .type 18#1,data:= .seq ((items.toList.drop (sIx items.size 0 lo)).take 1#5).toArray}})
  (hsz:items.size<=ak):ay 9#2 A (getItem (.ref t) (.ref sl)) Q E s:=by
 have htake:sizeOk (.seq ((items.toList.drop (sIx items.size 0 lo)).take 1#5).toArray):=by
  show((items.toList.drop (sIx items.size 0 lo)).take 1#5).toArray.size<=ak;rw[bq,cz,kx,jo];grobner
 have hj:sIx items.size items.size hi<=items.size:=zwa _ _ (ar _) hi;obtain⟨os,hos,hcs,hds⟩:=id hs;have hTs:s.TypeIs (.ref sl) "slice" :=⟨os,hos,hcs⟩;unfold getItem
 try with_reducible refine dj ?_
 first | refine ad (az ?_) | skip
 refine ad (wpAny_sequenceKey ht.typeIs 2#0 ?_);refine ad (ml (name:=Str.ofString "__getitem__") ht.typeIs gy
  (ma gy ht.typeIs xi ?_ (args_tuple_getitem _ _)))
 show ay _ _ (Builtin.Tuple.tupleItemsOf (.ref t) >>= _) _ _ s;refine ad (tupleItemsOf_ ht ?_);refine ad (nj hTs ?_);rw[if_pos 2#0];refine ad (sliceApplied_gen hs pl pu ?_);have hno: ¬ ((((sIx items.size 0 lo:Nat):Int)==0&&(1:Int)==1&&1#5==items.size)=true):=by
  intro q;rw[im,im]at q;have q1:((sIx items.size 0 lo:Nat):Int)=0:=eq_of_beq q.1.1;have q2:sIx items.size items.size hi - sIx items.size 0 lo=items.size:=eq_of_beq q.2;exact hw ⟨0#0,0#0⟩
 show ay _ _ (if(((sIx items.size 0 lo:Nat):Int)==0&&(1:Int)==1&&1#5==items.size)=true then _ else _) _ _ s;rw[if_neg hno,zuG]
 first
  | exact ad (m:=Builtin.Tuple.tupleExact _) (gw 1#15 htake)
  | exact ad (m:=Builtin.Tuple.tupleExact _) (gw (ad (az 1#15)) htake)
  | exact ad (ad (m:=Builtin.Tuple.tupleExact _) (gw (az 1#15) htake))
  | exact ad (ad (m:=Builtin.Tuple.tupleExact _) (gw 1#15 htake))
end
end HT
namespace L2
open PySem PySem.Spec PyProof.Rows
abbrev TO:=St->Hp->(Option Int->Hp->Prop)->Prop
structure PO (X:Cx)(e:Option Expr)(t:TO):Prop where
 run:
  ∀(zc:List 7#3) (s:ai) (σ:St) (H:Hp) (Q:Option Int->Hp->Prop),z4 X zc σ H s->t σ H Q->
   ay 1#2 X.A (evalPart e X.env) (λu s'=> ∃o H',z4 X zc σ H' s'/\IsPart u o/\Q o H') X.xe s
instance {X:Cx} {e:Option Expr} {t:TO} :CoeFun (PO X e t) λ_=>
 ∀(zc:List 7#3) (s:ai) (σ:St) (H:Hp) (Q:Option Int->Hp->Prop),z4 X zc σ H s->t σ H Q->
  ay 1#2 X.A (evalPart e X.env) (λu s'=> ∃o H',z4 X zc σ H' s'/\IsPart u o/\Q o H') X.xe s
  :=⟨PO.run⟩
def zxi:TO:=λ_ H Q=>Q none H
def zxl (t:TE):TO:=λσ H Q=>t σ H λx H1=> ∃i,x= .int i/\Q (some i) H1
section
variable {X:Cx} {e:Expr} {te:TE} {lo hi:Option Expr} {tl th:TO} {pos p2:fe}
theorem zuL:PO X none zxi:=by
 constructor;intro zc s σ H Q I h;rw[xg];exact az ⟨none,H,I,.none,h⟩
theorem zuM (h:PE X e te):PO X (some e) (zxl te):=by
 constructor;intro zc s σ H Q I hw;rw[evalPart_some];refine zL (h zc s σ H _ I hw) λu s1 ⟨x,H1,I1,r1,q1⟩=> ?_;obtain⟨i,rfl,q⟩:=q1;obtain⟨t,rfl⟩:=r1;exact⟨some i,H1,I1,.int i t,q⟩
def kA (X:Cx)(r:V->Option Int->Option Int->Hp->VK->Prop):Prop:=
 ∀(zc:List 7#3) (s:ai) (σ:St) (H:Hp) (x:V) (v vl vu:aa) (lo hi:Option Int) (sl:ac) (Q:VK),z4 X zc σ H s->zO x v->s.heap.IsSliceOf sl vl vu .none->IsPart vl lo->IsPart vu hi->r x lo hi H Q->
  ∃T id,typeLookup (.type T) "__getitem__" =pure (some 5#14)/\s.TypeIs v T/\ay 1#2 X.A (getItem v (.ref sl)) 7#4 X.xe s
def tSl (r:V->Option Int->Option Int->Hp->VK->Prop)(te:TE)(tl th:TO):TE:=λσ H Q=>te σ H λx H1=>tl σ H1 λl H2=>th σ H2 λu H3=>r x l u H3 Q
theorem zu3 {r:V->Option Int->Option Int->Hp->VK->Prop}(hr:kA X r)(he:PE X e te)(hl:PO X lo tl)(hu:PO X hi th):PE X (.Subscript e (.Slice lo hi none p2) pos) (tSl r te tl th):=by
 constructor;intro zc s σ H Q I h;refine Subscript_ (zL 1#8 λv s1 ⟨x,H1,I1,r1,q1⟩=> ?_);refine wpAny_Slice (zL (hl zc s1 σ H1 _ I1 q1) λvl s2 ⟨l,H2,I2,pl,q2⟩=>zL (hu zc s2 σ H2 _ I2 q2) λvu s3 ⟨u,H3,I3,pu,q3⟩=> ?_);rw[xg];refine az ?_;have I4:z4 X zc σ H3 {s3 with heap:=s3.heap.push {cls:= .type "slice",data:= .fields #[vl,vu,.none]}} :=I3.kept (t':=s3.toks) λb ob q=>ap _ q;obtain⟨T,id,hT,ht,hg⟩:=hr zc {s3 with heap:=s3.heap.push {cls:= .type "slice",data:= .fields #[vl,vu,.none]}} σ H3 x v vl vu l u s3.heap.objs.size Q I4 r1 (Heap.IsSliceOf.new ..) pl pu q3;show ay 1#2 X.A (subscriptTail e (.Slice lo hi none p2) v (.ref s3.heap.objs.size)) 7#4 X.xe {s3 with heap:=s3.heap.push {cls:= .type "slice",data:= .fields #[vl,vu,.none]}};exact tail_any (ops:= [.ref s3.heap.objs.size,v]) ht hT hg (by with_unfolding_all rfl)
def pN (xs:List V)(lo hi:Option Int):List V:=(xs.drop (HT.sIx xs.length 0 lo)).take 5#7
theorem gG (xs:List V)(lo hi:Option Int):(pN xs lo hi).length<=xs.length:=by
 unfold pN;rw[cz,kx];grobner
def zvO (K:Frag):V->Option Int->Option Int->Hp->VK->Prop:=λx lo hi H Q=> ∃a xs,x= .ref a/\xT K H a xs/\
 ¬ (HT.sIx xs.length 0 lo=0/\HT.sIx xs.length xs.length hi=xs.length)/\∀p,H p=none->Q 3#13 (upd H p (.tup (pN xs lo hi)))
theorem zwy:kA X (zvO X.K):=by
 intro zc s σ H x v vl vu lo hi sl Q I rx hs pl pu h;obtain⟨a,xs,rfl,hx,hw,q⟩:=h;cases rx;obtain⟨zf,r,ht,hz⟩:=I.tuple hx;have zu:zf.toArray.size=xs.length:=by rw[bq];exact r.length.symm
 refine⟨18#1,_,gy.lookup,ht.typeIs,?_⟩;refine HT.getItem_tuple_cut ht hs pl pu (by rw[zu];exact hw) ?_ (by rw[zu];exact hz);rw[zu];refine⟨.ref s.heap.objs.size,_,I.laid (t':=s.toks) (o:= .tup (pN xs lo hi)) (λb ob q=>ap _ q) (ar _) ?_,rfl,q _ (I.hok.fresh (ar _))⟩;exact⟨bh (gG xs lo hi) hz,_,(r.drop (HT.sIx xs.length 0 lo)).take 5#7,sL.new _ _⟩
def zv9 (K:Frag):R2:=λx y H Q=> ∃a b xs ys,x= .ref a/\y= .ref b/\xT K H a xs/\xT K H b ys/\xs≠ []/\xs.length+ys.length<=ak/\
 (ys= []->Q 8#9 H)/\(ys≠ []->∀p,H p=none->Q 3#13 (upd H p (.tup (xs++ys))))
theorem zJ.nil_iff {xs:List V}{us:List aa}(r:zJ xs us):us= []↔xs= []:=by
 cases r with
 | nil=>simp
 | cons _ _=>simp
theorem ztQ:yJ X (binaryOp .Add) (zv9 X.K):=by
 intro zc s σ H x y v u Q I rx ry h;obtain⟨a,b,xs,ys,rfl,rfl,ha,hb,hx,hz,q1,q2⟩:=h;cases rx;cases ry;obtain⟨zf,r1,p1,_⟩:=I.tuple ha;obtain⟨zx,r2,p2,_⟩:=I.tuple hb;refine HT.cat_tup p1 p2 (λz=>hx (r1.nil_iff.mp z)) (λz=>⟨.ref a,H,I,rfl,q1 (r2.nil_iff.mp z)⟩) (λz=> ?_) (by rw[<- r1.length,<- r2.length];exact hz);refine⟨.ref s.heap.objs.size,_,I.laid (t':=s.toks) (o:= .tup (xs++ys)) (λb ob q=>ap _ q) (ar _) ?_,rfl,q2 (λw=>z (r2.nil_iff.mpr w)) _ (I.hok.fresh (ar _))⟩;exact⟨by rw[am];exact hz,_,r1.append r2,sL.new _ _⟩
end
def wS (n:Nat)(i:Int):Option Nat:=if 0<=i then(if i < n then some i.toNat else none)else if -(n:Int)<=i then some (i+n).toNat else none
def atI {α:Type}(xs:List α)(i:Int):Option α:=(wS xs.length i).bind λj=>xs[j]?
theorem zlN {n:Nat}{i:Int}{j:Nat}(h:wS n i=some j):seqIndex? i n=some j/\j < n/\ -(n:Int)<=i/\i < n:=by
 unfold wS at h;by_cases h0:0<=i
 ·rw[if_pos h0]at h
  by_cases h1:i < n
  ·rw[if_pos h1]at h
   have e:i.toNat=j:=cf h;exact⟨by rw[yj h0 h1,e],0#0,0#0,h1⟩
  ·rw[if_neg h1]at h;cases h
 ·rw[if_neg h0]at h
  by_cases h1: -(n:Int)<=i
  ·rw[if_pos h1]at h
   have e:(i+n).toNat=j:=cf h;exact⟨by rw[xt 0#0 h1,e],0#0,h1,0#0⟩
  ·rw[if_neg h1]at h;cases h
theorem bR {α:Type}{xs:List α}{i:Int}{v:α}(h:atI xs i=some v): ∃j,seqIndex? i xs.length=some j/\xs[j]?=some v/\j < xs.length/\ -(xs.length:Int)<=i/\i < xs.length:=by
 unfold atI at h;cases e:wS xs.length i with
 | none=>rw[e]at h;cases h
 | some j=>
  rw[e]at h;obtain⟨h1,h2,h3,h4⟩:=zlN e;exact⟨j,h1,h,h2,h3,h4⟩
theorem wK {α:Type}{xs:List α}{j:Nat}{v:α}(h:xs[j]?=some v):atI xs (j:Int)=some v:=by
 have hj:j < xs.length:=(ah.mp h).1;have e:wS xs.length (j:Int)=some j:=by
  unfold wS;rw[if_pos 0#0,if_pos 0#0];simp
 unfold atI;rw[e];exact h
def iW (b:Expr):Prop:= ∀o i,subscripted b false o i=operate [o,i] (getItem o i)
def qH (X:Cx)(r:R2):Prop:=
 ∀(value slice:Expr) (zc:List 7#3) (s:ai) (σ:St) (H:Hp) (x y:V) (v u:aa) (Q:VK),z4 X zc σ H s->zO x v->zO y u->r x y H Q->
  subscripted slice false v u=operate [v,u] (getItem v u)->ay 1#2 X.A (subscriptTail value slice v u) 7#4 X.xe s
def tX (X:Cx)(id:String)(r:V->List V->Hp->VK->Prop):Prop:=
 ∀(zc:List 7#3) (s:ai) (σ:St) (H:Hp) (x:V) (xs:List V) (v:aa) (us:List aa) (Q:VK),z4 X zc σ H s->zO x v->zJ xs us->r x xs H Q->
  ay 1#2 X.A (call 5#14 (v::us)) 7#4 X.xe s
section
variable {X:Cx} {a b:Expr} {ta tb:TE} {pos:fe}
theorem zmT {r:R2}(hr:qH X r)(ha:PE X a ta)(hb:PE X b tb)(hs:iW b):PE X (.Subscript a b pos) (lN r ta tb):=by
 constructor;intro zc s σ H Q I h;exact Subscript_ (bY ha hb I h λv u s2 x y H2 I2 rx ry q=>hr a b zc s2 σ H2 x y v u Q I2 rx ry q (hs _ _))
def zvB (K:Frag):R2:=λx y H Q=> ∃p xs i v,x= .ref p/\y= .int i/\x8 K H p xs/\atI xs i=some v/\Q v H
def zvD (K:Frag):R2:=λx y H Q=> ∃p xs i v,x= .ref p/\y= .int i/\xT K H p xs/\atI xs i=some v/\Q v H
def zvC:R2:=λx y H Q=> ∃z i c,x= .str z/\y= .int i/\z.length<=ak/\atI z.cps.toList i=some c/\Q (.str ⟨#[c]⟩) H
theorem zlO:qH X (zvB X.K):=by
 intro value slice zc s σ H x y v u Q I rx ry h hs;obtain⟨p,xs,i,z,rfl,rfl,hq,he,q⟩:=h;cases rx;obtain⟨t,rfl⟩:=ry;obtain⟨zf,r,pl,hz⟩:=I.list hq;obtain⟨j,h1,h2,h3,h4,h5⟩:=bR he;obtain⟨w,ew,rw'⟩:=r.get h2;have hl:=r.length;have hn:=rT;have fin:EP X zc σ Q w s:=⟨z,H,I,rw',q⟩;by_cases h0:0<=i
 ·have hj:i.toNat=j:=by
   rw[yj h0 h5]at h1;exact cf h1
  exact item_listR pl.isList h0 0#0 (by rw[hj];simpa using ew) fin hs
 ·have hj:(i+(zf.toArray.size:Int)).toNat=j:=by
   rw[xt 0#0 h4]at h1;rw[bq,<- hl];exact cf h1
  exact vk (x:=w) pl.isList.typeIs tz.lookup
   (wpAny_getItem_list_neg (Q:=λr s'=>r=w/\EP X zc σ Q r s') pl.isList 0#0 (by rw[bq] <;> grobner) 0#0 (by rw[hj];simpa using ew) ⟨rfl,fin⟩) hs
theorem zrM:qH X (zvD X.K):=by
 intro value slice zc s σ H x y v u Q I rx ry h hs;obtain⟨p,xs,i,z,rfl,rfl,hq,he,q⟩:=h;cases rx;obtain⟨t,rfl⟩:=ry;obtain⟨zf,r,pl,hz⟩:=I.tuple hq;obtain⟨j,h1,h2,h3,h4,h5⟩:=bR he;obtain⟨w,ew,rw'⟩:=r.get h2;have hl:=r.length;have hn:=rT;have fin:EP X zc σ Q w s:=⟨z,H,I,rw',q⟩;exact vk (x:=w) pl.typeIs rn.lookup
  (getItem_tuple (j:=j) (Q:=λr s'=>r=w/\EP X zc σ Q r s') pl 0#0 0#0 (by rw[bq,<- hl];exact h1) (by simpa using ew) ⟨rfl,fin⟩) hs
theorem zrL:qH X zvC:=by
 intro value slice zc s σ H x y v u Q I rx ry h hs;obtain⟨z,i,c,rfl,rfl,hz,he,q⟩:=h;obtain⟨t,rfl⟩:=rx;obtain⟨t',rfl⟩:=ry;obtain⟨j,h1,h2,h3,h4,h5⟩:=bR he;have hl:z.cps.toList.length=z.length:=by simp[Str.length]
 rw[hl]at h1 h4 h5;have hn:=rT;exact tail_any (typeIs_str s z t) slot_str_getitem.lookup (getItem_str (c:=c) (by
  have e1:decide (i < -(2 ^ 63:Int))=false:=decide_eq_false 0#0;have e2:decide (i≥2 ^ 63)=false:=decide_eq_false 0#0;rw[e1,e2,Bool.or_false]) (by rw[h1];simpa using h2) ⟨.str ⟨#[c]⟩,H,I.tok _,⟨_,rfl⟩,q⟩) hs
theorem zsz (zf:List aa)(n j:Nat)(u:aa):Obj.mapSeq (·.setIfInBounds j u) {cls:= .type 14#1,data:= .seq zf.toArray n} = {cls:= .type 14#1,data:= .seq (zf.set j u).toArray n} :=by
 simp[Obj.mapSeq]
theorem z4.lst {zc:List 7#3}{σ:St}{H:Hp}{s:ai}{p:ac}{xs:List V}(I:z4 X zc σ H s)(h:H p=some 9#3):
  ∃(zf:List aa) (n:Nat),zJ xs zf/\s.heap.get? p=some {cls:= .type 14#1,data:= .seq zf.toArray n} /\xs.length<=ak:=by
 obtain⟨z,zf,n,r,e⟩:=I.hok p _ h;exact⟨zf,n,r,e,z⟩
theorem z4.lstUpd {zc:List 7#3}{σ:St}{H:Hp}{s:ai}{p:ac}{xs ys:List V}{zf its':List aa}{n n':Nat}{f:af->af}(I:z4 X zc σ H s)(h:H p=some 9#3)
  (ho:s.heap.get? p=some {cls:= .type 14#1,data:= .seq zf.toArray n}) (hf:f {cls:= .type 14#1,data:= .seq zf.toArray n} = {cls:= .type 14#1,data:= .seq its'.toArray n'}) (r:zJ ys its') (hz:ys.length<=ak) (t:Nat):
  z4 X zc σ (upd H p 0#17) {s with heap:=s.heap.update p f,toks:=t} :=by
 have e:(s.heap.update p f).get? p=some {cls:= .type 14#1,data:= .seq its'.toArray n'} :=by
  rw[fb f ho (by rw[hf] <;> rfl),hf]
 refine I.write (x:=p) (e:=p) (by rw[h];trivial) 5#9 (λb u hb q=>(cj _ _ (fw hb)).trans q) ⟨_,e⟩ ?_;exact⟨hz,its',n',r,e⟩
def zvL:V->V->V->Hp->(Hp->Prop)->Prop:=λo i v H Q=> ∃p xs k j,o= .ref p/\i= .int k/\H p=some 9#3/\wS xs.length k=some j/\Q (upd H p (.lst (xs.set j v)))
theorem zws:iT X zvL:=by
 intro zc s σ H o i v ov iv u Q I ro ri rv h;obtain⟨p,xs,k,j,rfl,rfl,hp,hj,q⟩:=h;cases ro;obtain⟨t,rfl⟩:=ri;obtain⟨zf,n,r,ho,hz⟩:=I.lst hp;obtain⟨h1,h2,h3,h4⟩:=zlN hj;have hl:=r.length;have hn:=rT;have I':z4 X zc σ (upd H p (.lst (xs.set j v))) {s with heap:=s.heap.update p (Obj.mapSeq (·.setIfInBounds j u))} :=
  I.lstUpd hp ho (zsz zf n j u) (r.set rv j) (by rw[dq];exact hz) s.toks
 by_cases h0:0<=k
 ·have hk:k.toNat=j:=by
   rw[yj h0 h4]at h1;exact cf h1
  exact PySem.W.ki_setAt ho h0 0#0 (by rw[bq,<- hl];exact h4) (by rw[hk];exact⟨_,I',q⟩)
 ·have hk:(k+(zf.toArray.size:Int)).toNat=j:=by
   rw[xt 0#0 h3]at h1;rw[bq,<- hl];exact cf h1
  exact PySem.W.ki_setBack ho 0#0 (by rw[bq,<- hl];exact h3) 0#0 (by rw[hk];exact⟨_,I',q⟩)
theorem zw0 (lo hi:Option Int)(n:Nat):(sliceBounds lo hi none n).1=((HT.sIx n 0 lo:Nat):Int)/\(sliceBounds lo hi none n).2.1=((HT.sIx n n hi:Nat):Int)/\(sliceBounds lo hi none n).2.2=1:=by
 refine⟨?_,?_,rfl⟩
 ·cases lo with
  | none=>simp[sliceBounds,HT.sIx]
  | some i=>
   simp only[sliceBounds,HT.sIx,yk,show(1:Int) > 0 by decide,if_true];by_cases h:i < 0
   ·simp only[h,if_true] <;> grobner
   ·simp only[h,if_false] <;> grobner
 ·cases hi with
  | none=>simp[sliceBounds,HT.sIx]
  | some i=>
   simp only[sliceBounds,HT.sIx,yk,show(1:Int) > 0 by decide,if_true];by_cases h:i < 0
   ·simp only[h,if_true] <;> grobner
   ·simp only[h,if_false] <;> grobner
theorem zwz (zf:List aa)(lo hi:Option Int):slicePick zf.toArray lo hi none=((zf.drop (HT.sIx zf.length 0 lo)).take (HT.sIx zf.length zf.length hi - HT.sIx zf.length 0 lo)).toArray:=by
 obtain⟨h1,h2,h3⟩:=zw0 lo hi zf.toArray.size;unfold slicePick;rw[h1,h2,h3];simp only[sliceRange_one,pick_run,bq] <;> rfl
def zvM (K:Frag):V->Option Int->Option Int->Hp->VK->Prop:=λx lo hi H Q=> ∃a xs,x= .ref a/\x8 K H a xs/\∀p,H p=none->Q 3#13 (upd H p (.lst (pN xs lo hi)))
theorem zww:kA X (zvM X.K):=by
 intro zc s σ H x v vl vu lo hi sl Q I rx hs pl pu h;obtain⟨a,xs,rfl,hx,q⟩:=h;cases rx;obtain⟨zf,r,ht,hz⟩:=I.list hx;have zu:=r.length;refine⟨14#1,_,tz.lookup,ht.isList.typeIs,?_⟩;refine uo ht.isList hs pl pu .none 3#0 ?_ (by rw[bq] <;> grobner);rw[zwz,<- zu];refine⟨.ref s.heap.objs.size,_,I.laid (t':=s.toks) (o:= .lst (pN xs lo hi)) (λb ob q=>ap _ q) (ar _) ?_,rfl,q _ (I.hok.fresh (ar _))⟩;exact⟨bh (gG xs lo hi) hz,_,0,(r.drop (HT.sIx xs.length 0 lo)).take 5#7,cm _ rfl⟩
def rP:V->Bool
 | .non=>true
 | .bl _=>true
 | .int _=>true
 | .str _=>true
 | _=>false
def rO:V->V->Bool
 | .non,.non=>true
 | .bl a,.bl b=>a==b
 | .bl a,.int b=>(if a then 1 else 0)==b
 | .int a,.bl b=>a==(if b then 1 else 0)
 | .int a,.int b=>a==b
 | .str a,.str b=>a==b
 | _,_=>false
theorem zqV {A:cw}{s:ai}{y x:V}{u v:aa}(ry:zO y u)(rx:zO x v)(fy:rP y=true)(fx:rP x=true):SeqAt.EqAt A s u v (rO y x):=by
 cases y with
 | non=>
  cases ry;cases x with
  | non=>cases rx;exact vd _
  | bl b=>cases rx;exact SeqAt.EqAt.none_bool b
  | int b=>obtain⟨t,rfl⟩:=rx;exact SeqAt.EqAt.none_int b t
  | str b=>obtain⟨t,rfl⟩:=rx;exact SeqAt.EqAt.none_str b t
  | _=>exact absurd (show false=true from fx) fz
 | bl a=>
  cases ry;cases x with
  | non=>cases rx;exact SeqAt.EqAt.bool_none a
  | bl b=>cases rx;exact SeqAt.EqAt.bool_bool a b
  | int b=>obtain⟨t,rfl⟩:=rx;exact SeqAt.EqAt.bool_int a b t
  | str b=>obtain⟨t,rfl⟩:=rx;exact SeqAt.EqAt.bool_str a b t
  | _=>exact absurd (show false=true from fx) fz
 | int a=>
  obtain⟨t',rfl⟩:=ry;cases x with
  | non=>cases rx;exact SeqAt.EqAt.int_none a t'
  | bl b=>cases rx;exact SeqAt.EqAt.int_bool a t' b
  | int b=>obtain⟨t,rfl⟩:=rx;exact SeqAt.EqAt.int_int a t' b t
  | str b=>obtain⟨t,rfl⟩:=rx;exact xp a t' b t
  | _=>exact absurd (show false=true from fx) fz
 | str a=>
  obtain⟨t',rfl⟩:=ry;cases x with
  | non=>cases rx;exact SeqAt.EqAt.str_none a t'
  | bl b=>cases rx;exact SeqAt.EqAt.str_bool a t' b
  | int b=>obtain⟨t,rfl⟩:=rx;exact xq a t' b t
  | str b=>obtain⟨t,rfl⟩:=rx;exact SeqAt.EqAt.str_str a t' b t
  | _=>exact absurd (show false=true from fx) fz
 | _=>exact absurd (show false=true from fy) fz
def uG (x:V)(u:aa):Bool:=match u with
 | .none=>rO .non x
 | .bool b=>rO (.bl b) x
 | .int i _=>rO 1#6 x
 | .str z _=>rO (.str z) x
 | _=>false
theorem zie {x y:V}{u:aa}(r:zO y u)(f:rP y=true):uG x u=rO y x:=by
 cases y with
 | non=>cases r;rfl
 | bl b=>cases r;rfl
 | int i=>obtain⟨t,rfl⟩:=r;rfl
 | str z=>obtain⟨t,rfl⟩:=r;rfl
 | _=>exact absurd (show false=true from f) fz
theorem kE {x:V} : ∀{xs:List V} {us:List aa},zJ xs us->xs.all rP=true->us.any (uG x)=xs.any λy=>rO y x
 | _,_,.nil,_=>rfl
 | y::xs,u::us,.cons r t,f=>by
  rw[mr,im]at f;rw[ji,ji,zie r f.1,kE t f.2]
theorem kW {A:cw}{s:ai}{x:V}{v:aa}(rx:zO x v)(fx:rP x=true): ∀{xs:List V} {us:List aa},zJ xs us->xs.all rP=true->∀u∈us,SeqAt.EqAt A s u v (uG x u)
 | _,_,.nil,_=>λu hu=>by cases hu
 | y::xs,u::us,.cons r t,f=>λu' hu=>by
  rw[mr,im]at f;rcases bo.mp hu with rfl | hu
  ·rw[zie r f.1];exact zqV r rx f.1 fx
  ·exact kW rx fx t f.2 u' hu
def pR (x:V)(xs:List V):Bool:=xs.any λy=>rO y x
def rIn (K:Frag)(neg:Bool):R2:=λx y H Q=> ∃p xs,y= .ref p/\(x8 K H p xs∨xT K H p xs)/\rP x=true/\xs.all rP=true/\Q (.bl (if neg then !pR x xs else pR x xs)) H
theorem ztU:yJ X (compareOp .In) (rIn X.K false):=by
 intro zc s σ H x y v u Q I rx ry h;obtain⟨p,xs,rfl,hq,fx,fs,q⟩:=h;cases ry;rcases hq with hq | hq
 ·obtain⟨zf,r,pl,hz⟩:=I.list hq
  refine SeqAt.in_listAt (uG x) pl.isList 9#9 ⟨.bl _,H,I,rfl,?_⟩;rw[show zf.toArray.any (uG x)=zf.any (uG x) by simp,kE r fs];exact q
 ·obtain⟨zf,r,pl,hz⟩:=I.tuple hq
  refine SeqAt.in_tupleAt (uG x) pl 9#9 ⟨.bl _,H,I,rfl,?_⟩;rw[show zf.toArray.any (uG x)=zf.any (uG x) by simp,kE r fs];exact q
theorem zua:yJ X (compareOp .NotIn) (rIn X.K true):=by
 intro zc s σ H x y v u Q I rx ry h;obtain⟨p,xs,rfl,hq,fx,fs,q⟩:=h;cases ry;rcases hq with hq | hq
 ·obtain⟨zf,r,pl,hz⟩:=I.list hq
  refine SeqAt.notIn_listAt (uG x) pl.isList 9#9 ⟨.bl _,H,I,rfl,?_⟩;rw[show zf.toArray.any (uG x)=zf.any (uG x) by simp,kE r fs];exact q
 ·obtain⟨zf,r,pl,hz⟩:=I.tuple hq
  refine SeqAt.notIn_tupleAt (uG x) pl 9#9 ⟨.bl _,H,I,rfl,?_⟩;rw[show zf.toArray.any (uG x)=zf.any (uG x) by simp,kE r fs];exact q
theorem zub:yJ X (compareOp .NotIn) (λx y H Q=> ∃i j,x= .str i/\y= .str j/\Q (.bl (!(!(Builtin.Str.occurrences j i 0 j.length 1).isEmpty))) H):=by
 intro zc s σ H x y v u Q I rx ry h;obtain⟨i,j,rfl,rfl,q⟩:=h;obtain⟨t,rfl⟩:=rx;obtain⟨t',rfl⟩:=ry;exact notIn_str ⟨.bl _,H,I,rfl,q⟩
theorem a8:wA X (.type 18#1) (λxs H Q=> ∃p ys,xs= [.ref p]/\((x8 X.K H p ys/\∀l,H l=none->Q (.ref l) (upd H l 4#14))∨(xT X.K H p ys/\Q 3#13 H))):=by
 intro zc s σ H xs us Q I r h;obtain⟨p,ys,rfl,h⟩:=h;obtain⟨u,rfl,rx⟩:=o7 r;cases rx;rcases h with⟨hq,q⟩ | ⟨hq,q⟩
 ·obtain⟨zf,r',pl,hz⟩:=I.list hq
  have zu:=r'.length;refine call_tuple_list pl.isList (λh' kp=> ?_) (by simp only[bq] <;> grobner);have I1:z4 X zc σ H {s with heap:=h'} :=I.kept (t':=s.toks) kp;have I2:z4 X zc σ (upd H h'.objs.size 4#14) {s with heap:=h'.push {cls:= .type 18#1,data:= .seq zf.toArray}} :=
   I1.laid (t':=s.toks) (λb o e=>ap _ e) (ar _) (show xZ X.prog X.w _ _ _ (.tup ys)from⟨hz,zf,r',sL.new _ _⟩)
  exact⟨.ref h'.objs.size,_,I2,rfl,q _ (I1.hok.fresh (ar _))⟩
 ·obtain⟨zf,r',pl,hz⟩:=I.tuple hq
  exact call_tuple_same pl ⟨.ref p,H,I,rfl,q⟩
def cH (K:Frag)(T:String)(x:V)(H:Hp):Prop:=match x with
 | .str _=>T= "str"
 | .int _=>T= "int"
 | .ref p=>(T= 14#1 /\∃xs,x8 K H p xs)∨(T= 18#1 /\∃o,K.lookup p=some o/\o.cls= .type 18#1 /\o.dict=none)∨
   (T= 76#1 /\((∃kvs,H p=some (.dK kvs))∨∃kvs,H p=some (.dT kvs)))∨(T= "set" /\∃S n,H p=some (.set S n))
 | _=>False
theorem zox {zc:List 7#3}{σ:St}{H:Hp}{s:ai}{T:String}{x:V}{v:aa}(I:z4 X zc σ H s)(r:zO x v)(ty:cH X.K T x H):
  s.TypeIs v T/\∀a,v= .ref a->∃ob,s.heap.get? a=some ob/\ob.dict=none:=by
 cases x with
 | str z=>
  obtain⟨t,rfl⟩:=r;cases(show T= "str" from ty);exact⟨typeIs_str s z t,λ_ e=>nomatch e⟩
 | int i=>
  obtain⟨t,rfl⟩:=r;cases(show T= "int" from ty);exact⟨typeIs_int s i t,λ_ e=>nomatch e⟩
 | ref p=>
  cases r;rcases ty with⟨rfl,xs,hq⟩ | ⟨rfl,o,hk,hc,hd⟩ | ⟨rfl,hk⟩ | ⟨rfl,S,n,hk⟩
  ·obtain⟨zf,_,pl,_⟩:=I.list hq
   refine⟨pl.isList.typeIs,λa e=> ?_⟩;cases e;obtain⟨o,n,e,c,hd,_⟩:=pl;exact⟨o,e,hd⟩
  ·refine⟨⟨o,I.kIn p o hk,hc⟩,λa e=> ?_⟩
   cases e;exact⟨o,I.kIn _ o hk,hd⟩
  ·have z: ∃o,s.heap.get? p=some o/\o.ExactDict:=by
    rcases hk with⟨kvs,hk⟩ | ⟨kvs,hk⟩
    ·obtain⟨_,_,_,_,o,_,_,e,ex,_⟩:=I.hok p _ hk
     exact⟨o,e,ex⟩
    ·obtain⟨_,_,_,_,o,_,_,e,ex,_⟩:=I.hok p _ hk
     exact⟨o,e,ex⟩
   obtain⟨o,e,ex⟩:=z;refine⟨⟨o,e,ex.1⟩,λa e2=> ?_⟩;cases e2;exact⟨o,e,ex.2.1⟩
  ·obtain⟨o,_,_,_,e,ex,_⟩:=I.hok p _ hk
   refine⟨⟨o,e,ex.1⟩,λa e2=> ?_⟩;cases e2;exact⟨o,e,ex.2.1⟩
 | _=>exact False.elim ty
def zwU (K:Frag)(T:String)(r:V->List V->Hp->VK->Prop)(to:TE):TE:=λσ H Q=>to σ H λx H1=>cH K T x H1/\r x [] H1 Q
def tBM (K:Frag)(T:String)(r:V->List V->Hp->VK->Prop)(to:TE)(t:TA):TE:=λσ H Q=>to σ H λx H1=>cH K T x H1/\t σ H1 λxs H2=>r x xs H2 Q
variable {o e:Expr} {es:List Expr} {to:TE} {t:TA} {name:Str} {Af zv:fe} {T id:String} {r:V->List V->Hp->VK->Prop}
theorem zun (pa:PlainAttrs T)(slot:Slot T name id)(hty:typeOf 5#14=pure (.type "method_descriptor"))(hm:tX X id r)(ho:PE X o to)
  (hbase:attributeBase o name X.env (eval o X.env)=eval o X.env:=by rfl) (hline:(Af.endLine==zv.line)=true:=by rfl):PE X (.Call (.Attribute o name Af) [] [] zv) (zwU X.K T r to):=by
 constructor;intro zc s σ H Q I h;refine wpAny_Call_method0_late hbase hline (zL (ho zc s σ H _ I h) λv s1 ⟨x,H1,I1,r1,ty,q1⟩=> ?_);obtain⟨h1,h2⟩:=zox I1 r1 ty;exact⟨T,id,pa,slot,hty,h1,h2,pk rfl (PySem.evalArgs_none (hm zc s1 σ H1 x [] v [] Q I1 r1 .nil q1))⟩
theorem zum (pa:PlainAttrs T)(slot:Slot T name id)(hty:typeOf 5#14=pure (.type "method_descriptor"))(hm:tX X id r)(ho:PE X o to)(ha:PA X (e::es) t)
  (hbase:attributeBase o name X.env (eval o X.env)=eval o X.env:=by rfl)
  (hfew:((backTo zv (starEach (e::es) X.env)).all (λx=> !x.1)&&(backToKw zv (keywordEach [] X.env)).all (λx=>x.1.isSome)
   &&decide ((e::es).length+([]:List Keyword).length+4#17 < 30))=true:=by rfl)
  (hline:(Af.endLine==zv.line)=true:=by rfl) (hs:starEach (e::es) X.env=5#3::starEach es X.env:=by rfl) (hplain:(backTo zv 1#4).any (·.1)=false:=by rfl):
  PE X (.Call (.Attribute o name Af) (e::es) [] zv) (tBM X.K T r to t):=by
 constructor;intro zc s σ H Q I h;refine wpAny_Call_method_late hbase hfew hline rfl (zL (ho zc s σ H _ I h) λv s1 ⟨x,H1,I1,r1,ty,q1⟩=> ?_);obtain⟨h1,h2⟩:=zox I1 r1 ty;refine⟨T,id,pa,slot,hty,h1,h2,?_⟩;have hA:=ha zv zc s1 σ H1 _ I1 q1;rw[hs]at hA⊢
 refine pk (by show(false||(backTo zv 1#4).any (·.1))=false;rw[hplain] <;> rfl) (wn ?_);exact zL hA λus s2 ⟨vs,H2,I2,r2,q2⟩=>hm zc s2 σ H2 x vs v us Q I2 r1 r2 q2
end
def bG (X:Cx)(id:String)(r:V->List V->Hp->VK->Prop):Prop:=
 ∀(zc:List 7#3) (s:ai) (σ:St) (H:Hp) (x:V) (xs:List V) (v:aa) (us:List aa) (Q:VK),z4 X zc σ H s->zO x v->zJ xs us->r x xs H Q->
  ay 1#2 X.A (call 5#14 (v::us)) 7#4 X.xe s
theorem zJ.one: ∀{x:V} {us:List aa},zJ [x] us->∃u,us= [u]/\zO x u
 | _,_,.cons r .nil=>⟨_,rfl,r⟩
theorem zJ.two {x y:V}{us:List aa}(h:zJ [x,y] us): ∃u v,us= [u,v]/\zO x u/\zO y v:=by
 cases h with | cons r t=>cases t with | cons q t2=>cases t2;exact⟨_,_,rfl,r,q⟩
theorem zJ.zero: ∀{us:List aa},zJ [] us->us= []
 | _,.nil=>rfl
theorem zJ.dropLast {xs:List V}{us:List aa}(h:zJ xs us):zJ xs.dropLast us.dropLast:=by
 induction h with
 | nil=>exact .nil
 | cons r t ih=>
  cases t with
  | nil=>exact .nil
  | cons q t'=>exact .cons r ih
theorem zJ.eraseIdx: ∀{xs:List V} {us:List aa} (i:Nat),zJ xs us->zJ (xs.eraseIdx i) (us.eraseIdx i)
 | _,_,_,.nil=> .nil
 | _,_,0,.cons _ t=>t
 | _,_,i+1,.cons r t=> .cons r (zJ.eraseIdx i t)
theorem zJ.reverse {xs:List V}{us:List aa}(h:zJ xs us):zJ xs.reverse us.reverse:=by
 induction h with
 | nil=>exact .nil
 | cons r t ih=>rw[ng,ng];exact zJ.append ih (.cons r .nil)
theorem zqY {α:Type}(l:List α):l.eraseIdx (l.length - 1)=l.dropLast:=by
 induction l with
 | nil=>rfl
 | cons a r ih=>
  cases r with
  | nil=>rfl
  | cons b r=>
   have e:(a::b::r).length - 1=((b::r).length - 1)+1:=by
    have h1:(a::b::r).length=r.length+2:=rfl;have h2:(b::r).length=r.length+1:=rfl;grobner
   rw[e,km,ih]
   all_goals rfl
theorem zlY {α:Type} : ∀(l:List α) (i:Nat),(l.eraseIdx i).length<=l.length
 | [],_=>ar _
 | _::_,0=>iu _
 | _::r,i+1=>yl (zlY r i)
section
variable {X:Cx} {zc:List (ac×af)} {σ:St} {H:Hp} {s:ai} {l b:ac} {xs ys zs:List V}
theorem z4.lset {zf its':List aa}{n:Nat}{f:Array aa->Array aa}{t':Nat}(I:z4 X zc σ H s)(hH:H l=some 9#3)
  (e:s.heap.get? l=some {cls:= .type 14#1,data:= .seq zf.toArray n}) (hf:f zf.toArray=its'.toArray) (hv:zJ ys its') (hz:ys.length<=ak):
  z4 X zc σ (upd H l 0#17) {s with heap:=s.heap.update l (Obj.mapSeq f),toks:=t'} :=by
 have q:=uq e f;rw[hf]at q;refine I.write (x:=l) (e:=l) (by rw[hH];exact trivial) 5#9 (λb' u hb hu=>(cj s.heap (Obj.mapSeq f) (fw hb)).trans hu) ⟨_,q⟩ ?_;exact⟨hz,its',_,hv,q⟩
theorem z4.lnew {zf:List aa}{t':Nat}(I:z4 X zc σ H s)(hv:zJ ys zf)(hz:ys.length<=ak):
  z4 X zc σ (upd H s.heap.objs.size 0#17) {s with heap:=s.heap.push {cls:= .type 14#1,data:= .seq zf.toArray},toks:=t'} :=
 I.laid (λ_ _ q=>ap _ q) (ar _) ⟨hz,zf,0,hv,cm _ rfl⟩
theorem z4.fresh (I:z4 X zc σ H s):H s.heap.objs.size=none:=I.hok.fresh (ar _)
theorem z4.lstM (I:z4 X zc σ H s)(hH:H l=some 9#3):xs.length<=ak/\∃(zf:List aa) (n:Nat),zJ xs zf/\xs.length=zf.length/\s.heap.get? l=some {cls:= .type 14#1,data:= .seq zf.toArray n} :=by
 obtain⟨z,zf,n,r,e⟩:=I.hok l _ hH;exact⟨z,zf,n,r,r.length,e⟩
theorem ztb {n:Nat}(h:n<=ak):Builtin.List.listTooLong n=false:=by
 unfold Builtin.List.listTooLong;exact decide_eq_false 0#0
end
section
variable {X:Cx}
def zv8:V->List V->Hp->VK->Prop:=λx vs H Q=> ∃l xs y,x= .ref l/\vs= [y]/\H l=some 9#3/\xs.length < ak/\Q .non (upd H l (.lst (xs++ [y])))
theorem zsD:bG X "list.append" zv8:=by
 intro zc s σ H x vs v us Q I rx rv h;obtain⟨l,xs,y,rfl,rfl,hH,hz,q⟩:=h;cases rx;obtain⟨u,rfl,ru⟩:=rv.one;obtain⟨z,zf,n,r,hl,e⟩:=I.lstM hH;refine nu rp ⟨_,e,rfl⟩ qu (qj _ _) (ua l zf.toArray n u (by rw[bq];grobner)) ⟨e,?_⟩;refine⟨.non,_,I.lset (its':=zf++ [u]) hH e 3#0 (r.append (.cons ru .nil)) ?_,rfl,q⟩;rw[am,cr];grobner
def zvJ:V->List V->Hp->VK->Prop:=λx vs H Q=> ∃l xs y,x= .ref l/\vs= []/\H l=some 9#3/\xs[xs.length - 1]?=some y/\Q y (upd H l (.lst xs.dropLast))
theorem zsF:bG X "list.pop" zvJ:=by
 intro zc s σ H x vs v us Q I rx rv h;obtain⟨l,xs,y,rfl,rfl,hH,hy,q⟩:=h;cases rx;have hus:=rv.zero;subst hus;obtain⟨z,zf,n,r,hl,e⟩:=I.lstM hH;obtain⟨u,hu,ru⟩:=r.get hy;have hy':zf.toArray[zf.toArray.size - 1]?=some u:=by
  show zf.toArray[zf.length - 1]?=some u;rw[<- jd,<- hl];exact hu
 refine nu F.slot_list_pop ⟨_,e,rfl⟩ F.entry_list_pop (F.args_list_pop_1 _) (MeetsSeq.list_pop_last l zf.toArray n u hy' (by rw[bq];grobner)) ⟨e,?_⟩;refine⟨y,_,I.lset (its':=zf.dropLast) hH e ?_ r.dropLast ?_,ru,q⟩
 ·show zf.toArray.eraseIdxIfInBounds (zf.toArray.size - 1)=zf.dropLast.toArray
  rw[bq,qh,zqY]
 ·rw[wo]
  grobner
def zvK:V->List V->Hp->VK->Prop:=λx vs H Q=> ∃l xs i k y,x= .ref l/\vs= [.int i]/\H l=some 9#3/\ -(2 ^ 63)<=i/\i < 2 ^ 63/\seqIndex? i xs.length=some k/\xs[k]?=some y/\Q y (upd H l (.lst (xs.eraseIdx k)))
theorem zsG:bG X "list.pop" zvK:=by
 intro zc s σ H x vs v us Q I rx rv h;obtain⟨l,xs,i,k,y,rfl,rfl,hH,h1,h2,hk,hy,q⟩:=h;cases rx;obtain⟨u,rfl,ru⟩:=rv.one;obtain⟨t,rfl⟩:=ru;obtain⟨z,zf,n,r,hl,e⟩:=I.lstM hH;obtain⟨w,hw,rw'⟩:=r.get hy;refine nu F.slot_list_pop ⟨_,e,rfl⟩ F.entry_list_pop (F.args_list_pop_2 _ _)
  (MeetsSeq.list_pop_at l zf.toArray n i t k w (fitsIndex_both h1 h2) (by rw[bq,<- hl];exact hk) (by rw[<- jd];exact hw) (by rw[bq];grobner)) ⟨e,?_⟩
 refine⟨y,_,I.lset (its':=zf.eraseIdx k) hH e ?_ (r.eraseIdx k) ?_,rw',q⟩
 ·show zf.toArray.eraseIdxIfInBounds k=(zf.eraseIdx k).toArray
  rw[qh]
 ·have:=zlY xs k
  grobner
end
end L2
namespace Att
open PySem PySem.W PySem.Calls PyProof.Rows
theorem zrC {P:fq}{h:cn} : ∀(ns:List Int) (vs:List aa),WellAll P h vs (ns.map WData.int)->IntsAre vs ns:=by
 intro ns
 induction ns with
 | nil=>
  intro vs w;rw[jf]at w;cases w;exact .nil
 | cons n ns ih=>
  intro vs w;rw[av]at w;cases w with
  | cons a b=>
   cases a;exact .cons _ _ (ih _ b)
theorem zwo {l:OpenLaw}{n:Nat}(hn:l.most=some n){P:fq}{h:cn}{args:List WData}{Aa:List aa}
  (hpre:l.row.toRowW.claim.pre args=true) (At:WellAll P h Aa args):
  ∃a vs ns,Aa= [Value.ref a]/\args= [WData.list (ns.map WData.int)]/\h.get? a=some {cls:= .type 14#1,data:= .seq vs.toArray} /\IntsAre vs ns/\ns.length<=n:=by
 have hsh:WShape.hasAll [] args [.list .int]=true:=(pre_splitW hpre).1;have hc:l.pre.holds [] {args:=args} =true:=(pre_splitW hpre).2;obtain⟨d,r,rfl,h1,h2⟩:=hasAllW_cons hsh;obtain rfl:=hasAllW_nil h2;obtain⟨xs,rfl,h3⟩:=hasW_list h1;obtain⟨ns,rfl⟩:=items_int h3;have zu:ns.length<=n:=by
  unfold OpenLaw.pre at hc;have h4:(WTm.not (.lt (.lit (.int (n:Int))) (.len (.arg 0)))).holds [] {args:= [.list (ns.map .int)]} =true:=by
   have h4:=(holds_andW hc).1;rw[hn]at h4;exact h4
  have h5:=condW_of h4 (w_not (w_lt w_lit (w_len_list (w_arg rfl))));rw[ae]at h5;refine ym λq=> ?_;have q':(n:Int) < ((ns.length:Nat):Int):=0#0
  first
   | (rw[decide_eq_true q']at h5;exact absurd h5 2#0)
   | (simp at h5;grobner)
 cases At with
 | cons w1 w2=>
  cases w2;cases w1 with
  | list ho Ar=>exact⟨_,_,ns,rfl,rfl,ho,zrC ns _ Ar,zu⟩
theorem zuN (l:OpenLaw)(args:List WData):l.row.toRowW.claim.post args (.bool true) args=true:=
 postW_of (r:=l.row.toRowW) (X:=(true==true))
  (show WShape.has [] (.bool true) .bool=true by first | rfl | decide | simp[WShape.has,WShape.arms,WShape.armsAll])
  (show(WTm.eq .res (.lit (.bool true))).value [] {args:=args,res:=some (.bool true),after:=args} =some (.bool (true==true))from w_eq_bool (w_res rfl) w_lit) rfl
theorem attach_call {l:OpenLaw}{n:Nat}{q:ce}{loose:List Str}{XP:(Str->Option aa)->cn->Prop}{YP:ci->cn->Prop}{d:DefRec}
  (hn:l.most=some n) (hdf:d.params.defaults= [])
  (call: ∀(w:ci) (s₀ s₁:ai) (mg mb:Str->Option aa) (fa:ac) (o:af) (pm cd doc:aa) (a:ac) (vs:List aa) (ns:List Int),
   Ground q loose [] XP w s₀ mg mb s₁.heap->YP w s₁.heap->
   s₁.heap.get? fa=some o->o.data= .func (docDef d.name d.params d.body d.scope pm cd doc)->s₁.heap.CodeRec cd d.name->mg d.name=some (.ref fa)->
   s₁.heap.get? a=some {cls:= .type 14#1,data:= .seq vs.toArray} ->IntsAre vs ns->ns.length<=n->s₁.gens= #[]->
   kf (bc l.prog w) callerA (.call (.ref fa) ⟨[.ref a],[]⟩) 9#5 s₁):
  WalkO q loose XP YP l.row.toRowW d [] (λf vs=>PySem.call f vs):=by
 intro w s₀ s₁ mg mb G Y fa o pm cd doc dV kV ho hd hcd hD AI hg args Aa as hpre hlay hrd At hlo;obtain rfl:dV= .none:=Dflts.none hD hdf;obtain rfl:kV= .none:=Dflts.noKw hD;obtain⟨a,vs,ns,rfl,rfl,hobj,hints,zu⟩:=zwo hn hpre At;refine enter_call (lj (call w s₀ s₁ mg mb fa o pm cd doc a vs ns G Y ho (fd_plain hd) hcd AI hobj hints zu hg) λr s' hq=> ?_);obtain⟨rfl,h2,h3,h4⟩:=hq;exact⟨.inl ⟨.bool true,.bool true,[],rfl,λ_=>rfl,.bool true,zuN l _,λ_=>⟨List.Pairwise.nil,λ_ hm=>(nomatch hm)⟩⟩,h2,h3,h4⟩
end Att
namespace L2
open PySem PySem.Spec PyProof.Rows
theorem zoQ: ∀{vs:List aa} {ns:List Int},IntsAre vs ns->zJ (ns.map V.int) vs
 | _,_,.nil=> .nil
 | _,_,.cons n t h=> .cons ⟨t,rfl⟩ (zoQ h)
def bI (H:Hp):Prop:= ∀b,H b=none∨∃o xs,H b=some (.frz o 9#3)
theorem zsc {P:ce}{w:ci}{K:Frag}{mg mb:Str->Option aa}{CX:uC}{k:Nat}{fa a:ac}{fd:bu}{x:Str}{sp:Sp}{s₁:ai}{vs:List aa}{ns:List Int}
  (KX:K.In s₁.heap) (hns:s₁.heap.Ns dz mg) (hb:s₁.heap.Ns builtinsNs mb) (hbb: ∀x:Str,x≠ "__name__" ->mb x=bootBuiltins x) (hlim:s₁.heap.NoLimit) (hg:s₁.gens= #[])
  (ha:s₁.heap.get? a=some {cls:= .type 14#1,data:= .seq vs.toArray}) (hi:IntsAre vs ns) (hl:ns.length<=ak) (hr:zI k callerA)
  (F: ∀base:cn,K.In base->base.Ns dz mg->zM P w K mg base CX k fa fd [x] sp) (hbind: ∀(s:ai) (u:aa),BindsTo s fd ⟨[u],[]⟩ [(x,u)])
  (Aq: ∀H:Hp,bI H->x8 K H a (ns.map V.int)->sp [.ref a] H (λv _=>v= .bl true) λ_ _ _=>False)
  (hCX: ∀H e s',CX [] H s₁ (λ_ _ _=>False) e s'->False):
  kf (bc P w) callerA (.call (.ref fa) ⟨[.ref a],[]⟩) 9#5 s₁:=by
 have rv:=zoQ hi;have lenV:=hi.length;have core: ∀H:Hp,bI H->x8 K H a (ns.map V.int)->xG P w H s₁.heap->(∀b,H b≠none->b=a)->(H a≠none->K.lookup a=none)->
   kf (bc P w) callerA (.call (.ref fa) ⟨[.ref a],[]⟩) 9#5 s₁:=by
  intro H hO hS hok hA hK;have base_of: ∀{b:ac} {o:af},s₁.heap.get? b=some o->H b=none->(qQ s₁.heap H).get? b=some o:=λe n=>zr2 e n;have noA: ∀{b:ac} {o:af} {es:Array rq} {ep:Nat},s₁.heap.get? b=some o->o.data= .dict es ep->H b=none:=λ{b o es ep} e d=>by
   cases q:H b with
   | none=>rfl
   | some u=>
    have e':b=a:=hA b (by rw[q];simp);subst e';rw[ha]at e;cases e;have d':Data.seq vs.toArray _=Data.dict es ep:=d;cases d'
  have nsK: ∀{b:ac} {m:Str->Option aa},s₁.heap.Ns b m->(qQ s₁.heap H).Ns b m:=λ{b m} ⟨o,es,ep,e,d,r⟩=>⟨o,es,ep,base_of e (noA e d),d,r⟩;have hKb:K.In (qQ s₁.heap H):=λb o e=>base_of (KX b o e) (by
   cases q:H b with
   | none=>rfl
   | some u=>
    have e':b=a:=hA b (by rw[q];simp);subst e';rw[hK (by rw[q];simp)]at e;cases e)
  have hM:Mod K mg (qQ s₁.heap H):=⟨hKb,nsK hns,⟨mb,nsK hb,hbb⟩,let⟨mc,h1,h2⟩:=hlim;⟨mc,nsK h1,h2⟩⟩;have e0:uR P w K mg (qQ s₁.heap H) callerA [] s₁ H:=⟨rfl,hM,λb o e=>ztr e,ur (zr3 _ _),trivial,λb hb=>absurd (show b∈([]:List ac)from hb) 3#0,hok,.of_eq hg⟩;refine lj ((F _ hKb (nsK hns)).run callerA [] s₁ H ⟨[.ref a],[]⟩ [.ref a] [.ref a] _ _ hr e0 (hbind s₁ 8#9) (.cons rfl .nil) (Aq H hO hS)) λr s' h=> ?_;cases r with
  | error e=>exact(hCX H e s' h).elim
  | ok fl=>
   cases fl with
   | next=>exact False.elim h
   | brk=>exact False.elim h
   | cont=>exact False.elim h
   | ret u=>
    obtain⟨v,H',os,bare,un,hok',r',q⟩:=h;have q':v= .bl true:=q;subst q';obtain rfl:u=Value.bool true:=r';refine⟨rfl,OldK.of_keep λb o e=> ?_,os,bare⟩;cases q:H b with
    | none=>exact un.keep b o e q (by intro z;exact absurd (show b∈([]:List ac)from z) 3#0) 3#0
    | some u=>
     rcases hO b with z | ⟨ob,xs,z⟩
     ·rw[q]at z;cases z
     ·have z2:=un.frzs b ob _ z
      obtain⟨e1,_⟩:=hok b _ z;obtain⟨e2,_⟩:=hok' b _ z2;rw[e]at e1;cases e1;exact e2
 cases hk:K.lookup a with
 | some o=>
  have e:=KX a o hk;rw[ha]at e;cases e;refine core (λ_=>none) (λ_=> .inl rfl) (.inr ⟨_,vs.toArray,_,hk,rfl,rfl,rfl,by rw[bq,lenV];exact hl,by simpa using rv,rfl⟩) (λb u z=>by have z':(none:Option HO)=some u:=z;cases z') (λb z=>absurd rfl z) λz=>absurd rfl z
 | none=>
  refine core (λb=>if b=a then some (.frz {cls:= .type 14#1,data:= .seq vs.toArray} (.lst (ns.map V.int)))else none) (λb=> ?_) (.inl (.inr ⟨{cls:= .type 14#1,data:= .seq vs.toArray},if_pos rfl⟩)) (λb u z=> ?_) (λb z=> ?_) λ_=>hk
  ·by_cases hb:b=a
   ·exact .inr ⟨_,_,if_pos hb⟩
   ·exact .inl (if_neg hb)
  ·by_cases hb:b=a
   ·have z':=(if_pos hb).symm.trans z
    cases z';subst hb;exact⟨ha,by rw[ae];exact hl,vs,_,rv,ha⟩
   ·have z':=(if_neg hb).symm.trans z
    cases z'
  ·by_cases hb:b=a
   ·exact hb
   ·exact absurd (if_neg hb) z
theorem walk_of {l:PySem.W.OpenLaw}{n k:Nat}{q:ce}{loose:List Str}{XP:(Str->Option aa)->cn->Prop}{YP:ci->cn->Prop}{d:DefRec}{K:fq->Frag}{CX:ci->uC}{sp:ci->Sp}{x:Str}
  (hn:l.most=some n) (hn2:n<=ak) (hdf:d.params.defaults= []) (hr:zI k callerA)
  (hY: ∀(w:ci) (h:cn),YP w h->(K w.params).In h)
  (F: ∀(w:ci) (mg:Str->Option aa) (fa:ac) (h:cn),(K w.params).In h->h.Ns dz mg->mg d.name=some (.ref fa)->
   ∃fd:bu,(∀(s:ai) (u:aa),BindsTo s fd ⟨[u],[]⟩ [(x,u)])/\
    ∀base:cn,(K w.params).In base->base.Ns dz mg->zM l.prog w (K w.params) mg base (CX w) k fa fd [x] (sp w))
  (Aq: ∀(w:ci) (H:Hp) (a:ac) (ns:List Int),ns.length<=n->bI H->x8 (K w.params) H a (ns.map V.int)->sp w [.ref a] H (λv _=>v= .bl true) λ_ _ _=>False)
  (hCX: ∀(w:ci) (H:Hp) (s:ai) (e:aa) (s':ai),CX w [] H s (λ_ _ _=>False) e s'->False):
  PySem.W.WalkO q loose XP YP l.row.toRowW d [] (λf vs=>PySem.call f vs):=by
 refine Att.attach_call hn hdf λw s₀ s₁ mg mb fa o pm cd doc a vs ns G Y ho hd hcd AI hobj hints zu hg=> ?_;have KX:=hY w _ Y;obtain⟨fd,hb,hF⟩:=F w mg fa _ KX G.T.g AI;exact zsc KX G.T.g G.T.b G.T.builtins G.T.nolimit hg hobj hints (bh zu hn2) hr hF hb (λH hO hS=>Aq w H a ns zu hO hS) λH e s'=>hCX w H s₁ e s'
def zr_ (s:cu)(j:Nat):cu:=match s with
 | .ClassDef _ _ _ body _ _ _ _ _ _ _=>body.getD j (.Pass ⟨0,0,0,0⟩)
 | _=> .Pass ⟨0,0,0,0⟩
def pO (s:cu):Arguments:=match s with
 | .FunctionDef _ a _ _ _ _ _ _ _ _=>a
 | _=> {posonlyargs:= [],args:= [],vararg:=none,kwonlyargs:= [],kw_defaults:= [],kwarg:=none,defaults:= []}
def sR (s:cu):List cu:=match s with
 | .FunctionDef _ _ b _ _ _ _ _ _ _=>b
 | _=> []
def zQ (s:cu):ll:=match s with
 | .FunctionDef _ _ _ _ _ _ sc _ _ _=>sc
 | _=> {kind:= .function,names:= [],isGenerator:=false,isCoroutine:=false}
abbrev zY:uC:=λ_ _ _ _ _ _=>False
abbrev E0:XK:=λ_ _ _=>False
theorem fJ {X:Cx} :rK zY X E0:=λ_ _ _ _ _ _ _ h=>h.elim
structure yA (K:Frag)(x qual:Str)(st:cu)(f:ac)(fd:bu):Prop where
 ex: ∃(oc:aa) (od:Option ac) (kV doc pm:aa) (an:Option ac) (zr ct:aa) (AC:Array 5#8),
  fd=fnOf x qual (pO st) (sR st) (zQ st) .none kV doc pm an zr ct/\K.lookup f=some ⟨oc,od,.func fd,AC⟩/\codeIn K zr qual=true
 kp:keepIn K 2#8=true
section
variable {P:ce} {w:ci} {K:Frag} {mg:Str->Option aa} {base:cn}
theorem yA.ok {x qual:Str}{st:cu}{f:ac}{fd:bu}{N ps:List Str}{k:Nat}{sp:Sp}(F:yA K x qual st f fd)(S:yL N ps (zQ st))(len: ∀vs H Q E,sp vs H Q E->vs.length=ps.length)
  (hbody: ∀(zr:aa) (A:cw) (outer:List ly) (s:ai) (H:Hp) (vs:List V) (Q:VK) (E:XK),zI k 8#12->sp vs H Q E->
   ∃t,xC (vY zY P w K mg base N qual (zQ st) f zr A outer s H E).nox (sR st) t/\t {nx:=λ_ H'=>Q .non H',rt:=Q} (start N vs) H):zM P w K mg base zY (k+1) f fd ps sp:=by
 obtain⟨oc,od,kV,doc,pm,an,zr,ct,AC,rfl,lk,hcd⟩:=F.ex;refine zlx lk hcd S len λA outer s H vs Q E hr Aq=> ?_;obtain⟨t,h,q⟩:=hbody zr A outer s H vs Q E hr Aq;exact⟨t,h.nox,q⟩
theorem yA.binds {x qual:Str}{st:cu}{f:ac}{fd:bu}{ps:List Str}(F:yA K x qual st f fd)
  (h: ∀(kV doc pm:aa) (an:Option ac) (zr ct:aa) (us:List aa),us.length=ps.length->bindArgs 8#10 ⟨us,[]⟩=pure (ps.zip us)):xI K fd ps []:=by
 obtain⟨oc,od,kV,doc,pm,an,zr,ct,AC,rfl,lk,hcd⟩:=F.ex;exact .all (h kV doc pm an zr ct)
theorem kP {x qual:Str}{st:cu}{f:ac}{oc:aa}{od an:Option ac}{AC:Array 5#8}{kV doc pm zr ct:aa}(l:K.lookup f=some ⟨oc,od,.func 8#10,AC⟩)
  (c:codeIn K zr qual=true) (k:keepIn K 2#8=true):yA K x qual st f 8#10:=⟨⟨oc,od,kV,doc,pm,an,zr,ct,AC,rfl,l,c⟩,k⟩
end
section
variable {X:Cx}
theorem pv (i:Nat){x:Str}{pos:fe}(hN:X.N[i]?=some x:=by rfl)(hv:kC X.env.scope x:=by first | exact Or.inl rfl | exact Or.inr 9#16 | exact Or.inr (Or.inr rfl))(hd:8#3=false:=by decide)
  (hcd:(x==("__classdict__" :Str))=false:=by decide):PE X 3#16 (pD i):=fL hN hv hd hcd
end
theorem zeN {c A B:Prop}[Decidable c](h1:c->A)(h2: ¬ c->B):if c then A else B:=by
 by_cases h:c
 ·rw[if_pos h]
  exact h1 h
 ·rw[if_neg h]
  exact h2 h
section
variable {κ:Type} [DecidableEq κ]
def vF (kvs:List (κ×V))(k:κ):Option V:=(kvs.find? λkv=>decide (kv.1=k)).map (·.2)
def wU (kvs:List (κ×V))(k:κ)(v:V):List (κ×V):=
 if 4#5=true then kvs.map (λkv=>if kv.1=k then(kv.1,v)else kv)else kvs++ [(k,v)]
def m7 (kvs:List (κ×V))(k:κ):List (κ×V):=kvs.filter λkv=>decide (kv.1≠k)
theorem iC {p:κ×V}{r:List (κ×V)}{k:κ}(e:p.1=k):vF (p::r) k=some p.2:=by simp[vF,db,e]
theorem iB {p:κ×V}{r:List (κ×V)}{k:κ}(e: ¬ p.1=k):vF (p::r) k=vF r k:=by simp[vF,db,e]
theorem zoO (k:κ): ∀kvs:List (κ×V),4#5=(vF kvs k).isSome
 | []=>rfl
 | p::r=>by
  rw[ji];by_cases e:p.1=k
  ·simp only[iC e,decide_eq_true e,Bool.true_or,Option.isSome_some]
  ·rw[iB e,decide_eq_false e,Bool.false_or];exact zoO k r
theorem gZ (kvs:List (κ×V))(k:κ)(v:V):(wU kvs k v).length<=kvs.length+1:=by
 unfold wU
 split
 ·rw[ae];grobner
 ·rw[am,bv,jm];grobner
theorem uE.isSome_eq {o:Option V}{u:Option aa}(r:uE o u):o.isSome=u.isSome:=by
 cases o with
 | none=>cases u with
  | none=>rfl
  | some _=>exact(show False from r).elim
 | some _=>cases u with
  | none=>exact(show False from r).elim
  | some _=>rfl
theorem KV.val {kvs:List (κ×V)}{vs:List (κ×aa)}(r:KV kvs vs)(k:κ):uE (vF kvs k) (valueAt vs k):=by
 unfold KV at r
 induction r with
 | nil=>exact True.intro
 | @cons p q ps qs h t ih=>
  obtain⟨h1,h2⟩:=h;by_cases e:p.1=k
  ·have e':q.1=k:=h1.symm.trans e
   have b:valueAt (q::qs) k=some q.2:=by simp[valueAt,db,e']
   rw[iC e,b];exact h2
  ·have e': ¬ q.1=k:=λz=>e (h1.trans z)
   have b:valueAt (q::qs) k=valueAt qs k:=by simp[valueAt,db,e']
   rw[iB e,b];exact ih
theorem KV.any {kvs:List (κ×V)}{vs:List (κ×aa)}(r:KV kvs vs)(k:κ):4#5=vs.any λkv=>decide (kv.1=k):=by
 unfold KV at r
 induction r with
 | nil=>rfl
 | cons h t ih=>rw[ji,ji,ih,h.1]
theorem KV.repl {kvs:List (κ×V)}{vs:List (κ×aa)}(r:KV kvs vs)(k:κ){y:V}{u:aa}(ry:zO y u):
  KV (kvs.map λkv=>if kv.1=k then(kv.1,y)else kv) (vs.map λkv=>if kv.1=k then(kv.1,u)else kv):=by
 unfold KV at r⊢
 induction r with
 | nil=>exact .nil
 | @cons p q ps qs h t ih=>
  rw[av,av];refine .cons ?_ ih;obtain⟨h1,h2⟩:=h;by_cases e:p.1=k
  ·rw[if_pos e,if_pos (h1.symm.trans e)];exact⟨h1,ry⟩
  ·rw[if_neg e,if_neg (λz=>e (h1.trans z))];exact⟨h1,h2⟩
theorem KV.put {kvs:List (κ×V)}{vs:List (κ×aa)}(r:KV kvs vs)(k:κ){y:V}{u:aa}(ry:zO y u):KV (wU kvs k y) (rz vs k u):=by
 unfold wU rz;rw[r.any k];by_cases e:(vs.any λkv=>decide (kv.1=k))=true
 ·rw[if_pos e,if_pos e];exact r.repl k ry
 ·rw[if_neg e,if_neg e];exact Paired.snoc r ⟨rfl,ry⟩
theorem KV.drop {kvs:List (κ×V)}{vs:List (κ×aa)}(r:KV kvs vs)(k:κ):KV (m7 kvs k) (without vs k):=by
 unfold KV at r⊢
 unfold m7 without
 induction r with
 | nil=>exact .nil
 | @cons p q ps qs h t ih=>
  obtain⟨h1,h2⟩:=h;rw[ky,ky];by_cases e:p.1=k
  ·have a: ¬ decide (p.1≠k)=true:=by simp[e]
   have b: ¬ decide (q.1≠k)=true:=by simp[h1.symm.trans e]
   rw[if_neg a,if_neg b];exact ih
  ·have e': ¬ q.1=k:=λz=>e (h1.trans z)
   have a:decide (p.1≠k)=true:=by simp[e]
   have b:decide (q.1≠k)=true:=by simp[e']
   rw[if_pos a,if_pos b];exact .cons ⟨h1,h2⟩ ih
theorem KV.length {kvs:List (κ×V)}{vs:List (κ×aa)}(r:KV kvs vs):kvs.length=vs.length:=jh r
theorem zia (kvs:List (κ×V))(k:κ):(m7 kvs k).length<=kvs.length:=qd _ _
end
theorem rS {P:ce}{w:ci}{k:z8}{u:aa}(r:zO (kV k) u):(wD P w).is k u=true:=by
 cases k with
 | inl i=>obtain⟨t,e⟩:=(show ∃t,u=Value.int i t from r);subst e;exact zs7 P w i t
 | inr x=>obtain⟨t,e⟩:=(show ∃t,u=Value.str x t from r);subst e;exact zfc P w x t
theorem zlL {P:ce}{w:ci} : ∀{ks:List z8} {us:List aa},zJ (ks.map kV) us->ItemsAre (wD P w) ks us
 | [],_,r=>by rw[jf]at r;cases r;exact .nil
 | k::ks,_,r=>by
  rw[av]at r;cases r with
  | cons h t=>exact .cons (rS h) (zlL t)
abbrev KT (H:Hp):List (List z8×V)->List 5#17->Prop:=Paired λp q=>p.1=q.1/\H q.2.1=some (.tup (p.1.map kV))/\zO p.2 q.2.2
theorem KT.val {H:Hp}{kvs:List (List z8×V)}{xs:List 5#17}(r:KT H kvs xs)(k:List z8):uE (vF kvs k) ((atKey xs k).map (·.2)):=by
 induction r with
 | nil=>exact True.intro
 | @cons p q ps qs h t ih=>
  obtain⟨h1,_,h2⟩:=h;by_cases e:p.1=k
  ·have e':q.1=k:=h1.symm.trans e
   have b:atKey (q::qs) k=some q.2:=by simp[atKey,db,e']
   rw[iC e,b];exact h2
  ·have e': ¬ q.1=k:=λz=>e (h1.trans z)
   have b:atKey (q::qs) k=atKey qs k:=by simp[atKey,db,e']
   rw[iB e,b];exact ih
theorem KT.repl {H:Hp}{kvs:List (List z8×V)}{xs:List 5#17}(r:KT H kvs xs)(k:List z8){y:V}{u:aa}(ry:zO y u):
  KT H (kvs.map λkv=>if kv.1=k then(kv.1,y)else kv) (xs.map (putAt k u)):=by
 induction r with
 | nil=>exact .nil
 | @cons p q ps qs h t ih=>
  rw[av,av];refine .cons ?_ ih;obtain⟨h1,h2,h3⟩:=h;unfold putAt;by_cases e:p.1=k
  ·rw[if_pos e,if_pos (h1.symm.trans e)];exact⟨h1,h2,ry⟩
  ·rw[if_neg e,if_neg (λz=>e (h1.trans z))];exact⟨h1,h2,h3⟩
theorem KT.put {H:Hp}{kvs:List (List z8×V)}{xs:List 5#17}(r:KT H kvs xs)(k:List z8){b:ac}{y:V}{u:aa}(hb:H b=some (.tup (k.map kV)))(ry:zO y u):
  KT H (wU kvs k y) (storedH xs k b u):=by
 have e:4#5=(atKey xs k).isSome:=by
  rw[zoO,(r.val k).isSome_eq,ub]
 unfold wU storedH;rw[e];by_cases q:(atKey xs k).isSome=true
 ·rw[if_pos q,if_pos q];exact r.repl k ry
 ·rw[if_neg q,if_neg q];exact Paired.snoc r ⟨rfl,hb,ry⟩
theorem KT.keeps {H H':Hp}{kvs:List (List z8×V)}{xs:List 5#17}(r:KT H kvs xs)(ht: ∀b ys,H b=some 4#14->H' b=some 4#14):KT H' kvs xs:=
 Paired.mapP r λ_ _ z=>⟨z.1,ht _ _ z.2.1,z.2.2⟩
section
variable {P:ce} {w:ci} {H:Hp} {h:cn} {a:ac}
theorem zns {u:HO}(ok:xG P w H h)(e:Rd H a u):xZ P w H h a u:=e.ok ok
theorem nZ {kvs:List (z8×V)}(ok:xG P w H h)(e:Rd H a (.dK kvs)):kvs.length<=ak/\8#14=false/\∃vs,KV kvs vs/\h.DictOf (wD P w) a vs:=
 show xZ P w H h a (.dK kvs)from zns ok e
theorem kK {kvs:List (z8×V)}(ok:xG P w H h)(e:H a=some (.dK kvs)):kvs.length<=ak/\8#14=false/\∃vs,KV kvs vs/\h.DictOf (wD P w) a vs:=nZ ok (.inl e)
theorem kS {ks:List z8}(ok:xG P w H h)(e:H a=some (.tup (ks.map kV))):(tupleKind (wD P w)).is h ks a:=by
 obtain⟨_,zf,r,o,h1,h2,n,h3,_⟩:=(show xZ P w H h a (.tup (ks.map kV))from ok a _ e);exact⟨o,zf.toArray,n,h1,h2,h3,by simpa using zlL r⟩
theorem kM {kvs:List (List z8×V)}(ok:xG P w H h)(e:Rd H a (.dT kvs)):kvs.length<=ak/\8#14=false/\
  ∃xs,KT H kvs xs/\h.DictOfH (tupleKind (wD P w)) a xs:=by
 obtain⟨z,y,xs,r,o,es,ep,h1,h2,h3,h4,h5⟩:=(show xZ P w H h a (.dT kvs)from zns ok e);refine⟨z,y,xs,r,o,es,ep,h1,h2,h3,h4,λx hx=> ?_,h5⟩;have all: ∀{l:List (List z8×V)} {m:List 5#17},KT H l m->∀x∈m,(tupleKind (wD P w)).is h x.1 x.2.1:=by
  intro l m q
  induction q with
  | nil=>intro x hx;exact nomatch hx
  | @cons p q ps qs hq t ih=>
   intro x hx;rcases bo.mp hx with e | hx
   ·subst e
    exact kS ok (by rw[<- hq.1];exact hq.2.1)
   ·exact ih x hx
 exact all r x hx
theorem zqL {kvs:List (List z8×V)}(ok:xG P w H h)(e:H a=some (.dT kvs)):kvs.length<=ak/\8#14=false/\
  ∃xs,KT H kvs xs/\h.DictOfH (tupleKind (wD P w)) a xs:=kM ok (.inl e)
end
def lR (H:Hp)(a:ac)(y:V)(r:Option V):Prop:=
 (∃kvs k,Rd H a (.dK kvs)/\y=kV k/\r=vF kvs k)∨∃kvs k b,Rd H a (.dT kvs)/\y= .ref b/\H b=some (.tup (k.map kV))/\r=vF kvs k
def zoV (H:Hp)(a:ac)(y v:V)(H':Hp):Prop:=
 (∃kvs k,H a=some (.dK kvs)/\y=kV k/\kvs.length < ak/\H'=upd H a (.dK (wU kvs k v)))∨
 ∃kvs k b,H a=some (.dT kvs)/\y= .ref b/\H b=some (.tup (k.map kV))/\kvs.length < ak/\H'=upd H a (.dT (wU kvs k v))
section
variable {X:Cx} {zc:List (ac×af)} {σ:St} {H:Hp} {s:ai} {a:ac} {y v:V} {u r:aa} {o:Option V} {A:cw} {E:aa->ai->Prop}
theorem z4.big (I:z4 X zc σ H s):sysModules < s.heap.objs.size:=by
 have h:dz < s.heap.objs.size:=(I.mod.glob.keeps I.bk).lt;exact ir 2#0 h
theorem zqB {Q:aa->ai->Prop}(hu:A.units+1 < cLine)(I:z4 X zc σ H s)(g:lR H a y (some v))(ry:zO y u)(h: ∀w' s',z4 X zc σ H s'->zO v w'->Q w' s'):
  ay 1#2 A (getItem 8#9 u) Q E s:=by
 rcases g with⟨kvs,k,e,ey,l⟩ | ⟨kvs,k,b,e,ey,eb,l⟩
 ·subst ey
  obtain⟨z,hd,vs,zg,dd⟩:=nZ I.hok e;obtain⟨w',hw,rw'⟩:=uE.some_of (v:=v) (o:=valueAt vs k) (by rw[l];exact zg.val k);exact wpAny_getItem_of (rS ry) dd.mapOf hw (h w' _ (I.tok _) rw')
 ·subst ey
  cases(show u=Value.ref b from ry);obtain⟨z,hd,xs,zg,dd⟩:=kM I.hok e;obtain⟨w',hw,rw'⟩:=uE.some_of (v:=v) (o:=(atKey xs k).map (·.2)) (by rw[l];exact zg.val k);obtain⟨p,hp,hp2⟩:=Option.map_eq_some_iff.mp hw;refine wpAny_getItem_heap (om hu) (kS I.hok eb) dd hp ?_;rw[hp2];exact h w' _ (I.tok _) rw'
theorem zqC {Q:aa->ai->Prop}(hu:A.units+1 < cLine)(I:z4 X zc σ H s)(g:lR H a y o)(ry:zO y u)(h: ∀s',z4 X zc σ H s'->Q (.bool o.isSome) s'):
  ay 1#2 A (compareOp .In u 8#9) Q E s:=by
 rcases g with⟨kvs,k,e,ey,l⟩ | ⟨kvs,k,b,e,ey,eb,l⟩
 ·subst ey
  obtain⟨z,hd,vs,zg,dd⟩:=nZ I.hok e;refine wpAny_in_of (rS ry) hd dd.mapOf ?_;rw[<- (zg.val k).isSome_eq,<- l];exact h _ (I.tok _)
 ·subst ey
  cases(show u=Value.ref b from ry);obtain⟨z,hd,xs,zg,dd⟩:=kM I.hok e;refine wpAny_in_heap (om hu) (kS I.hok eb) hd dd ?_;have q:=(zg.val k).isSome_eq;rw[ub]at q;rw[<- q,<- l];exact h _ (I.tok _)
theorem zqE {Q:aa->ai->Prop}(hu:A.units+1 < cLine)(I:z4 X zc σ H s)(g:lR H a y o)(ry:zO y u)(h: ∀s',z4 X zc σ H s'->Q (.bool (!o.isSome)) s'):
  ay 1#2 A (compareOp .NotIn u 8#9) Q E s:=by
 rcases g with⟨kvs,k,e,ey,l⟩ | ⟨kvs,k,b,e,ey,eb,l⟩
 ·subst ey
  obtain⟨z,hd,vs,zg,dd⟩:=nZ I.hok e;refine wpAny_notIn_of (rS ry) hd dd.mapOf ?_;rw[<- (zg.val k).isSome_eq,<- l];exact h _ (I.tok _)
 ·subst ey
  cases(show u=Value.ref b from ry);obtain⟨z,hd,xs,zg,dd⟩:=kM I.hok e;refine wpAny_notIn_heap (om hu) (kS I.hok eb) hd dd ?_;have q:=(zg.val k).isSome_eq;rw[ub]at q;rw[<- q,<- l];exact h _ (I.tok _)
theorem kJ {h':cn}{t':Nat}{ob:HO}(I:z4 X zc σ H s)(mu:k7 (H a))(hs:Heap.SameBut a s.heap h')(he: ∃q,h'.get? a=some q)(new:xZ X.prog X.w (upd H a ob) h' a ob):
  z4 X zc σ (upd H a ob) {s with heap:=h',toks:=t'} :=
 I.write (x:=a) (e:=a) mu 5#9 (λb q hb z=>(hs.2 b hb).trans z) he new
theorem nY {P:ce}{w:ci}{H':Hp}{h':cn}{kvs:List (z8×V)}{vs:List (z8×aa)}(z:kvs.length<=ak)(hd:8#14=false)(zg:KV kvs vs)(dd:h'.DictOf (wD P w) a vs):
  xZ P w H' h' a (.dK kvs):=⟨z,hd,vs,zg,dd⟩
theorem zhT {H':Hp}{Q:Unit->ai->Prop}(hu:A.units+1 < cLine)(I:z4 X zc σ H s)(g:zoV H a y v H')(ry:zO y u)(rv:zO v r)(h: ∀s',z4 X zc σ H' s'->Q () s'):
  ay 1#2 A (setItem 8#9 u r) Q E s:=by
 rcases g with⟨kvs,k,e,ey,l,eH⟩ | ⟨kvs,k,b,e,ey,eb,l,eH⟩
 ·subst ey eH
  obtain⟨z,hd,vs,zg,dd⟩:=kK I.hok e;have hz:vs.length<=ak:=by rw[<- zg.length];exact z
  have hl:(wU kvs k v).length<=ak:=by have:=gZ kvs k v;grobner
  refine wpAny_setItem_pairs (hsz:=hz) (rS ry) dd λh' dd' hs=>h _ ?_;have he: ∃q,h'.get? a=some q:=let⟨q,_,_,hq,_⟩:=dd';⟨q,hq⟩;exact kJ I (by rw[e];exact True.intro) hs he (nY hl hd (zg.put k rv) dd')
 ·subst ey eH
  cases(show u=Value.ref b from ry);obtain⟨z,hd,xs,zg,dd⟩:=zqL I.hok e;have hz:xs.length<=ak:=by rw[<- jh zg];exact z
  have hl:(wU kvs k v).length<=ak:=by have:=gZ kvs k v;grobner
  refine wpAny_setItem_heap (hsz:=hz) (om hu) (kS I.hok eb) dd λh' dd' hs=>h _ ?_;obtain⟨q,es,ep,hq,h2,h3,h4,_,h5⟩:=dd';refine kJ I (by rw[e];exact True.intro) hs ⟨q,hq⟩ ⟨hl,hd,_,(zg.put k eb rv).keeps λc ys ec=> ?_,q,es,ep,hq,h2,h3,h4,h5⟩;rw[yD (mO ec e (λz=>nomatch z))];exact ec
end
section
variable {X:Cx} {zc:List (ac×af)} {σ:St} {H:Hp} {s:ai} {a:ac} {kvs:List (z8×V)} {k:z8} {u:aa} {A:cw} {E:aa->ai->Prop}
theorem zqF {v:V}{more:List aa}{Q:aa->ai->Prop}(I:z4 X zc σ H s)(e:H a=some (.dK kvs))(ry:zO (kV k) u)(l:vF kvs k=some v)(hm:more= []∨∃x,more= [x])
  (h: ∀w' s',z4 X zc σ (upd H a (.dK (m7 kvs k))) s'->zO v w'->Q w' s'):ay 1#2 A (call (.builtin "dict.pop") (.ref a::u::more)) Q E s:=by
 obtain⟨z,hd,vs,zg,dd⟩:=kK I.hok e;obtain⟨w',hw,rw'⟩:=uE.some_of (v:=v) (o:=valueAt vs k) (by rw[<- l];exact zg.val k);have hp:(keyPart u).isSome=true:=by
  cases k with
  | inl i=>obtain⟨t,q⟩:=(show ∃t,u=Value.int i t from ry);subst q;rfl
  | inr x=>obtain⟨t,q⟩:=(show ∃t,u=Value.str x t from ry);subst q;rfl
 have ha:argsOk "dict.pop" ⟨.ref a::u::more,[]⟩:=by
  rcases hm with q | ⟨x,q⟩
  ·subst q;exact PySem.F.args_dict_pop_2 _ _
  ·subst q;exact PySem.F.args_dict_pop_3 _ _ _
 refine call_meetsIn vx dd.typeIs PySem.F.entry_dict_pop ha (meets_dict_pop_there (wD X.prog X.w) a (rS ry) more hm hp)
  ⟨vs,w',dd,by rw[<- zg.length];exact z,hw,λh' dd' hs=>h w' _ ?_ rw'⟩
 have he: ∃q,h'.get? a=some q:=let⟨q,_,_,hq,_⟩:=dd';⟨q,hq⟩;exact kJ I (by rw[e];exact True.intro) hs he (nY (bh (zia kvs k) z) hd (zg.drop k) dd')
theorem zqD {Q:aa->ai->Prop}(I:z4 X zc σ H s)(e:Rd H a (.dK kvs))(h: ∀t s',z4 X zc σ H s'->Q (.int kvs.length t) s'):ay 1#2 A (call (.builtin "len") [.ref a]) Q E s:=by
 obtain⟨z,hd,vs,zg,dd⟩:=nZ I.hok e;refine call_len_dict hd dd (by rw[<- zg.length];rw[di]at z;grobner) ?_;rw[<- zg.length];exact h _ _ (I.tok _)
end
theorem zqI {X:Cx}{zc:List 7#3}{σ:St}{H:Hp}{s:ai}{a:ac}{y:V}{o:Option V}(I:z4 X zc σ H s)(g:lR H a y o):s.TypeIs 8#9 76#1 :=by
 rcases g with⟨kvs,k,e,_,_⟩ | ⟨kvs,k,b,e,_,_,_⟩
 ·obtain⟨_,_,vs,_,dd⟩:=nZ I.hok e
  exact dd.typeIs
 ·obtain⟨_,_,xs,_,dd⟩:=kM I.hok e
  exact dd.typeIs
theorem zhV {P:ce}{w:ci}{H:Hp}(h:cn)(hb:sysModules < h.objs.size):xZ P w H (h.push {cls:= .type 76#1,data:= .dict #[]}) h.objs.size (.dK []):=
 ⟨fv _,beq_eq_false_iff_ne.mpr (fw (bt hb)),[],.nil,ve h⟩
def zgk:TE:=λ_ H Q=> ∀p,H p=none->Q 3#13 (upd H p (.dK []))
section
variable {X:Cx} {pos:fe}
theorem zfq:PE X (.Dict [] [] pos) zgk:=⟨λzc s σ H Q I h=>
 wpAny_Dict_empty ⟨.ref s.heap.objs.size,_,I.laid (a:=s.heap.objs.size) (o:= .dK []) (t':=s.toks) (λ_ _ q=>ap _ q) (ar _) (zhV s.heap I.big),rfl,h _ (I.hok.fresh (ar _))⟩⟩
end
def cA:List (TE×TE)->St->Hp->(List (V×V)->Hp->Prop)->Prop
 | [],_,H,Q=>Q [] H
 | (tk,tv)::r,σ,H,Q=>tk σ H λx H1=>tv σ H1 λy H2=>cA r σ H2 λps H3=>Q ((x,y)::ps) H3
abbrev VV:List (V×V)->List (aa×aa)->Prop:=Paired λp q=>zO p.1 q.1/\zO p.2 q.2
def pI (X:Cx)(pos:fe)(keys:List (Option Expr))(values:List Expr)(trs:List (TE×TE)):Prop:=
 ∀(zc:List 7#3) (s:ai) (σ:St) (H:Hp) (Q:List (V×V)->Hp->Prop),z4 X zc σ H s->cA trs σ H Q->
  ay 1#2 X.A (evalPairs (pairTrees keys values X.env pos)) (λvs s'=> ∃ps H',z4 X zc σ H' s'/\VV ps vs/\Q ps H') X.xe s
theorem zuP {X:Cx}{pos:fe} :pI X pos [] [] []:=λzc s σ H Q I h=>pairTrees_nil_walk ⟨[],H,I,.nil,h⟩
theorem zuO {X:Cx}{pos:fe}{k v:Expr}{ks:List (Option Expr)}{vs:List Expr}{tk tv:TE}{trs:List (TE×TE)}(hk:PE X k tk)(hv:PE X v tv)(hr:pI X pos ks vs trs):
  pI X pos (some k::ks) (v::vs) ((tk,tv)::trs):=λzc s σ H Q I h=>
 pairTrees_cons_walk (zL (hk zc s σ H _ I h) λu s1 ⟨x,H1,I1,rx,q1⟩=>zL (hv zc s1 σ H1 _ I1 q1) λw2 s2 ⟨y,H2,I2,ry,q2⟩=>
  zL (hr zc s2 σ H2 _ I2 q2) λws s3 ⟨ps,H3,I3,zg,q3⟩=>⟨(x,y)::ps,H3,I3,.cons ⟨rx,ry⟩ zg,q3⟩)
def uH (kvs more:List (z8×V)):List (z8×V):=more.foldl (λAc kv=>wU Ac kv.1 kv.2) kvs
theorem KV.merge: ∀{more:List (z8×V)} {rs:List (z8×aa)} {kvs:List (z8×V)} {vs:List (z8×aa)},KV more rs->KV kvs vs->KV (uH kvs more) (merged vs rs):=by
 intro more rs kvs vs r;unfold KV at r
 induction r generalizing kvs vs with
 | nil=>intro q;exact q
 | @cons p q ps qs h t ih=>
  intro r0;have e:KV (wU kvs p.1 p.2) (rz vs q.1 q.2):=by
   have:=r0.put p.1 h.2;rw[<- h.1];exact this
  exact ih e
theorem mJ: ∀(more kvs:List (z8×V)),(uH kvs more).length<=kvs.length+more.length
 | [],kvs=>by show kvs.length<=kvs.length+0;grobner
 | p::r,kvs=>by
  have h1:=mJ r (wU kvs p.1 p.2);have h2:=gZ kvs p.1 p.2;show(uH (wU kvs p.1 p.2) r).length<=_;rw[bv];grobner
theorem zhG {P:ce}{w:ci} : ∀{kvs:List (z8×V)} {ws:List (aa×aa)},VV (kvs.map λkv=>(kV kv.1,kv.2)) ws->∃rs,Carries (wD P w) ws rs/\KV kvs rs
 | [],_,r=>by rw[jf]at r;cases r;exact⟨[],True.intro,.nil⟩
 | p::kvs,_,r=>by
  rw[av]at r;cases r with
  | @cons a b as bs h t=>
   obtain⟨rs,c,q⟩:=zhG (P:=P) (w:=w) t;obtain⟨b1,b2⟩:=b;exact⟨(p.1,b2)::rs,⟨rS h.1,rfl,c⟩,.cons ⟨rfl,h.2⟩ q⟩
def zwW (trs:List (TE×TE)):TE:=λσ H Q=> ∀p,H p=none->cA trs σ (upd H p (.dK [])) λps H2=>H2 p=some (.dK [])/\∃kvs:List (z8×V),ps=kvs.map (λkv=>(kV kv.1,kv.2))/\kvs.length<=15/\Q 3#13 (upd H2 p (.dK (uH [] kvs)))
theorem zur {X:Cx}{pos:fe}{keys:List (Option Expr)}{values:List Expr}{trs:List (TE×TE)}(h:pI X pos keys values trs)(Ar:keys.all (·.isSome)=true)(hl:keys.length=values.length)(h0:keys≠ [])
  (h15:keys.length<=15):PE X (.Dict keys values pos) (zwW trs):=by
 constructor;intro zc s σ H Q I q;have hn:=I.hok.fresh (ar s.heap.objs.size);have I1:=I.laid (a:=s.heap.objs.size) (o:= .dK []) (h':=s.heap.push {cls:= .type 76#1,data:= .dict #[]}) (t':=s.toks) (λ_ _ q=>ap _ q) (ar _) (zhV s.heap I.big);refine wpAny_Dict_walk (knd:=wD X.prog X.w) Ar hl h0 h15 (zL (h zc _ σ _ _ I1 (q _ hn)) λws s2 ⟨ps,H2,I2,zg,e,kvs,ep,lk,q2⟩=> ?_);subst ep;obtain⟨rs,c,rk⟩:=zhG (P:=X.prog) (w:=X.w) zg;obtain⟨z,hd,vs0,r0,dd⟩:=kK I2.hok e;cases r0;refine⟨rs,c,dd,λh' dd' hs=>⟨.ref s.heap.objs.size,_,?_,rfl,q2⟩⟩;have hz:(uH [] kvs).length<=ak:=by
  have h1:=mJ kvs [];rw[jm]at h1;rw[di];grobner
 have he: ∃q,h'.get? s.heap.objs.size=some q:=let⟨q,_,_,hq,_⟩:=dd';⟨q,hq⟩;exact kJ I2 (by rw[e];exact True.intro) hs he (nY hz hd (rk.merge .nil) dd')
structure M2 (X:Cx)(o:Expr)(m:Str)(Af:fe)(e f:Expr)(zv:fe):Prop where
 base:attributeBase o m X.env (eval o X.env)=eval o X.env
 few:((backTo zv (starEach [e,f] X.env)).all (λx=> !x.1)&&(backToKw zv (keywordEach [] X.env)).all (λx=>x.1.isSome)
  &&decide (([e,f]:List Expr).length+([]:List Keyword).length+4#17 < 30))=true
 line:(Af.endLine==zv.line)=true
 trees:backTo zv (starEach [e,f] X.env)= [5#3,(false,eval f X.env)]
section
variable {X:Cx}
theorem zqu:wA X (.builtin "len") (λxs H Q=> ∃a kvs,xs= [V.ref a]/\H a=some (.dK kvs)/\Q (.int kvs.length) H):=by
 intro zc s σ H xs us Q I r h;obtain⟨a,kvs,rfl,ha,q⟩:=h;obtain⟨u,rfl,ru⟩:=o7 r;cases ru;exact zqD I (.inl ha) λt s' I'=>⟨.int kvs.length,H,I',⟨t,rfl⟩,q⟩
end
set_option maxHeartbeats 4000000
theorem zlG {X:Cx}{zc:List 7#3}{σ:St}{H:Hp}{s:ai}{D:ac}{o:HO}(I:z4 X zc σ H s)(hn:H D=none)(hs:X.s₀.heap.objs.size<=D)(hL:D≠X.env.locals)
  (hc: ∀x c,X.env.cells.lookup x=some c->c≠D) (hp: ∀p∈X.pn++zc,p.1≠D) (new:xZ X.prog X.w (upd H D o) s.heap D o):z4 X zc σ (upd H D o) s:=by
 have low: ∀{b:ac} {u:af},X.s₀.heap.get? b=some u->b≠D:=λe=>bt (bp (be e) hs);refine⟨I.ok,I.os,I.bare,⟨I.base.keep,I.base.slot,λb u e n hx=> ?_,I.base.there,λb xs e=> ?_,λb u v e=> ?_,λb ps e=> ?_⟩,I.loc,I.cell,?_,λx c e=> ?_,λp hm=> ?_,λb u e=> ?_,I.len⟩
 ·rw[yD (low e)];exact I.base.free b u e n hx
 ·have q:=I.base.tups b xs e
  rw[yD (u9 q hn)];exact q
 ·have q:=I.base.frzs b u v e
  rw[yD (u9 q hn)];exact q
 ·obtain⟨more,q⟩:=I.base.tbls b ps e
  exact⟨more,by rw[yD (u9 q hn)];exact q⟩
 ·rw[yD (fw hL)];exact I.free
 ·rw[yD (hc x c e)];exact I.freeC x c e
 ·obtain⟨e,n,r⟩:=I.pin p hm
  exact⟨e,by rw[yD (hp p hm)];exact n,r⟩
 ·by_cases hb:b=D
  ·subst hb;rw[yM]at e;cases e;exact new
  ·rw[yD hb]at e
   exact(I.hok b u e).stay (λc v _ q=>q) (λc q=>by rw[yD (u9 q hn)];exact q) λc xs q=>by rw[yD (u9 q hn)];exact q
theorem zrt {α β:Type}{l:List α}{f:α->β->Sem (ForInStep β)}{g:α->β->β}(h: ∀x∈l,∀b,f x b=pure (.yield (g x b)))(b:β):forIn l b f=pure (l.foldl (λb x=>g x b) b):=by
 induction l generalizing b with
 | nil=>rfl
 | cons x l ih=>
  rw[List.forIn_cons,h x aw,pure_bind];exact ih (λy hy=>h y (bf _ hy)) _
def oH (cells:List (Str×ac))(p:Str×NameKind)(cs:List (Str×ac)):List (Str×ac):=if p.2== .free then(p.1,(cells.lookup p.1).getD 0)::cs else cs
def uX (names:List (Str×NameKind))(cells:List (Str×ac)):List (Str×ac):=names.foldl (λcs p=>oH cells p cs) []
theorem zhO {scope:ll}{env:ly}(h: ∀p∈scope.names,p.2= .free->∃c,env.cells.lookup p.1=some c):closureFor scope env=pure (uX scope.names env.cells):=by
 unfold closureFor;dsimp only;rw[zrt (g:=λp cs=>oH env.cells p cs) (λp hp cs=> ?_)]
 ·rfl
 ·obtain⟨n,k⟩:=p
  unfold oH;by_cases hk:k= .free
  ·obtain⟨c,e⟩:=h _ hp hk
   subst hk;simp only[cellOf,e,beq_self_eq_true,if_true,Option.getD_some]
   rfl
  ·have:(k==NameKind.free)=false:=by simpa using hk
   simp only[this,mw,if_false]
theorem zmn {cells:List (Str×ac)} : ∀(names:List (Str×NameKind)) (Ac:List (Str×ac)) (p:Str×ac),p∈names.foldl (λcs q=>oH cells q cs) Ac->p∈Ac∨((p.1,NameKind.free)∈names/\p.2=(cells.lookup p.1).getD 0)
 | [],Ac,p,h=> .inl h
 | q::r,Ac,p,h=>by
  rw[gj]at h;rcases zmn r _ p h with h | ⟨h1,h2⟩
  ·unfold oH at h
   obtain⟨n,k⟩:=q
   split at h
   ·rename_i hk
    rcases bo.mp h with e | h
    ·refine .inr ⟨?_,by rw[e]⟩
     have hk':k= .free:=by simpa using hk
     rw[e,hk'];exact aw
    ·exact .inl h
   ·exact .inl h
  ·exact .inr ⟨bf _ h1,h2⟩
theorem zhK {cells:List (Str×ac)}{x:Str} : ∀(names:List (Str×NameKind)) (Ac:List (Str×ac)),((x,NameKind.free)∈names∨∃c,(x,c)∈Ac)->∃c,(x,c)∈names.foldl (λcs q=>oH cells q cs) Ac
 | [],Ac,h=>by
  rcases h with h | h
  ·cases h
  ·exact h
 | q::r,Ac,h=>by
  rw[gj];refine zhK r _ ?_;rcases h with h | ⟨c,h⟩
  ·rcases bo.mp h with e | h
   ·refine .inr ⟨(cells.lookup x).getD 0,?_⟩
    rw[<- e];show _∈(if(NameKind.free==NameKind.free)=true then _ else _);rw[if_pos 4#0];exact aw
   ·exact .inl h
  ·refine .inr ⟨c,?_⟩
   unfold oH
   split
   ·exact bf _ h
   ·exact h
theorem zmc {β:Type}{x:Str} : ∀{l:List (Str×β)} {c:β},(x,c)∈l->∃d,l.lookup x=some d
 | [],_,h=>nomatch h
 | (y,d)::r,c,h=>by
  rw[md];by_cases e:x=y
  ·subst e;exact⟨d,3#0⟩
  ·rcases bo.mp h with q | q
   ·cases q;exact absurd rfl e
   ·obtain⟨d',q'⟩:=zmc q
    have:(x==y)=false:=by simpa using e
    rw[this];exact⟨d',q'⟩
theorem zhL {names:List (Str×NameKind)}{cells:List (Str×ac)}{x:Str}{c:ac}(h:(uX names cells).lookup x=some c):(x,NameKind.free)∈names/\c=(cells.lookup x).getD 0:=by
 rcases zmn names [] (x,c) (ix h)with h | h
 ·cases h
 ·exact h
theorem zhM {names:List (Str×NameKind)}{cells:List (Str×ac)}{x:Str}(h:(x,NameKind.free)∈names):(uX names cells).lookup x=some ((cells.lookup x).getD 0):=by
 obtain⟨c,hc⟩:=zhK (cells:=cells) names [] (.inl h);obtain⟨d,hd⟩:=zmc hc;rw[show(uX names cells).lookup x=some d from hd,(zhL hd).2]
abbrev xL (X:Cx)(scope:ll)(Nc:List Str)(C:ac)(s:ai)(H:Hp)(fp:List ac)(zc:List 7#3):Cx:=
 {X with N:=Nc,s₀:=s,H₀:=H,env:=compEnvC scope 6#6 C X.env,outer:=X.stack,stack:=X.stack,ex:=fp,fn:=λ_=>false,pn:=X.pn++zc,xe:=λ_ _=>False}
structure rH (X:Cx)(scope:ll)(N' own:List Str):Prop where
 kind:scope.kind= .function
 nocell: ∀y∈scope.names,y.2≠ .cell
 names: ∀y∈scope.names,y.2= .local->scope.names.lookup y.1=some .local
 frees: ∀y∈scope.names,y.2= .free->X.env.scope.names.lookup y.1=some .cell∨X.env.scope.names.lookup y.1=some .free
 len:N'.length=X.N.length
 pre: ∀(i:Nat) (y:Str),N'[i]?=some y->X.N[i]?=some y∨(y,NameKind.free)∉scope.names
 nol: ∀y∈N',scope.names.lookup y≠some .local
theorem eK {env:ly}{x:Str} : ∀{names:List (Str×NameKind)} {k:NameKind},
  (names.map λ(n,k)=>if(k==NameKind.free&&env.scope.kind== .function&&env.kindOf n==some .cell)then(n,NameKind.cell)else(n,k)).lookup x=some k->
  names.lookup x=some k∨(k= .cell/\names.lookup x=some .free)
 | [],k,h=>by simp at h
 | (n,j)::r,k,h=>by
  have h':List.lookup x ((if 8#8=true then(n,NameKind.cell)else(n,j))::
   r.map λ(n,k)=>if(k==NameKind.free&&env.scope.kind== .function&&env.kindOf n==some .cell)then(n,NameKind.cell)else(n,k))=some k:=h
  cases hx:x==n with
  | true=>
   by_cases hc:8#8=true
   ·rw[if_pos hc]at h'
    simp only[md,hx]at h'⊢
    simp only[im,beq_iff_eq]at hc;cases h';exact .inr ⟨rfl,by rw[hc.1.1]⟩
   ·rw[if_neg hc]at h'
    simp only[md,hx]at h'⊢
    exact .inl h'
  | false=>
   have q:(r.map λ(n,k)=>if(k==NameKind.free&&env.scope.kind== .function&&env.kindOf n==some .cell)then(n,NameKind.cell)else(n,k)).lookup x=some k:=by
    by_cases hc:8#8=true
    ·rw[if_pos hc]at h';simpa only[md,hx]using h'
    ·rw[if_neg hc]at h';simpa only[md,hx]using h'
   simp only[md,hx];exact eK q
section
variable {X:Cx} {zc:List (ac×af)} {σ:St} {H:Hp} {s:ai} {scope:ll} {N' own:List Str}
theorem rH.cells (S:rH X scope N' own)(I:z4 X zc σ H s): ∀p∈scope.names,p.2= .free->∃c,X.env.cells.lookup p.1=some c:=λp hp hk=>I.ok.has p.1 (S.frees p hp hk)
theorem qN (S:rH X scope N' own)(I:z4 X zc σ H s){x:Str}{c:ac}(h:(uX scope.names X.env.cells).lookup x=some c):X.env.cells.lookup x=some c:=by
 obtain⟨hm,e⟩:=zhL h;obtain⟨d,hd⟩:=S.cells I _ hm rfl;rw[hd]at e;rw[hd,e]
 rfl
theorem zlE (S:rH X scope N' own)(I:z4 X zc σ H s){C D:ac}{oD:af}{fp:List ac}{h4:cn}{tk:Nat}{m:Str->Option aa}(k: ∀b u,s.heap.get? b=some u->h4.get? b=some u)(hC:s.heap.objs.size<=C)(hD:s.heap.objs.size<=D)(hDC:D≠C)(eD:h4.get? D=some oD)(cD: ∀v,oD.data≠ .cell v)
  (ns:h4.Ns C m) (ff: ∀b∈fp,qG X zc H b) (fl: ∀b∈fp,b < s.heap.objs.size):
  z4 7#2 [(D,oD)] (σ++List.replicate own.length none) H {s with heap:=h4,toks:=tk} :=by
 have nostk: ∀{b:ac},s.heap.objs.size<=b->b∉w5 X.stack:=λ{b} hb hm=>by
  rcases bo.mp (I.stkSub b hm)with e | hm
  ·rw[e]at hb;exact absurd (bp I.lt hb) (gz _)
  ·exact I.nofs hb hm
 have lk: ∀x,((compEnvC scope 6#6 C X.env).kindOf x=some .cell∨(compEnvC scope 6#6 C X.env).kindOf x=some .free)->(x,NameKind.free)∈scope.names:=λx hx=>by
  have q:scope.names.lookup x=some .cell∨scope.names.lookup x=some .free:=by
   rcases hx with hx | hx
   ·rcases eK (env:=X.env) (names:=scope.names) hx with q | ⟨_,q⟩
    ·exact .inl q
    ·exact .inr q
   ·rcases eK (env:=X.env) (names:=scope.names) hx with q | ⟨z,_⟩
    ·exact .inr q
    ·cases z
  rcases q with q | q
  ·exact absurd rfl (S.nocell _ (ix q))
  ·exact ix q
 refine⟨⟨I.ok.mod,S.kind,I.ok.glob,I.ok.blt,hC,λx y c h1 h2=> ?_,λx hx=> ?_,λx c h=> ?_,I.ok.hd,I.ok.frames,.inl rfl,λb hb=>⟨?_,λx c h=> ?_⟩,I.bs,bh I.ok.bsz I.sz,λb o e hb=> ?_,λb hb hm=> ?_,I.stack,I.stkFree⟩,
  rfl,I.bare,Un.kept k,⟨m,ns,λi x v e1 e2 e3=> ?_⟩,λx c h=> ?_,I.hok.fresh hC,λx c h=> ?_,λp hp=> ?_,I.hok.kept k,?_⟩
 ·exact I.ok.inj x y c (qN S I h1) (qN S I h2)
 ·exact⟨_,zhM (lk x hx)⟩
 ·cases h
 ·have:=fl b hb;intro e;rw[e]at this;exact absurd (bp this hC) (gz _)
 ·exact(ff b hb).2.2.2.2.1 x c (qN S I h)
 ·rcases(ff b hb).2.2.2.1 with z | z
  ·exact I.ok.noex b o e z
  ·exact absurd (bp (be e) (bh I.ok.bsz z)) (gz _)
 ·rcases bo.mp (I.stkSub b hm)with e | hm
  ·exact(ff b hb).2.1 e
  ·exact(ff b hb).2.2.1 hm
 ·-- names
  have hi:i < σ.length:=by
   by_cases hi:i < σ.length
   ·exact hi
   ·rw[ba 0#0,kj]at e2
    split at e2 <;> cases e2
  rw[bw hi]at e2;have hN:N'[i]?=some x:=by
   have e1':(N'++own)[i]?=some x:=e1;rw[bw (by rw[S.len,<- I.len];exact hi)]at e1';exact e1'
  have e3':((compEnvC scope 6#6 C X.env).kindOf x=some .cell∨(compEnvC scope 6#6 C X.env).kindOf x=some .free)∨(compEnvC scope 6#6 C X.env).kindOf x=some .local:=by
   rcases e3 with z | z | z
   ·exact .inr z
   ·exact .inl (.inl z)
   ·exact .inl (.inr z)
  rcases e3' with e3' | e3'
  ·have hm:=lk x e3'
   rcases S.pre i x hN with hX | hX
   ·have fr:=S.frees _ hm rfl
    obtain⟨m0,hn0,hl0⟩:=I.loc;obtain⟨u,r,l⟩:=hl0 i x v hX e2 (by rcases fr with z | z;exact .inr (.inl z);exact .inr (.inr z));refine⟨u,r,.inr ⟨e3',?_⟩⟩;rcases l with⟨z,_⟩ | ⟨_,c,ec,⟨o,ho,hd⟩⟩
    ·rcases fr with f | f <;> (have z':X.env.scope.names.lookup x=some .local:=z;rw[f]at z';cases z')
    ·refine⟨c,?_,⟨o,k _ _ ho,hd⟩⟩
     show(uX scope.names X.env.cells).lookup x=some c;rw[zhM hm,ec]
     rfl
   ·exact absurd hm hX
  ·-- a local of the block among the outer names:hidden
   rcases eK (env:=X.env) (names:=scope.names) e3' with q | ⟨z,_⟩
   ·exact absurd q (S.nol x (dh hN))
   ·cases z
 ·obtain⟨v,o,ho,hd⟩:=I.cell x c (qN S I h)
  exact⟨v,o,k _ _ ho,hd⟩
 ·exact I.freeC x c (qN S I h)
 ·have hp':p∈(X.pn++zc)++ [(D,oD)]:=hp
  rcases aq.mp hp' with hp' | hp'
  ·obtain⟨e,n,ne,nf,d⟩:=I.pin p hp'
   refine⟨k _ _ e,n,bt (bp (be e) hC),λhm=> ?_,d⟩;rcases bo.mp (I.stkSub p.1 hm)with z | z
   ·exact ne z
   ·exact nf z
  ·have e:p=(D,oD):=by simpa using hp'
   subst e;exact⟨eD,I.hok.fresh hD,hDC,nostk hD,cD⟩
 ·show(σ++List.replicate own.length none).length=(N'++own).length
  rw[am,am,jv,S.len,I.len]
abbrev aC (Ak:List Expr)(env:ly):Sem Bool:=forIn Ak true λc r=>if r=true then do let ok <- isTrue c env (eval c env);pure (ForInStep.yield ok)else pure (ForInStep.yield r)
theorem zhP {prog:ce}{w:ci}{A:cw}{R:Result->ai->Prop}{s:ai}{Aw zh zo:Expr}{Ak:List Expr}{scope:ll}{pos:fe}{it Ac:aa}{env:ly}(I:Nat->ai->Prop)
  (turn: ∀n s,I n s->ay 9#2 A (pyNext it) (λr s₁=>match r with
   | none=>R (.ok .next) s₁
   | some v=>ay 9#2 A (letOwnedTupleGo zh it v) (λ_ s₁'=>ay 9#2 A (assign zh env v) (λ_ s₂=>
     ay 9#2 A (aC Ak env) (λok s₃=>
      if ok=true then ay 9#2 A (eval Aw env) (λx s₄=>
       ay 9#2 A (call (.builtin "list.append") [Ac,x]) (λ_ s₅=> ∃m,m < n/\I m s₅) 0#5 s₄) 0#5 s₃
      else ∃m,m < n/\I m s₃) 0#5 s₂) 0#5 s₁') 0#5 s₁) 0#5 s)
  (n:Nat) (h:I n s):
  kf 9#2 A (.compLoop 8#2 0 it Ac env) R s:=by
 refine codeAny_loop rfl I (λn s hI=> ?_) n h;show ay _ A ((compTurn 8#2 0 it Ac env).onRaise (λx=>do noteFrame x env;theTreesLotGoes x)) _ _ s;refine wpAny_noted ?_;rw[compTurn_list];refine ad (ia (ad (jy (turn n s hI) (λr s₁ h₁=> ?_) λ_ _ h'=>h')));cases r with
 | none=>exact az h₁
 | some v=>
  refine ad (jy h₁ (λ_ s₁' h₁'=> ?_) λ_ _ h'=>h');refine ad (jy h₁' (λ_ s₂ h₂=>ad (jy h₂ (λok s₃ h₃=> ?_) λ_ _ h'=>h')) λ_ _ h'=>h');cases ok with
  | false=>exact az ⟨rfl,h₃⟩
  | true=>
   exact ad (ad (jy h₃ (λx s₄ h₄=>ad (jy h₄ (λ_ s₅ h₅=>az (az ⟨rfl,h₅⟩)) λ_ _ h'=>h')) λ_ _ h'=>h'))
structure PF (X:Cx)(Ak:List Expr)(t:TT):Prop where
 run:
  ∀(zc:List 7#3) (s:ai) (σ:St) (H:Hp) (Q:Bool->Hp->Prop),z4 X zc σ H s->t σ H Q->ay 1#2 X.A (aC Ak X.env) (TP X zc σ Q) X.xe s
instance {X:Cx} {Ak:List Expr} {t:TT} :CoeFun (PF X Ak t) λ_=>
 ∀(zc:List 7#3) (s:ai) (σ:St) (H:Hp) (Q:Bool->Hp->Prop),z4 X zc σ H s->t σ H Q->ay 1#2 X.A (aC Ak X.env) (TP X zc σ Q) X.xe s
  :=⟨PF.run⟩
def zxq:TT:=λ_ H Q=>Q true H
theorem zu5 {X:Cx} :PF X [] zxq:=⟨λ_ _ _ H _ I h=>wpAny_tests_nil ⟨H,I,h⟩⟩
theorem zu6 {X:Cx}{c:Expr}{t:TT}(h:PT X c t):PF X [c] t:=⟨λzc s σ H Q I q=>wpAny_tests_one (h zc s σ H Q I q)⟩
theorem mP {α:Type}{M:Model}{A:cw}{E:aa->ai->Prop}{s:ai}{t:Sem α}{Q Q':α->ai->Prop}(h:ay M A t Q 6#7 s)(k: ∀a s,Q a s->Q' a s):ay M A t Q' E s:=jy h k λ_ _ z=>z.elim
def zgB (own:Nat)(J:It)(g:TG)(tt:TT)(te:TE)(Q:VK)(σ:St)(H1:Hp):Prop:= ∃W:Nat->Nat->List V->St->Hp->Prop,(∃m,W 0 m [] (σ++List.replicate own none) H1)/\∀i m ys σ' H',W i m ys σ' H'->
 (J.stop i H'/\ys.length<=ak/\∀D,H' D=none->Q 7#15 (upd H' D 0#17))∨
 (J.go i H'/\ys.length < ak/\∃N:List V->St->Hp->Prop,(∀ys σ3 H3,N ys σ3 H3->∃m',m' < m/\W (i+1) m' ys σ3 H3)/\
  ∀x H2,J.yld i H' x H2->g x σ' H2 λσ3 H3=>tt σ3 H3 λb H4=>if b=true then te σ3 H4 λy H5=>N (ys++ [y]) σ3 H5 else N ys σ3 H4)
def c8 (own:Nat)(wi:TI)(g:TG)(tt:TT)(te:TE):TE:=λσ H Q=>wi σ H λJ H1=>zgB own J g tt te Q σ H1
theorem zuq {Aw zh zo:Expr}{Ak:List Expr}{pos:fe}{wi:TI}{g:TG}{tt:TT}{te:TE}(S:rH X scope N' own)(hc:X.calm=true)(hi:PI X zh zo wi)
  (hg: ∀C s H fp zc,PG 7#2 zh g) (ht: ∀C s H fp zc,PF 7#2 Ak tt) (he: ∀C s H fp zc,PE 7#2 Aw te)
  (hs: ∀x,foldedSetIterable zo X.env x=pure x:=by intro _;rfl):
  PE X 8#2 (c8 own.length wi g tt te):=by
 constructor;intro zc s σ H Q I h;rw[eval_ListComp];refine ut (use:=none) rfl hs (zhO (S.cells I)) S.kind S.names ?_;refine zL (hi zc s σ H _ I h) λv s1 h1=>zL h1 λitv s2 h2=> ?_;obtain⟨it,fp,tn,J,H2,e,I2,T,zi,f2,W,⟨m0,w0⟩,turn⟩:=h2;subst e;have fl: ∀b∈fp,b < s2.heap.objs.size:=λb hb=>by obtain⟨o,e,_⟩:=T.obj _ _ zi b hb;exact be e
 refine gw (wp S.nocell (by intro y hy;simp at hy) (λh4 ns4 sb4=> ?_) S.kind);dsimp only at ns4 sb4⊢
 generalize hH3:s2.heap.push {cls:= .type 14#1,dict:=none,data:= .seq ([]:List aa).toArray} =h3 at ns4 sb4⊢
 have hC:h3.objs.size=s2.heap.objs.size+1:=by rw[<- hH3,kz]
 have hDC:s2.heap.objs.size≠h3.objs.size:=by rw[hC];exact bt (pq _)
 have hCle:s2.heap.objs.size<=h3.objs.size:=by rw[hC];exact iu _
 have eD3:h3.get? s2.heap.objs.size=some {cls:= .type 14#1,data:= .seq ([]:List aa).toArray} :=hH3▸cm _ rfl;have k4: ∀b u,s2.heap.get? b=some u->h4.get? b=some u:=λb u e=>
  (sb4.2 b (bt (bp (be e) hCle))).trans (ap _ (hH3▸ap _ e))
 have eD4:h4.get? s2.heap.objs.size=some {cls:= .type 14#1,data:= .seq ([]:List aa).toArray} :=(sb4.2 _ hDC).trans (ap _ eD3);generalize hDd:s2.heap.objs.size=D at *;generalize hCd:h3.objs.size=C at *;have I4:=zlE S I2 (C:=C) (D:=D) (fp:=fp) (h4:=h4) (tk:=s2.toks+([]:List (Str×aa)).length) k4 (by rw[hDd];exact hCle) (by rw[hDd];exact ar _) hDC eD4 (by intro v z;cases z) ns4 f2 (by rw[hDd];exact fl);have lowC: ∀(b:ac) (u:af),s2.heap.get? b=some u->b≠C:=λb u e=>bt (bp (be e) (by rw[hDd];exact hCle));have nofp: ∀b∈fp,b∉w5 X.stack:=λb hb hm=>by
  rcases bo.mp (I2.stkSub b hm)with z | z
  ·exact(f2 b hb).2.1 z
  ·exact(f2 b hb).2.2.1 z
 have fpD: ∀b∈fp,b≠D:=λb hb=>bt (fl b hb);have As: ∀{H':Hp} {o:af},2#12->∀b∈fp,qG 1#3 [(D,o)] H' b:=λ{H' o} hn b hb=>
  ⟨hn b hb,bt (bp (fl b hb) hCle),nofp b hb,.inl hb,λx c e=>(f2 b hb).2.2.2.2.1 x c (qN S I2 e),λp hp=>by
   have hp':p∈(X.pn++zc)++ [(D,o)]:=hp;rcases aq.mp hp' with z | z
   ·exact(f2 b hb).2.2.2.2.2 p z
   ·have e:p=(D,o):=by simpa using z
    rw[e];exact fw (fpD b hb)⟩
 have loop: ∀s3:ai,z4 1#3 [(D,{cls:= .type 14#1,data:= .seq ([]:List aa).toArray})] (σ++List.replicate own.length none) H2 s3->tn 0 s3.heap->
   kf 1#2 X.A (.compLoop 8#2 0 9#12 7#15 (compEnvC scope 6#6 C X.env))
    (compPost 1#2 X.A X.xe none 7#4 7#15 C) s3:=by
  intro s3 I3 Ab;refine zhP (λn s'=> ∃(i:Nat) (ys:List V) (σ':St) (H':Hp) (Aa:List aa) (cnt:Nat),z4 1#3 [(D,{cls:= .type 14#1,data:= .seq Aa.toArray cnt})] σ' H' s'/\
   tn i s'.heap/\2#12/\zJ ys Aa/\W i n ys σ' H') ?_ m0 ⟨0,[],_,H2,[],0,I3,Ab,λb hb=>(f2 b hb).1,.nil,w0⟩
  rintro n s3 ⟨i,ys,σ3,H3,Aa,cnt,I3,Ab,fr3,rv,w3⟩;rcases turn i n ys σ3 H3 w3 with⟨stop,hz,q⟩ | ⟨go,hz,N,hN,step⟩
  ·refine zL (T.done 1#3 rfl rfl rfl hc i _ s3 σ3 H3 _ I3 (As fr3) Ab stop) λr s4 ⟨hr,I4⟩=> ?_
   subst hr;obtain⟨m,ns,_⟩:=id I4.loc;refine⟨m,ns,λh' sb=> ?_⟩;have u4:Un (w5 X.stack) fp H2 H3 s2.heap s4.heap:=I4.base;have nC:H3 C=none:=I4.free;have keepC: ∀(b:ac) (u:af),b≠C->s4.heap.get? b=some u->h'.get? b=some u:=λb u hb e=>(sb.2 b hb).trans e;have u':Un (w5 X.stack) fp H2 H3 s2.heap h':=
    ⟨λb o e n hb hx=>keepC b o (lowC b o e) (u4.keep b o e n hb hx),λb o e n hb hx=>let⟨sl,q⟩:=u4.slot b o e n hb hx;⟨sl,keepC _ _ (lowC b o e) q⟩,u4.free,λb o e hx=>let⟨o',q⟩:=u4.there b o e hx;⟨o',keepC _ _ (lowC b o e) q⟩,u4.tups,u4.frzs,u4.tbls⟩
   have hok':xG X.prog X.w H3 h':=λb u e=>(I4.hok b u e).stay (λc v hc' q=>keepC c v (by
    rintro rfl;rcases hc' with z | z
    ·rw[<- z,nC]at e;cases e
    ·rw[nC]at z;cases z) q) (λ_ q=>q) λ_ _ q=>q
   have I5:z4 X zc σ H3 {s4 with heap:=h'} :=I2.call' (ch:=fp) (s':= {s4 with heap:=h'}) I4.os u' hok' I4.bare λb hb=>⟨(f2 b hb).2.2.2.1,(f2 b hb).2.1,(f2 b hb).2.2.2.2.1,(f2 b hb).2.2.2.2.2⟩;obtain⟨eD,nD,_⟩:=I4.pin (D,_) (aj _ aw);refine⟨.ref D,upd H3 D 0#17,zlG I5 nD (by rw[<- hDd];exact I2.sz) ?_ ?_ ?_ ⟨hz,Aa,cnt,rv,keepC D _ hDC eD⟩,rfl,q D nD⟩
   ·have:=I2.lt;rw[hDd]at this;exact gk this
   ·intro x c e z
    obtain⟨v,o,ho,_⟩:=I2.cell x c e;have:=be ho;rw[hDd,z]at this;exact gz _ this
   ·intro p hp z
    have:=be (I2.pin p hp).1;rw[hDd,z]at this;exact gz _ this
  ·refine zL (T.item 1#3 rfl rfl rfl hc i _ s3 σ3 H3 _ I3 (As fr3) Ab go) λr s4 ⟨u,hr,h4⟩=> ?_
   subst hr;refine zL h4 λ_ s5 ⟨x,H5,I5,r5,y5,st5,fr5⟩=> ?_;have I5':=I5.pinned (As fr5) (T.obj _ _ st5);have keepT: ∀{σ7:St} {H7:Hp} {s7:ai} {pl:List 7#3},z4 1#3 (pl++qA fp s5.heap) σ7 H7 s7->tn (i+1) s7.heap/\∀b∈fp,H7 b=none:=λ{σ7 H7 s7 pl} I7=>
    ⟨T.keep _ _ _ st5 λb hb o e=>(I7.pin (b,o) 4#13).1,λb hb=>by
     obtain⟨o,e,d⟩:=T.obj _ _ st5 b hb;exact(I7.pin (b,o) 4#13).2.1⟩
   refine mP (hg C s2 H2 fp zc _ s5 σ3 H5 x u _ I5' r5 (step x H5 y5)) λ_ s6 ⟨σ6,H6,I6,q6⟩=> ?_;refine mP (ht C s2 H2 fp zc _ s6 σ6 H6 _ I6 q6) λb s7 ⟨H7,I7,q7⟩=> ?_;cases b with
   | false=>
    obtain⟨m',hm,w7⟩:=hN _ _ _ q7;obtain⟨t7,fr7⟩:=keepT I7;exact⟨m',hm,i+1,ys,σ6,H7,Aa,cnt,I7.unpinned,t7,fr7,rv,w7⟩
   | true=>
    refine mP (he C s2 H2 fp zc _ s7 σ6 H7 _ I7 q7) λy s8 ⟨yv,H8,I8,r8,q8⟩=> ?_;obtain⟨m',hm,w8⟩:=hN _ _ _ q8;obtain⟨eD,nD,neD,nfD,cD⟩:=I8.pin (D,_) (aj _ (ax _ aw));have hvl:=rv.length;refine nu rp ⟨_,eD,rfl⟩ qu (qj _ _) (ua D Aa.toArray cnt y (by rw[bq];grobner)) ⟨eD,?_⟩;have I8':z4 1#3 (qA fp s5.heap) σ6 H8 s8:=I8.pins_of λp hp=>I8.pin p (aj _ (aj _ hp));have hno: ∀p∈(X.pn++zc)++qA fp s5.heap,p.1≠D:=λp hp=>by
     rcases aq.mp hp with z | z
     ·intro q
      have:=be (I2.pin p z).1;rw[hDd,q]at this;exact gz _ this
     ·exact fpD _ (zfj z).1
    have I9:=I8'.turned (t':=s8.toks) (it:=D) (h':=s8.heap.update D (Obj.mapSeq λx=>x.push y)) (λb o hb e=>(cj s8.heap _ (fw hb)).trans e) nD neD (.inr (by show s2.heap.objs.size<=D;rw[hDd];exact ar _))
     (λx c e z=>by
      obtain⟨v,o,ho,_⟩:=I2.cell x c (qN S I2 e);have:=be ho;rw[hDd,z]at this;exact gz _ this) hno
    obtain⟨t9,fr9⟩:=keepT (pl:= []) I9;have qD: ∃n',(s8.heap.update D (Obj.mapSeq λx=>x.push y)).get? D=some {cls:= .type 14#1,data:= .seq (Aa++ [y]).toArray n'} :=by
     have q:=uq (l:=D) (items:=Aa.toArray) (n:=cnt) (h:=s8.heap) eD λx=>x.push y;have e:Aa.toArray.push y=(Aa++ [y]).toArray:=3#0
     rw[<- e];exact⟨_,q⟩
    obtain⟨n',qD⟩:=qD;refine⟨m',hm,i+1,ys++ [yv],σ6,H8,Aa++ [y],n',I9.pins_of λp hp=> ?_,t9,fr9,rv.append (.cons r8 .nil),w8⟩;have e:=ao.mp hp;rw[e];exact⟨qD,nD,neD,nfD,by intro v z;cases z⟩
 have t4:tn 0 h4:=T.keep _ _ _ zi λb _ o e=>k4 b o e;exact vm (loop _ I4 t4) (T.self _ 0 _ _ _ t4 (loop _ I4 t4))
end
set_option maxHeartbeats 4000000
def iQ (x:Str):It:=⟨λi _=>i < x.cps.size,λi H v H'=>H'=H/\∃c,x.cps[i]?=some c/\v= .str ⟨#[c]⟩,λi _=>i=x.cps.size⟩
theorem zov {P:ce}{w:ci}{K:Frag}{tg:Expr}{n:String}(it:ac)(x:Str)(t:nv)(hn: ["enumerate","zip","dict_itemiterator","dict_reverseitemiterator","odict_iterator","itertools.zip_longest","itertools.pairwise"].contains n=false)
  (W: ∀A:cw,A.handled=none->Walks P w A it [it] [it] x.cps.size (SignAt x) (λi h=>h.IsStrIter it n x t i))
  (hself: ∀(A:cw) (i:Nat) (s:ai) (Q:aa->ai->Prop) (E:aa->ai->Prop),s.heap.IsStrIter it n x t i->Q 9#12 s->ay (bc P w) A (pyIter 9#12) Q E s):
  nQ P w K tg (iQ x) [it] it (λi h=>h.IsStrIter it n x t i) where
 mem:=3#0
 obj:=λi h st b hb=>by
  have e:b=it:=by simpa using hb
  subst e;obtain⟨o,e,c,d⟩:=st;exact⟨o,e,λv z=>by rw[d]at z;cases z⟩
 keep:=λi h h' st k=>by
  obtain⟨o,e,r⟩:=st;exact⟨o,k it 3#0 o e,r⟩
 item:=by
  intro X hP hw hK hc i zc s σ H E I hf st hg;subst hP hw hK;obtain⟨f0,f1,f2,f3,f4,f5⟩:=hf it 3#0;refine(W X.A 1#12).item i s _ _ hg st λv h' tk hv zl kk=> ?_;obtain⟨c,u,ec,rfl⟩:=hv;have I1:z4 X zc σ H {s with heap:=h',toks:=tk} :=I.turned 2#18 f0 f1 f3 f4 f5;obtain⟨o,e,c',d⟩:=id zl;exact⟨_,rfl,gV (s:= {s with heap:=h',toks:=tk}) e c' d hn ⟨.str ⟨#[c]⟩,H,I1,⟨u,rfl⟩,⟨rfl,c,ec,rfl⟩,zl,λb hb=>(hf b hb).1⟩⟩
 done:=by
  intro X hP hw hK hc i zc s σ H E I hf st hg;subst hP hw hK;obtain⟨f0,f1,f2,f3,f4,f5⟩:=hf it 3#0;have hg':i=x.cps.size:=hg;subst hg';exact(W X.A 1#12).done s _ _ st λh' tk kk=>⟨rfl,I.turned 2#18 f0 f1 f3 f4 f5⟩
 self:=hself
section
variable {X:Cx} {tg:Expr}
theorem znX {bs:List Str} : ∀{us:List aa},zJ (bs.map V.str) us->StrsAre us bs:=by
 induction bs with
 | nil=>intro us r;rw[jf]at r;cases r;exact .nil
 | cons n ns ih=>
  intro us r;rw[av]at r;cases r with
  | cons r1 r2=>
   obtain⟨t,e⟩:=r1;subst e;exact .cons n t (ih r2)
def zvE (K:Frag):V->List V->Hp->VK->Prop:=λx vs H Q=> ∃(sep:Str) (l:ac) (ys:List Str),x= .str sep/\vs= [.ref l]/\x8 K H l (ys.map V.str)/\(ys.map (·.length)).sum+ys.length * sep.length<=16777216/\Q (.str (Txt.join sep ys)) H
theorem zsE:tX X "str.join" (zvE X.K):=by
 intro zc s σ H x xs v us Q I rx rv h;obtain⟨sep,l,ys,rfl,rfl,hl,hz,q⟩:=h;obtain⟨t,rfl⟩:=rx;obtain⟨u,rfl,ru⟩:=zJ.one rv;cases ru;obtain⟨zf,r,p,_⟩:=I.list hl;exact join_list p.isList (by simpa using znX r) hz λt' k=>⟨.str (Txt.join sep ys),H,I.tok _,⟨t',rfl⟩,q⟩
theorem zrN (sep:Str)(ys:List Str):(Txt.join sep ys).length<=(ys.map (·.length)).sum+ys.length * sep.length:=by
 show(Builtin.Str.glued sep ys).length<=_;rw[vy];exact StrLaws.join_length_le sep ys
def zvN:V->Option Int->Option Int->Hp->VK->Prop:=λx lo hi H Q=> ∃z,x= .str z/\z.length<=ak/\((Txt.slice z lo hi).length<=z.length->Q (.str (Txt.slice z lo hi)) H)
theorem zwx:kA X zvN:=by
 intro zc s σ H x v vl vu lo hi sl Q I rx hs pl pu h;obtain⟨z,rfl,hz,q⟩:=h;obtain⟨t,rfl⟩:=rx;obtain⟨o,e,c,d⟩:=hs;have fin: ∀t' k,EP X zc σ Q (.str (Txt.slice z lo hi) t') {s with toks:=k} :=λt' k=>⟨.str (Txt.slice z lo hi),H,I.tok k,⟨t',rfl⟩,q (ql z _ _)⟩;refine⟨"str",_,F.slot_str_getitem.lookup,typeIs_str _ _ _,?_⟩;cases pl with
 | none=>
  cases pu with
  | none=>exact mm (l:=none) (u:=none) (st:=none) ⟨o,e,c,d⟩ rfl 1#16
  | int j uj=>exact mm (l:=none) (u:=some (j,uj)) (st:=none) ⟨o,e,c,d⟩ rfl 1#16
 | int i ui=>
  cases pu with
  | none=>exact mm (l:=some (i,ui)) (u:=none) (st:=none) ⟨o,e,c,d⟩ rfl 1#16
  | int j uj=>exact mm (l:=some (i,ui)) (u:=some (j,uj)) (st:=none) ⟨o,e,c,d⟩ rfl 1#16
end
set_option maxHeartbeats 4000000
def zhJ (fsc scope:ll)(N N':List Str):Bool:=
 scope.kind== .function&&scope.names.all (λy=>y.2 != .cell&&(y.2 != .local||scope.names.lookup y.1==some .local)&&(y.2 != .free||(fsc.names.lookup y.1==some .cell||fsc.names.lookup y.1==some .free)))
  &&N'.length==N.length&&(N'.zip N).all (λp=>p.1==p.2|| !(scope.names.any λq=>q.1==p.1&&q.2== .free))&&N'.all (λy=>scope.names.lookup y !=some .local)
theorem uY {X:Cx}{scope fsc:ll}{N N' own:List Str}(hX:X.env.scope=fsc)(hN:X.N=N)(h:zhJ fsc scope N N'=true):rH X scope N' own:=by
 unfold zhJ at h;simp only[im,la,beq_iff_eq,bne_iff_ne,Bool.or_eq_true,ne_eq]at h;obtain⟨⟨⟨⟨h1,h2⟩,h3⟩,h4⟩,h5⟩:=h;subst hX hN;refine⟨h1,λy hy=>(h2 y hy).1.1,λy hy e=> ?_,λy hy e=> ?_,h3,λi y e=> ?_,λy hy=>h5 y hy⟩
 ·rcases(h2 y hy).1.2 with z | z
  ·exact absurd e z
  ·exact z
 ·rcases(h2 y hy).2 with z | z
  ·exact absurd e z
  ·exact z
 ·have hi:i < N'.length:=(ah.mp e).1
  have e2:X.N[i]?=some X.N[i]:=bz 0#0;have m:(y,X.N[i])∈N'.zip X.N:=by
   refine au.mpr ⟨i,?_⟩;rw[List.getElem?_zip_eq_some];exact⟨e,e2⟩
  rcases h4 _ m with z | z
  ·left
   rw[e2];have z':y=X.N[i]:=z;rw[<- z']
  ·right
   intro q;have z':(!(scope.names.any λq=>q.1==y&&q.2== .free))=true:=z;rw[Bool.not_eq_true',List.any_eq_false]at z';exact z' _ q 3#0
theorem zpR {α:Type}(xs:List α){d:Int}(h0:0<=d)(h1:d < xs.length): ∃y,y∈xs/\atI xs d=some y:=by
 have hn:d.toNat < xs.length:=0#0
 refine⟨xs[d.toNat],jg hn,?_⟩;unfold atI wS;rw[if_pos h0,if_pos h1];exact bz hn
set_option maxHeartbeats 4000000
set_option maxHeartbeats 4000000
set_option maxHeartbeats 4000000
theorem cN: ∀{xs:List V} {us:List aa},xs.length=us.length->(∀(j:Nat) (v:aa) (x:V),us[j]?=some v->xs[j]?=some x->zO x v)->zJ xs us
 | [],[],_,_=> .nil
 | x::xs,u::us,h,r=> .cons (r 0 u x rfl rfl) (cN (by simpa using h) λj v y a b=>r (j+1) v y a b)
theorem zlV {kvs:List (z8×V)}{vs:List (z8×aa)}(r:KV kvs vs):kvs.length=vs.length:=jh r
set_option maxHeartbeats 4000000
namespace RV
theorem owner:Manifest.owners.lookup (String.ofList ['d','e','s','r','e','v','e','r'].reverse)=some Manifest.sig_reversed:=by kernel_rfl
theorem slot_next:Slot 6#1 "__next__" "reversed.__next__" :=
 .of (owner:= 6#1) (n:= "__next__") (by rw[ik,fm];kernel_rfl) 1#0 1#0 1#0
  (by first | exact .inl 1#0 | exact .inr 1#0) (by rw[jw];kernel_rfl)
theorem entry_next:wq table "reversed.__next__" =some Builtin.«reversed.__next__»:=uu 7#14
theorem args_next (a:aa):argsOk "reversed.__next__" ⟨[a],[]⟩:=by
 unfold argsOk;rw[xh (id:= "reversed.__next__") (n:= ['_','_','t','x','e','n','_','_']) (o:= ['d','e','s','r','e','v','e','r']) 7#14 owner];kernel_rfl
theorem slot_iter:Slot 6#1 "__iter__" "reversed.__iter__" :=
 .of (owner:= 6#1) (n:= "__iter__") (by rw[ik,fm];kernel_rfl) 1#0 1#0 1#0
  (by first | exact .inl 1#0 | exact .inr 1#0) (by rw[jw];kernel_rfl)
theorem args_iter (a:aa):argsOk "reversed.__iter__" ⟨[a],[]⟩:=by
 unfold argsOk;rw[xh (id:= "reversed.__iter__") (n:= ['_','_','r','e','t','i','_','_']) (o:= ['d','e','s','r','e','v','e','r']) 7#14 owner];kernel_rfl
theorem entry_iter:wq table "reversed.__iter__" =some Builtin.«dict_keyiterator.__iter__»:=
 entryFor_alias (id':= "dict_keyiterator.__iter__") 7#14 (by first | rfl | decide+kernel | (unfold String.splitOn;simp+decide [String.splitOnAux])) 1#0 7#14
theorem zw1:Slot 6#1 7#1 "object.__init__" :=
 .of (owner:= "object") (n:= 7#1) (by rw[ik,fm];kernel_rfl) 1#0 1#0 1#0
  (by first | exact .inl 1#0 | exact .inr 1#0) (by rw[jw];kernel_rfl)
theorem called:TypeCalled 6#1 "reversed.__new__" "object.__init__" :=
 ⟨1#0,1#0,⟨_,_,F.mro_reversed⟩,F.made_reversed,1#0,by rw[jw];kernel_rfl,zw1⟩
theorem no_rev:typeLookup (.type 18#1) "__reversed__" =pure none:=by rw[ik,fm];kernel_rfl
theorem sub_td:isSubtype (.type 18#1) (.type 76#1)=pure false:=by rw[jw];kernel_rfl
end RV
def jE (t:ac)(i:Int):af:= {cls:= .type 6#1,data:= .fields #[.ref t,rawInt i]}
section
variable {prog:ce} {w:ci} {A:cw} {E:aa->ai->Prop} {s:ai}
theorem zq8 {t:ac}{items:Array aa}{Q₁:aa->ai->Prop}(ht:IsTup s.heap t items)(hz:items.size<=ak)
  (h: ∀tk,Q₁ 4#6 {s with heap:=s.heap.push (jE t 7#9),toks:=tk}):
  kf 9#2 A (.call (.builtin "reversed.__new__") ⟨[.type 6#1,.ref t],[]⟩) (wants Q₁ E) s:=by
 refine codeAny_of_tree ?_;show ay _ A.in1 (do checkBuiltinCall "reversed.__new__" ⟨[.type 6#1,.ref t],[]⟩;again (.builtin "reversed.__new__" ⟨[.type 6#1,.ref t],[]⟩)) _ _ s;refine ad (jq (F.newCall_reversed_1 _) (az ⟨mt wu _,ny F.entry_reversed_new ?_⟩));rw[lx wu _];unfold Builtin.«reversed.__new__»;refine ad (jq (newClass_reversed _) ?_)
 try dsimp only
 refine ad (jq (a:=()) (by first | rfl | kernel_rfl) ?_);refine ad (jq (a:=()) (by first | rfl | kernel_rfl) ?_)
 try dsimp only
 refine ad (ja ht.typeIs RV.no_rev ?_)
 try dsimp only
 refine ad ?_;show ay _ A.in1 (isInstance (.ref t) (.type 76#1) >>= _) _ _ s;refine ad (mf (b:=false) ht.typeIs RV.sub_td ?_);show ay _ A.in1 (specialOf (.ref t) "__getitem__" >>= _) _ _ s;refine ad (ja ht.typeIs rn.lookup ?_);refine jq (a:=true) (by first | rfl | kernel_rfl) ?_;show ay _ A.in1 (call (.builtin "len") [.ref t] >>= _) _ _ s;refine ad (vn ht (by have:=rT;grobner) ?_);refine ad (jq (a:=some (items.size:Int)) (by first | rfl | kernel_rfl) ?_);refine ad (m:=newObj (.type 6#1) (.fields #[.ref t,rawInt 7#9])) (gw (az (h _)))
theorem zqx {t:ac}{items:Array aa}{Q:aa->ai->Prop}(ht:IsTup s.heap t items)(hz:items.size<=ak)
  (h: ∀tk,Q 4#6 {s with heap:=s.heap.push (jE t 7#9),toks:=tk}):ay 9#2 A (call (.type 6#1) [.ref t]) Q E s:=by
 refine rg (Q₁:=λobj s₁=>s₁.TypeIs obj 6#1 /\Q obj s₁) RV.called (F.typeCall_reversed_1 _) F.entry_object_init
  (zq8 ht hz λtk=>⟨⟨_,cm _ rfl,rfl⟩,h tk⟩) λobj s₁ h₁=> ?_
 exact⟨h₁.1,F.args_object_init_2 obj _,object_init_meets RV.called.init.lookup RV.called.made 2#0 prog w A.in1 _ s₁ ⟨h₁.1,rfl,h₁.2⟩⟩
def pH (h:cn)(a t:ac)(i:Int):Prop:=h.get? a=some (jE t i)
theorem zsV {it t:ac}{i:Nat}{items:Array aa}{x:aa}{Q:Option aa->ai->Prop}(Ae:pH s.heap it t (i:Int))(ht:IsTup s.heap t items)(hz:items.size<=ak)(hx:items[i]?=some x)
  (hQ: ∀h' tk,pH h' it t ((i:Int) - 1)->Heap.SameBut it s.heap h'->Q (some x) {s with heap:=h',toks:=tk}):ay 9#2 A (pyNext 9#12) Q E s:=by
 have hT:s.TypeIs 9#12 6#1 :=⟨_,Ae,rfl⟩;have hil:i < items.size:=(ju.mp hx).1;unfold pyNext;refine ad (ln (ml (name:=Str.ofString "__next__") hT RV.slot_next
  (ma RV.slot_next hT RV.entry_next ?_ (RV.args_next _))))
 unfold Builtin.«reversed.__next__»;refine ad (jq (a:=(Value.ref it,[])) rfl ?_)
 try dsimp only
 refine ad (ij Ae rfl (x:= .ref t) rfl ?_);refine ad (ij Ae rfl (x:=rawInt (i:Int)) rfl ?_);show ay _ _ (if(i:Int) < 0 then _ else _) _ _ s;rw[if_neg 0#0];refine ad (ja ht.typeIs rn.lookup ?_);show ay _ _ (mkInt (i:Int) >>= _) _ _ s;refine ad (wpAny_mkInt ?_);have hn:=rT;refine ad (ln (PyProof.Rows.getItem_tuple (s:= {s with toks:=s.toks+1}) (j:=i) ht 0#0 0#0 ?_ hx ?_))
 ·unfold seqIndex?
  have e0: ¬ (i:Int) < 0:=0#0
  simp only[if_neg e0];rw[if_pos (by simp;exact hil)];simp
 ·show ay _ _ (field 9#12 1 >>= _) _ _ _
  refine ad (ij Ae rfl (x:=rawInt (i:Int)) rfl ?_);refine ad (sf Ae 3#0 λh' he' hs'=> ?_);refine az ⟨x,rfl,az (hQ h' _ ?_ hs')⟩;exact he'
theorem zsW {it t:ac}{Q:Option aa->ai->Prop}(hh:A.handled=none)(Ae:pH s.heap it t (-1))
  (hQ: ∀h',Heap.ExtBut it s.heap h'->Q none {s with heap:=h'}):ay 9#2 A (pyNext 9#12) Q E s:=by
 have hT:s.TypeIs 9#12 6#1 :=⟨_,Ae,rfl⟩;unfold pyNext;refine ad (ln (ml (name:=Str.ofString "__next__") hT RV.slot_next
  (ma RV.slot_next hT RV.entry_next ?_ (RV.args_next _))))
 unfold Builtin.«reversed.__next__»;refine ad (jq (a:=(Value.ref it,[])) rfl ?_)
 try dsimp only
 refine ad (ij Ae rfl (x:= .ref t) rfl ?_);refine ad (ij Ae rfl (x:=rawInt (-1)) rfl ?_);show ay _ _ (if(-1:Int) < 0 then _ else _) _ _ s;rw[if_pos 2#0];refine ad (oy ?_);refine ad ?_;show ay _ _ (setField 9#12 1 (rawInt (-1)) >>= λ_=>setField 9#12 0 .none) _ _ s;refine ad (sf Ae 3#0 λh1 he1 hs1=> ?_);refine sf he1 3#0 λh2 he2 An=> ?_
 first
 | show ay _ _ (newExc (.type "StopIteration") [] >>= _) _ _ _
 | (refine ad ?_;show ay _ _ (newExc (.type "StopIteration") [] >>= _) _ _ _)
 refine ad ?_;simp only[newExc,newTuple];refine ad (gw ?_ (by size_fits));refine ad (m:=firstArgMember _ _) (jq (a:=Value.none) (by first | rfl | (simp only[firstArgMember];rfl)) ?_);refine gw ?_ (by size_fits);simp only[raiseNew];refine ad (wpAny_handled ?_)
 first | rw[show A.in1.handled=none from hh] | rw[hh]
 refine ad (az (wpAny_throw ?_));refine ad (mf (T:= "StopIteration") (b:=true) ⟨_,cm _ rfl,rfl⟩ isSubtype_stop ?_);exact az (hQ _ (((hs1.extBut.trans An.extBut).push _).push _))
theorem zlM {it t:ac}{i:Int}{Q:aa->ai->Prop}(Ae:pH s.heap it t i)(h:Q 9#12 s):ay 9#2 A (pyIter 9#12) Q E s:=by
 have hT:s.TypeIs 9#12 6#1 :=⟨_,Ae,rfl⟩;refine wpAny_pyIter_slot hT RV.slot_iter (ma RV.slot_iter hT RV.entry_iter ?_ (RV.args_iter _));show ay _ _ (ret 9#12) _ _ s;exact az ⟨_,rfl,6#1,_,hT,RV.slot_next.lookup,h⟩
end
section
variable {X:Cx} {tg:Expr}
theorem zh6:bootBuiltins 6#1 =some (.type 6#1):=1#0
end
set_option maxHeartbeats 4000000
section
variable {X:Cx} {zc:List (ac×af)} {σ:St} {H:Hp} {s:ai}
theorem zmN {α β:Type}{R:α->β->Prop} : ∀{l:List α} {m:List β} {j:Nat} {a:α} {b:β},Paired R l m->l[j]?=some a->m[j]?=some b->R a b
 | _,_,0,a,b,.cons r _,h1,h2=>by
  rw[pc]at h1 h2;rw[<- cf h1,<- cf h2];exact r
 | _,_,j+1,a,b,.cons _ r,h1,h2=>zmN (j:=j) r (by simpa using h1) (by simpa using h2)
theorem zoP {xs:List V}{zf:List aa}(r:zJ xs zf){j:Nat}(h:j < zf.toArray.size): ∃x,xs[j]?=some x/\zO x zf.toArray[j]:=by
 have hj:j < xs.length:=by rw[r.length];simpa using h
 obtain⟨u,e,ru⟩:=r.get (i:=j) (x:=xs[j]) (by simp[hj]);refine⟨xs[j],by simp[hj],?_⟩;have:zf[j]?=some zf.toArray[j]:=3#0
 rw[this]at e;rw[cf e];exact ru
end
set_option maxHeartbeats 4000000
section
variable {X:Cx}
theorem zoR: ∀{us:List aa} {ss:List Str},StrsAre us ss->zJ (ss.map V.str) us
 | _,_,.nil=> .nil
 | _,_,.cons _ t r=> .cons ⟨t,rfl⟩ (zoR r)
theorem zqy:wA X (.builtin "sorted") (λxs H Q=> ∃(l:ac) (ss:List Str),xs= [.ref l]/\x8 X.K H l (ss.map V.str)/\ss.length < 64/\∀p ss',H p=none->ss'.Perm ss->sortedS ss'=true->Q 3#13 (upd H p (.lst (ss'.map V.str)))):=by
 intro zc s σ H xs us Q I r h;obtain⟨l,ss,rfl,hl,h64,q⟩:=h;obtain⟨u,rfl,ru⟩:=o7 r;cases ru;obtain⟨zf,rv,p,_⟩:=I.list hl;have zu:=rv.length;rw[ae]at zu;refine sorted_strs p.isList (znX rv) 0#0 λout ss' h1 h2 h3=> ?_;obtain⟨e,he⟩:=sortedAll_at s.heap zf out;have hn:H (s.heap.objs.size+1)=none:=I.hok.fresh (iu _);refine⟨.ref (s.heap.objs.size+1),_,I.laid (t':=s.toks) (o:= .lst (ss'.map V.str)) (λb u z=>sortedAll_old z) (iu _) ⟨?_,out.toList,e,zoR h1,?_⟩,rfl,q _ ss' hn h2 h3⟩
 ·rw[ae,h2.length_eq]
  exact bh (oi h64) 2#0
 ·rw[Array.toArray_toList];exact he
theorem zmJ:yJ X (binaryOp .Mult) (λx y H Q=> ∃(z:Str) (n:Int),x= .str z/\y= .int n/\((n=0/\Q (.str Str.empty) H)∨(n=1/\Q (.str z) H))):=by
 intro zc s σ H x y v u Q I rx ry h;obtain⟨z,n,rfl,rfl,h⟩:=h;obtain⟨t,rfl⟩:=rx;obtain⟨t',rfl⟩:=ry;rcases h with⟨rfl,q⟩ | ⟨rfl,q⟩
 ·exact PySem.P.mul_str_none 2#0 2#0 ⟨.str Str.empty,H,I.tok _,⟨_,rfl⟩,q⟩
 ·refine PySem.P.mul_str 2#0 (λ_ h=>by cases h) (λ_ h=>by cases h) ?_
  rw[if_neg 2#0,if_pos (show((1:Int)==1||z.length==0)=true from rfl)];exact⟨.str z,H,I,⟨_,rfl⟩,q⟩
end
set_option maxHeartbeats 4000000
def Rw (H:Hp)(p:ac)(xs:List Str):Prop:=H p=some (.tup (xs.map V.str))
section
variable {prog:ce} {w:ci} {A:cw} {E:aa->ai->Prop} {s:ai}
theorem zrx {t sl:ac}{items:Array aa}{vl vu:aa}{lo hi:Option Int}{Q:aa->ai->Prop}(ht:IsTup s.heap t items)(hs:s.heap.IsSliceOf sl vl vu .none)(pl:IsPart vl lo)(pu:IsPart vu hi)
  (hw:HT.sIx items.size 0 lo=0/\HT.sIx items.size items.size hi=items.size) (h:Q (.ref t) s):ay 9#2 A (getItem (.ref t) (.ref sl)) Q E s:=by
 obtain⟨os,hos,hcs,hds⟩:=id hs;have hTs:s.TypeIs (.ref sl) "slice" :=⟨os,hos,hcs⟩;unfold getItem
 try with_reducible refine dj ?_
 first | refine ad (az ?_) | skip
 refine ad (wpAny_sequenceKey ht.typeIs 2#0 ?_);refine ad (ml (name:=Str.ofString "__getitem__") ht.typeIs gy
  (ma gy ht.typeIs xi ?_ (args_tuple_getitem _ _)))
 show ay _ _ (Builtin.Tuple.tupleItemsOf (.ref t) >>= _) _ _ s;refine ad (tupleItemsOf_ ht ?_);refine ad (nj hTs ?_);rw[if_pos 2#0];refine ad (HT.sliceApplied_gen hs pl pu ?_);have hyes:((((HT.sIx items.size 0 lo:Nat):Int)==0&&(1:Int)==1&&(HT.sIx items.size items.size hi - HT.sIx items.size 0 lo)==items.size)=true):=by
  rw[hw.1,hw.2];simp
 show ay _ _ (if(((HT.sIx items.size 0 lo:Nat):Int)==0&&(1:Int)==1&&(HT.sIx items.size items.size hi - HT.sIx items.size 0 lo)==items.size)=true then _ else _) _ _ s;rw[if_pos hyes];unfold Builtin.Tuple.tupleIsExact;refine ad (ad (nj ht.typeIs (az ?_)));rw[if_pos 2#0];refine ad (oy ?_)
 first
  | exact az ⟨_,rfl,az h⟩
  | exact ad (az 1#15)
  | exact ad 1#15
end
section
variable {X:Cx}
def zru (K:Frag)(n:Nat)(t:uT):TG:=λv σ H Q=> ∃a xs,v= .ref a/\x8 K H a xs/\xs.length=n/\t xs σ H Q
theorem zu9 {es:List Expr}{k:Nat}{t:uT}{n:Nat}{pos:fe}(hc:X.calm=true)(h:uD X es t)
  (hn:(assignEach es X.env).length=n:=by rfl) (Ag:(assignEach es X.env).findIdx? (·.1)=none:=by rfl):PG X (.Tuple es k pos) (zru X.K n t):=⟨by
 intro zc s σ H v u Q I r hw;obtain⟨a,xs,e1,hq,hl,hw⟩:=hw;subst e1;cases r;obtain⟨zf,rv,ht,hz⟩:=I.list hq;rw[assign_Tuple];refine ad (ia ?_);unfold unpack;rw[show(assignEach es X.env).length=zf.toArray.size from by simp[hn,<- hl,rv.length],Ag];refine ad (dj (PySem.W.kun_itemsOf 1#12 ht.isList λh' hx=> ?_));have I1:z4 X zc σ H {s with heap:=h'} :=I.kept (t':=s.toks) λb o e=>hx b o (bt (be e)) e;exact h zc _ σ H xs _ Q I1 (by simpa using rv) hw⟩
variable {a b c d:Expr} {ta tb tc td:TE} {pos:fe}
end
set_option maxHeartbeats 4000000
namespace RV
theorem no_len:typeLookup (.type 6#1) "__len__" =pure none:=by rw[ik,fm];kernel_rfl
theorem slot_hint:Slot 6#1 67#1 39#1 :=
 .of (owner:= 6#1) (n:= 67#1) (by rw[ik,fm];kernel_rfl) 1#0 1#0 1#0
  (by first | exact .inl 1#0 | exact .inr 1#0) (by rw[jw];kernel_rfl)
theorem entry_hint:wq table 39#1 =some Builtin.«reversed.__length_hint__»:=uu 7#14
theorem args_hint (a:aa):argsOk 39#1 ⟨[a],[]⟩:=by
 unfold argsOk;rw[xh (id:= 39#1) (n:= ['_','_','t','n','i','h','_','h','t','g','n','e','l','_','_']) (o:= ['d','e','s','r','e','v','e','r']) 7#14 owner];kernel_rfl
end RV
section
variable {prog:ce} {w:ci} {A:cw} {E:aa->ai->Prop} {s:ai}
theorem zpB (hh:A.handled=none)(I t:ac)(Ao:t≠I)(items:Array aa)(hz:items.size<=ak):
  Walks prog w A I [I,t] [I] items.size (λi v=>items[items.size - 1 - i]?=some v) (λi h=>i<=items.size/\pH h I t ((items.size:Int) - 1 - (i:Int))/\IsTup h t items) where
 sub:=λb hb=>by simp at hb;simp[hb]
 frame:=λ_ _ _ st hk=>by
  obtain⟨h0,h1,o,e,c,n,d⟩:=st;exact⟨h0,hk I 3#0 _ h1,o,hk t 3#0 o e,c,n,d⟩
 item:=λi s Q E hi st hQ=>by
  obtain⟨h0,h1,ht⟩:=st;have e:(items.size:Int) - 1 - (i:Int)=((items.size - 1 - i:Nat):Int):=0#0
  rw[e]at h1;have hj:items.size - 1 - i < items.size:=0#0
  refine zsV h1 ht hz (x:=items[items.size - 1 - i]) (by simp[hj]) λh' tk hit' sb=> ?_;have e2:((items.size - 1 - i:Nat):Int) - 1=(items.size:Int) - 1 - ((i+1:Nat):Int):=0#0
  rw[e2]at hit';obtain⟨o,eo,c,n,d⟩:=ht;exact hQ _ h' tk (by simp[hj]) ⟨hi,hit',o,(sb.2 t Ao).trans eo,c,n,d⟩ λb o hb e=>(sb.2 b λh=>hb (by simp[h])).trans e
 done:=λs Q E st hQ=>by
  obtain⟨h0,h1,ht⟩:=st;have e:(items.size:Int) - 1 - (items.size:Int)= -1:=0#0
  rw[e]at h1;exact zsW hh h1 λh' eb=>hQ h' s.toks λb o hb e=>eb b o (λh=>hb (by simp[h])) e
 self:=λ_ _ _ _ st h=>zlM st.2.1 h
theorem zr5 {I t:ac}{items:Array aa}{Q:aa->ai->Prop}(Ae:pH s.heap I t 7#9)(ht:IsTup s.heap t items)(hz:items.size<=ak)
  (h: ∀tk u,s.toks<=tk->Q (.int (items.size:Int) u) {s with toks:=tk}):ay 9#2 A (call (.builtin 39#1) [.ref I]) Q E s:=by
 have hT:s.TypeIs (.ref I) 6#1 :=⟨_,Ae,rfl⟩;refine ma RV.slot_hint hT RV.entry_hint ?_ (RV.args_hint _);unfold Builtin.«reversed.__length_hint__»;refine ad (jq (a:=Value.ref I) rfl ?_);refine ad (ij Ae rfl (x:= .ref t) rfl ?_);show ay _ _ (call (.builtin "len") [.ref t] >>= _) _ _ s;refine ad (vn ht (by have:=rT;grobner) ?_);refine ad (jq (a:=some (items.size:Int)) (by first | rfl | kernel_rfl) ?_);refine ad (ij (s:= {s with toks:=s.toks+1+1}) Ae rfl (x:=rawInt 7#9) rfl ?_);show ay _ _ (if(items.size:Int) < (items.size:Int) - 1+1 then _ else _) _ _ _;rw[if_neg 0#0];unfold retInt;refine ad (wpAny_mkInt ?_);have e:(items.size:Int) - 1+1=items.size:=0#0
 rw[e];exact az ⟨_,rfl,h _ _ (by show s.toks<=s.toks+1+1+1;grobner)⟩
end
set_option maxHeartbeats 4000000
def zgW (f:ac)(o:af):cn->Prop:=λh=>h.get? f=some o
def zgA (c:ac)(q:Str):cn->Prop:=λh=> ∃o vs t,h.get? c=some o/\o.data= .fields vs/\vs[1]?=some (.str q t)
def less (H:Hp)(c:ac):Hp:=λb=>if b=c then none else H b
def back (H K:Hp)(c:ac):Hp:=λb=>if b=c then K c else H b
set_option maxHeartbeats 4000000
set_option maxHeartbeats 4000000
set_option maxHeartbeats 4000000
section
variable {X:Cx} {zc:List (ac×af)} {σ:St} {H:Hp} {s:ai} {scope:ll} {N' own:List Str}
theorem znb {Aw zh zo:Expr}{Ak:List Expr}{pos spos pos':fe}{i0:Nat}{x:Str}{wi:TI}{g:TG}{tt:TT}{te:TE}(hN:X.N.Nodup)(hi0:X.N[i0]?=some x)(hx:tW X.env.scope x)(S:rH X scope N' own)(hc:X.calm=true)(hi:PI X zh zo wi)
  (hg: ∀C s H fp zc,PG 7#2 zh g) (ht: ∀C s H fp zc,PF 7#2 Ak tt) (he: ∀C s H fp zc,PE 7#2 Aw te)
  (hs: ∀x,foldedSetIterable zo X.env x=pure x:=by intro _;rfl) (AF:swapsWith 8#2 4#12 spos.line X.env=pure true:=by rfl)
  (hf:X.fn x=true∨X.env.scope.names.lookup x=some .local:=by first | exact .inl rfl | exact .inr rfl | assumption):
  PS X (.Assign [.Name x pos'] 8#2 spos) (nB (c8 own.length wi g tt te) (mE i0)):=by
 refine⟨?_⟩;intro zc s σ H D0 I h;rw[exec_Assign_Name_used _ _ _ _ AF];refine ad (ia (ad ?_));show ay _ X.A (do let _ <- comprehension 8#2 scope X.env _ (newList []) false (eval zo X.env) (some (assign (.Name x pos') X.env))) _ _ s;refine ad (jy (ut (use:=some (assign (.Name x pos') X.env)) (Q:=λ_ s'=>SP X zc D0 .next s') rfl hs (zhO (S.cells I)) S.kind S.names ?_) (λ_ s' hq=>az (az hq)) λ_ _ e=>e);refine zL (hi zc s σ H _ I h) λv s1 h1=>zL h1 λitv s2 h2=> ?_;obtain⟨it,fp,tn,J,H2,e,I2,T,zi,f2,W,⟨m0,w0⟩,turn⟩:=h2;subst e;have fl: ∀b∈fp,b < s2.heap.objs.size:=λb hb=>by obtain⟨o,e,_⟩:=T.obj _ _ zi b hb;exact be e
 refine gw (wp S.nocell (by intro y hy;simp at hy) (λh4 ns4 sb4=> ?_) S.kind);dsimp only at ns4 sb4⊢
 generalize hH3:s2.heap.push {cls:= .type 14#1,dict:=none,data:= .seq ([]:List aa).toArray} =h3 at ns4 sb4⊢
 have hC:h3.objs.size=s2.heap.objs.size+1:=by rw[<- hH3,kz]
 have hDC:s2.heap.objs.size≠h3.objs.size:=by rw[hC];exact bt (pq _)
 have hCle:s2.heap.objs.size<=h3.objs.size:=by rw[hC];exact iu _
 have eD3:h3.get? s2.heap.objs.size=some {cls:= .type 14#1,data:= .seq ([]:List aa).toArray} :=hH3▸cm _ rfl;have k4: ∀b u,s2.heap.get? b=some u->h4.get? b=some u:=λb u e=>
  (sb4.2 b (bt (bp (be e) hCle))).trans (ap _ (hH3▸ap _ e))
 have eD4:h4.get? s2.heap.objs.size=some {cls:= .type 14#1,data:= .seq ([]:List aa).toArray} :=(sb4.2 _ hDC).trans (ap _ eD3);generalize hDd:s2.heap.objs.size=D at *;generalize hCd:h3.objs.size=C at *;have I4:=zlE S I2 (C:=C) (D:=D) (fp:=fp) (h4:=h4) (tk:=s2.toks+([]:List (Str×aa)).length) k4 (by rw[hDd];exact hCle) (by rw[hDd];exact ar _) hDC eD4 (by intro v z;cases z) ns4 f2 (by rw[hDd];exact fl);have lowC: ∀(b:ac) (u:af),s2.heap.get? b=some u->b≠C:=λb u e=>bt (bp (be e) (by rw[hDd];exact hCle));have nofp: ∀b∈fp,b∉w5 X.stack:=λb hb hm=>by
  rcases bo.mp (I2.stkSub b hm)with z | z
  ·exact(f2 b hb).2.1 z
  ·exact(f2 b hb).2.2.1 z
 have fpD: ∀b∈fp,b≠D:=λb hb=>bt (fl b hb);have As: ∀{H':Hp} {o:af},2#12->∀b∈fp,qG 1#3 [(D,o)] H' b:=λ{H' o} hn b hb=>
  ⟨hn b hb,bt (bp (fl b hb) hCle),nofp b hb,.inl hb,λx c e=>(f2 b hb).2.2.2.2.1 x c (qN S I2 e),λp hp=>by
   have hp':p∈(X.pn++zc)++ [(D,o)]:=hp;rcases aq.mp hp' with z | z
   ·exact(f2 b hb).2.2.2.2.2 p z
   ·have e:p=(D,o):=by simpa using z
    rw[e];exact fw (fpD b hb)⟩
 have loop: ∀s3:ai,z4 1#3 [(D,{cls:= .type 14#1,data:= .seq ([]:List aa).toArray})] (σ++List.replicate own.length none) H2 s3->tn 0 s3.heap->
   kf 1#2 X.A (.compLoop 8#2 0 9#12 7#15 (compEnvC scope 6#6 C X.env))
    (compPost 1#2 X.A X.xe (some (assign (.Name x pos') X.env)) (λ_ s'=>SP X zc D0 .next s') 7#15 C) s3:=by
  intro s3 I3 Ab;refine zhP (λn s'=> ∃(i:Nat) (ys:List V) (σ':St) (H':Hp) (Aa:List aa) (cnt:Nat),z4 1#3 [(D,{cls:= .type 14#1,data:= .seq Aa.toArray cnt})] σ' H' s'/\
   tn i s'.heap/\2#12/\zJ ys Aa/\W i n ys σ' H') ?_ m0 ⟨0,[],_,H2,[],0,I3,Ab,λb hb=>(f2 b hb).1,.nil,w0⟩
  rintro n s3 ⟨i,ys,σ3,H3,Aa,cnt,I3,Ab,fr3,rv,w3⟩;rcases turn i n ys σ3 H3 w3 with⟨stop,hz,q⟩ | ⟨go,hz,N,hN,step⟩
  ·refine zL (T.done 1#3 rfl rfl rfl hc i _ s3 σ3 H3 _ I3 (As fr3) Ab stop) λr s4 ⟨hr,I4⟩=> ?_
   subst hr;obtain⟨m,ns,_⟩:=id I4.loc;have u4:Un (w5 X.stack) fp H2 H3 s2.heap s4.heap:=I4.base;have nC:H3 C=none:=I4.free;have I5:z4 X zc σ H3 s4:=I2.call' (ch:=fp) I4.os u4 I4.hok I4.bare λb hb=>⟨(f2 b hb).2.2.2.1,(f2 b hb).2.1,(f2 b hb).2.2.2.2.1,(f2 b hb).2.2.2.2.2⟩;obtain⟨eD,nD,_⟩:=I4.pin (D,_) (aj _ aw);have lL:X.env.locals < D:=by have:=I2.lt;rw[hDd]at this;exact this
   have lcl: ∀x c,X.env.cells.lookup x=some c->c < D:=λx c e=>by
    obtain⟨v,o,ho,_⟩:=I2.cell x c e;have:=be ho;rw[hDd]at this;exact this
   have lp: ∀p∈X.pn++zc,p.1 < D:=λp hp=>by have:=be (I2.pin p hp).1;rw[hDd]at this;exact this
   have lDC:D < C:=Nat.lt_of_le_of_ne hCle hDC;have I6:z4 X zc σ (upd H3 D 0#17) s4:=zlG I5 nD (by rw[<- hDd];exact I2.sz) (gk lL) (λx c e=>bt (lcl x c e)) (λp hp=>bt (lp p hp)) ⟨hz,Aa,cnt,rv,eD⟩;refine wpAny_assign_Name (znV I6 hN hi0 hx (v:= .ref D) rfl (λs5 I7 ⟨a,sba,ha⟩=> ?_) hf);have nCa:C≠a:=by
    rcases ha with z | z
    ·rw[z];exact gk (ir lL lDC)
    ·exact gk (ir (lcl _ _ z) lDC)
   obtain⟨oC,esC,epC,eC,rC⟩:=ns;refine⟨m,⟨oC,esC,epC,(sba.2 C nCa).trans eC,rC⟩,λh' sb=> ?_⟩;refine⟨_,_,I7.turned (t':=s5.toks) (it:=C) (λb o hb e=>(sb.2 b hb).trans e) (by rw[yD (gk lDC)];exact nC) (gk (ir lL lDC)) (.inr (bh (by rw[<- hDd];exact I2.sz) (oi lDC))) (λx c e=>bt (ir (lcl x c e) lDC)) (λp hp=>bt (ir (lp p hp) lDC)),q D nD⟩
  ·refine zL (T.item 1#3 rfl rfl rfl hc i _ s3 σ3 H3 _ I3 (As fr3) Ab go) λr s4 ⟨u,hr,h4⟩=> ?_
   subst hr;refine zL h4 λ_ s5 ⟨x,H5,I5,r5,y5,st5,fr5⟩=> ?_;have I5':=I5.pinned (As fr5) (T.obj _ _ st5);have keepT: ∀{σ7:St} {H7:Hp} {s7:ai} {pl:List 7#3},z4 1#3 (pl++qA fp s5.heap) σ7 H7 s7->tn (i+1) s7.heap/\∀b∈fp,H7 b=none:=λ{σ7 H7 s7 pl} I7=>
    ⟨T.keep _ _ _ st5 λb hb o e=>(I7.pin (b,o) 4#13).1,λb hb=>by
     obtain⟨o,e,d⟩:=T.obj _ _ st5 b hb;exact(I7.pin (b,o) 4#13).2.1⟩
   refine mP (hg C s2 H2 fp zc _ s5 σ3 H5 x u _ I5' r5 (step x H5 y5)) λ_ s6 ⟨σ6,H6,I6,q6⟩=> ?_;refine mP (ht C s2 H2 fp zc _ s6 σ6 H6 _ I6 q6) λb s7 ⟨H7,I7,q7⟩=> ?_;cases b with
   | false=>
    obtain⟨m',hm,w7⟩:=hN _ _ _ q7;obtain⟨t7,fr7⟩:=keepT I7;exact⟨m',hm,i+1,ys,σ6,H7,Aa,cnt,I7.unpinned,t7,fr7,rv,w7⟩
   | true=>
    refine mP (he C s2 H2 fp zc _ s7 σ6 H7 _ I7 q7) λy s8 ⟨yv,H8,I8,r8,q8⟩=> ?_;obtain⟨m',hm,w8⟩:=hN _ _ _ q8;obtain⟨eD,nD,neD,nfD,cD⟩:=I8.pin (D,_) (aj _ (ax _ aw));have hvl:=rv.length;refine nu rp ⟨_,eD,rfl⟩ qu (qj _ _) (ua D Aa.toArray cnt y (by rw[bq];grobner)) ⟨eD,?_⟩;have I8':z4 1#3 (qA fp s5.heap) σ6 H8 s8:=I8.pins_of λp hp=>I8.pin p (aj _ (aj _ hp));have hno: ∀p∈(X.pn++zc)++qA fp s5.heap,p.1≠D:=λp hp=>by
     rcases aq.mp hp with z | z
     ·intro q
      have:=be (I2.pin p z).1;rw[hDd,q]at this;exact gz _ this
     ·exact fpD _ (zfj z).1
    have I9:=I8'.turned (t':=s8.toks) (it:=D) (h':=s8.heap.update D (Obj.mapSeq λx=>x.push y)) (λb o hb e=>(cj s8.heap _ (fw hb)).trans e) nD neD (.inr (by show s2.heap.objs.size<=D;rw[hDd];exact ar _))
     (λx c e z=>by
      obtain⟨v,o,ho,_⟩:=I2.cell x c (qN S I2 e);have:=be ho;rw[hDd,z]at this;exact gz _ this) hno
    obtain⟨t9,fr9⟩:=keepT (pl:= []) I9;have qD: ∃n',(s8.heap.update D (Obj.mapSeq λx=>x.push y)).get? D=some {cls:= .type 14#1,data:= .seq (Aa++ [y]).toArray n'} :=by
     have q:=uq (l:=D) (items:=Aa.toArray) (n:=cnt) (h:=s8.heap) eD λx=>x.push y;have e:Aa.toArray.push y=(Aa++ [y]).toArray:=3#0
     rw[<- e];exact⟨_,q⟩
    obtain⟨n',qD⟩:=qD;refine⟨m',hm,i+1,ys++ [yv],σ6,H8,Aa++ [y],n',I9.pins_of λp hp=> ?_,t9,fr9,rv.append (.cons r8 .nil),w8⟩;have e:=ao.mp hp;rw[e];exact⟨qD,nD,neD,nfD,by intro v z;cases z⟩
 have t4:tn 0 h4:=T.keep _ _ _ zi λb _ o e=>k4 b o e;exact vm (loop _ I4 t4) (T.self _ 0 _ _ _ t4 (loop _ I4 t4))
end
set_option maxHeartbeats 4000000
set_option maxHeartbeats 4000000
set_option maxHeartbeats 4000000
set_option maxHeartbeats 4000000
set_option maxHeartbeats 4000000
set_option maxHeartbeats 4000000
open PySem.W
section
variable {prog:ce} {w:ci} {A:cw} {E:aa->ai->Prop} {s:ai}
theorem zx3:typeLookup (.type 18#1) "keys" =pure none:=by rw[ik,fm];kernel_rfl
theorem zrW {a:ac}{xs:Array aa}{k:Nat}{sl:Array 5#8}{u:nv}{Q:aa->ai->Prop}
  (hx:s.heap.get? a=some {cls:= .type 18#1,dict:=none,data:= .seq xs k,slots:=sl}) (hA:A.handled=none)
  (h: ∀h' tk e,Heap.NewExcOf s.heap h' e "AttributeError" ->E 4#9 {s with heap:=h',toks:=tk}):
  ay 9#2 A (getAttrBy 8#9 (.str "keys" u) false) Q E s:=by
 obtain⟨hp,g,d,tk,os⟩:=s;have hT: ∀tk',(⟨hp,g,d,tk',os⟩:ai).TypeIs 8#9 18#1 :=λ_=>⟨_,hx,rfl⟩;have f1:=oo;have f3:=nz.lookup;have f4:=nz.bind 8#9;have f5:=am_tuple_getattr_none;unfold getAttrBy
 repeat(any_goals (first | assumption | exact hT _ | ((with_reducible show ay _ _ (call (Value.builtin "tuple.__getattribute__") _ _) _ _ _);refine nu nz (hT _) am_entry_tuple_getattribute (F.args_tuple_getattribute_2 _ _) (meets_getattribute_miss_tuple a xs k sl "keys" _ zx3 1#0 (by size_fits)) ⟨hx,hA,λh' tk' e hx'=> ?_⟩) | wp_step))
 obtain⟨t',u',he⟩:=hx'.there;show ay _ _ (getattributeRaised _ _ _ _ _ _ _) _ _ _;unfold getattributeRaised
 repeat(any_goals (first | assumption | wp_step))
 exact h _ _ _ hx'.of
theorem zrY {a:ac}{xs:Array aa}{k:Nat}{sl:Array 5#8}{Q:Option aa->ai->Prop}
  (hx:s.heap.get? a=some {cls:= .type 18#1,dict:=none,data:= .seq xs k,slots:=sl}) (hA:A.handled=none)
  (h: ∀h' tk,(∀b o,s.heap.get? b=some o->h'.get? b=some o)->Q none {s with heap:=h',toks:=tk}):
  ay 9#2 A (getAttr? 8#9 "keys") Q E s:=by
 unfold getAttr? getAttrBy?;refine ad (xu ?_);refine ad (ln ?_);refine zrW hx hA λh' tk e x=> ?_;obtain⟨o,xs',he,hc,_⟩:=x.there;refine ad (mf (T:= "AttributeError") ⟨_,he,hc⟩ oo ?_);rw[if_pos rfl];exact az (h h' tk x.keeps)
end
set_option maxHeartbeats 4000000
theorem gI:wq table "dict.update.loop" =some Builtin.«dict.update.loop»:=uu 7#14
theorem pX:plainId "dict.update.loop" =true:=1#0
section
variable {prog:ce} {w:ci} {A:cw} {E:aa->ai->Prop} {s:ai}
theorem zmM {b:ac}{Ap x:aa}{Q:List aa->ai->Prop}(hb:IsTup s.heap b #[Ap,x])(h:Q [Ap,x] s):ay 9#2 A (Builtin.Dict.pairItems (.ref b)) Q E s:=by
 obtain⟨o,ho,hc,n,hd⟩:=hb;unfold Builtin.Dict.pairItems;refine ad (nj (T:= 18#1) ⟨_,ho,hc⟩ ?_);rw[if_pos 2#0];exact ad (wpAny_seqItems ho hd (az h))
theorem lP {h h':cn}{b:ac}{xs:Array aa}(x:IsTup h b xs)(k: ∀o,h.get? b=some o->h'.get? b=some o):IsTup h' b xs:=let⟨o,ho,r⟩:=x;⟨o,k o ho,r⟩
theorem zhQ {K:Type}[DecidableEq K]{knd:KeyKind prog w K}{D I t:ac}{items:Array aa}{res:aa}{R:Result->ai->Prop}(hh:A.handled=none)(hIt:I≠t)(hDt:D≠t)(hDI:D≠I):
  ∀(zR:List (K×ac×aa)) (i:Nat) (kvs:List (K×aa)) (z:Int) (tok:nv) (s:ai),IsTupIter s.heap I t i->IsTup s.heap t items->s.heap.DictOf knd D kvs->
   items.toList.drop i=zR.map (λq=>Value.ref q.2.1)->(∀q∈zR,(∃Ap,knd.is q.1 Ap=true/\IsTup s.heap q.2.1 #[Ap,q.2.2])/\q.2.1≠I/\q.2.1≠D)->kvs.length+zR.length<=ak->
   (∀h' tk,h'.DictOf knd D (merged kvs 4#15)->(∀b o,b≠I->b≠D->s.heap.get? b=some o->h'.get? b=some o)->R (.ok (.ret res)) {s with heap:=h',toks:=tk})->
   kf 9#2 A (.builtin "dict.update.loop" ⟨[.ref D,.ref I,.int z tok,res],[]⟩) R s
 | [],i,kvs,z,tok,s,Ae,ht,hm,hd,hq,hsz,h=>by
  refine ny gI ?_;rw[lx pX _];have hx:items[i]?=none:=by
   rw[<- jd];have:items.toList.length<=i:=wv.mp hd;exact ud.mpr this
  show ay _ A.in1 3#18 _ _ _;refine ad (next_tuple_end (A:=A.in1) hh Ae ht hx λh1 k1=> ?_);show ay _ A.in1 (Builtin.Dict.addKeywords D [] >>= λ_=>ret res) _ _ _;refine ad (az (az ?_));exact h h1 s.toks (hm.at λo e=>k1 D o hDI e) λb o b1 _ e=>k1 b o b1 e
 | q::zR,i,kvs,z,tok,s,Ae,ht,hm,hd,hq,hsz,h=>by
  refine ny gI ?_;rw[lx pX _];obtain⟨⟨Ap,hk,hb⟩,hbI,hbD⟩:=hq q (.head _);have hx:items[i]?=some (Value.ref q.2.1):=by
   rw[<- jd];have:=congrArg (λl=>l[0]?) hd;simpa using this
  have hd':items.toList.drop (i+1)=zR.map (λq=>Value.ref q.2.1):=by
   have:=congrArg List.tail hd;simpa using this
  show ay _ A.in1 3#18 _ _ _;refine ad (next_tuple_item (A:=A.in1) Ae ht hx λh1 it1 sb1=> ?_);have hb1:IsTup h1 q.2.1 #[Ap,q.2.2]:=lP hb λo e=>(sb1.2 _ hbI).trans e;have hm1:h1.DictOf knd D kvs:=hm.at λo e=>(sb1.2 D hDI).trans e;dsimp only;refine ad (dj ?_);refine ad (wpAny_tryCatch (zmM (s:= {s with heap:=h1}) hb1 ?_));dsimp only;refine dj (xj (s:= {s with heap:=h1}) hk hm1 (λh2 hm2 sb2=> ?_) (by have:=hsz;simp only[bv]at this;grobner));refine az ⟨mt pX _,?_⟩;have zu:(rz kvs q.1 q.2.2).length<=kvs.length+1:=by
   unfold rz
   split <;> simp
  refine zhQ hh hIt hDt hDI zR (i+1) (rz kvs q.1 q.2.2) _ _ _ (let⟨o,ho,r⟩:=it1;⟨o,(sb2.2 I (fw hDI)).trans ho,r⟩) ?_ hm2 hd' (λq' m=> ?_) (by simp only[bv]at hsz;grobner) λh' tk a b=> ?_
  ·obtain⟨o,ho,r⟩:=ht
   exact⟨o,(sb2.2 t (fw hDt)).trans ((sb1.2 t (fw hIt)).trans ho),r⟩
  ·obtain⟨⟨key',hk',hb'⟩,hbI',hbD'⟩:=hq q' (.tail _ m)
   exact⟨⟨key',hk',lP hb' λo e=>(sb2.2 _ hbD').trans ((sb1.2 _ hbI').trans e)⟩,hbI',hbD'⟩
  ·refine h h' tk a λc o c1 c2 e=>b c o c1 c2 ((sb2.2 c c2).trans ((sb1.2 c c1).trans e))
theorem zqr {K:Type}[DecidableEq K]{knd:KeyKind prog w K}{t:ac}{n:Nat}{sl:Array 5#8}{zR:List (K×ac×aa)}{Q:aa->ai->Prop}(hh:A.handled=none)
  (ht:s.heap.get? t=some {cls:= .type 18#1,dict:=none,data:= .seq (zR.map λq=>Value.ref q.2.1).toArray n,slots:=sl})
  (hq: ∀q∈zR,∃Ap,knd.is q.1 Ap=true/\IsTup s.heap q.2.1 #[Ap,q.2.2]) (hsz:zR.length<=ak)
  (h: ∀h' tk,h'.DictOf knd s.heap.objs.size (merged [] 4#15)->(∀b o,s.heap.get? b=some o->h'.get? b=some o)->Q 4#6 {s with heap:=h',toks:=tk}):
  ay 9#2 A (call (.type 76#1) [.ref t]) Q E s:=by
 refine rg (Q₁:=λobj s₁=>obj= .ref s.heap.objs.size/\s₁= {s with heap:=s.heap.push {cls:= .type 76#1,data:= .dict #[]}}) F.kt_called_dict (wx _) ye (kt_code_dict_new _ ⟨rfl,rfl⟩) ?_;rintro obj s₁ ⟨rfl,rfl⟩;have hnew:(s.heap.push {cls:= .type 76#1,data:= .dict #[]}).DictOf knd s.heap.objs.size []:=ve s.heap;have ht1:(s.heap.push {cls:= .type 76#1,data:= .dict #[]}).get? t=some {cls:= .type 18#1,dict:=none,data:= .seq (zR.map λq=>Value.ref q.2.1).toArray n,slots:=sl} :=ap _ ht;refine⟨hnew.typeIs,xv _ _,?_⟩;unfold Builtin.«dict.__init__»;refine ad ?_;unfold Builtin.Dict.selfAndRest;refine ad (vz hnew.typeIs ?_);show ay _ _ (pure (s.heap.objs.size,[Value.ref t])) _ _ _;refine az ?_;show ay _ _ (Builtin.Dict.updateFrom "dict.__init__" s.heap.objs.size (.ref t) [] .none) _ _ _;unfold Builtin.Dict.updateFrom;refine ad (nj (T:= 18#1) ⟨_,ht1,rfl⟩ ?_);rw[if_pos 2#0];refine ad (zrY ht1 hh λh1 tk k1=> ?_);rw[if_pos (show(none:Option aa).isNone=true from rfl)];refine ad (oy ?_);have ht2:=k1 _ _ ht1;have hD1:h1.DictOf knd s.heap.objs.size []:=hnew.at λo e=>k1 _ o e;refine ad (iter_tuple (s:= {s with heap:=h1,toks:=tk}) ⟨_,ht2,rfl,_,rfl⟩ ?_);have lD:s.heap.objs.size < h1.objs.size:=by obtain⟨o,es,ep,ho,_⟩:=id hD1;exact be ho
 have lt:t < s.heap.objs.size:=be ht;refine az ⟨mt pX _,?_⟩;refine zhQ (A:=A.in1) (knd:=knd) (t:=t) (items:=(zR.map λq=>Value.ref q.2.1).toArray) hh (gk (ir lt lD)) (gk lt) (bt lD) zR 0 [] _ _ {s with heap:=h1.push {cls:= .type "tuple_iterator",data:= .fields #[.ref t,.int 0 0]},toks:=tk} ⟨_,cm _ rfl,rfl,rfl⟩ ⟨_,ap _ ht2,rfl,_,rfl⟩ (hD1.push _) 3#0 (λq m=> ?_) (by simpa using hsz) λh' tk' a b=> ?_
 ·obtain⟨Ap,hk,hb⟩:=hq q m
  have lb:q.2.1 < s.heap.objs.size:=hb.lt;exact⟨⟨Ap,hk,lP hb λo e=>ap _ (k1 _ _ (ap _ e))⟩,bt (ir lb lD),bt lb⟩
 ·refine⟨rfl,h h' tk' a λc o e=> ?_⟩
  have lc:=be e;exact b c o (bt (ir lc lD)) (bt lc) (ap _ (k1 _ _ (ap _ e)))
end
set_option maxHeartbeats 4000000
section
variable {X:Cx} {zc:List (ac×af)} {σ:St} {H:Hp} {s:ai}
def iU (K:Frag)(H:Hp):List ac->List (z8×V)->Prop:=Paired λa (q:z8×V)=>xT K H a [kV q.1,q.2]
theorem zfM: ∀{as:List ac} {zf:List aa},zJ (as.map V.ref) zf->zf=as.map Value.ref
 | [],_,.nil=>rfl
 | a::as,_,.cons r t=>by
  cases r;rw[zfM t];rfl
theorem zfN {zc:List 7#3}{σ:St}(ok:z4 X zc σ H s): ∀{as:List ac} {ps:List (z8×V)},iU X.K H as ps->
  ∃zR:List (z8×ac×aa),zR.map (·.2.1)=as/\KV ps 4#15/\∀q∈zR,∃Ap,(wD X.prog X.w).is q.1 Ap=true/\IsTup s.heap q.2.1 #[Ap,q.2.2]
 | _,_,.nil=>⟨[],rfl,.nil,λ_ m=>nomatch m⟩
 | a::as,q::ps,.cons e t=>by
  obtain⟨zR,r1,r2,r3⟩:=zfN ok t;obtain⟨zf,rv,tp,_⟩:=ok.tuple e;obtain⟨u1,u2,rfl,g1,g2⟩:=rv.two;refine⟨(q.1,a,u2)::zR,by rw[av,r1],.cons ⟨rfl,g2⟩ r2,λq' m=> ?_⟩;rcases bo.mp m with rfl | m
  ·exact⟨u1,rS g1,tp⟩
  ·exact r3 q' m
theorem zqq (hc:X.calm=true):wA X (.type 76#1) (λxs H Q=> ∃(t:ac) (as:List ac) (ps:List (z8×V)),xs= [.ref t]/\xT X.K H t (as.map V.ref)/\iU X.K H as ps/\∀p,H p=none->Q 3#13 (upd H p (.dK (uH [] ps)))):=by
 intro zc s σ H xs us Q I r h;obtain⟨t,as,ps,rfl,ht,hp,q⟩:=h;obtain⟨u,rfl,ru⟩:=o7 r;cases ru;obtain⟨zf,rv,⟨o,e1,e3,n,e4,hd⟩,hz⟩:=I.tupleD ht;cases zfM rv;obtain⟨zR,r1,r2,r3⟩:=zfN I hp;have hl:=zlV r2;rw[ae]at hl;have hz':zR.length<=ak:=by
  rw[ae,<- r1,ae]at hz;exact hz
 obtain⟨c,dct,dat,sl⟩:=o;dsimp only at hd e3 e4;subst hd e3 e4;have ea:as.map Value.ref=zR.map λq=>Value.ref q.2.1:=by rw[<- r1,bx];rfl
 rw[ea]at e1;refine zqr (knd:=wD X.prog X.w) 1#12 e1 r3 hz' λh' tk dd k=> ?_;refine⟨.ref s.heap.objs.size,_,I.laid (t':=tk) (o:= .dK (uH [] ps)) k (ar _) ?_,rfl,q _ I.fresh⟩;refine nY ?_ (beq_eq_false_iff_ne.mpr (fw (bt I.big))) (KV.merge r2 .nil) dd;have:=mJ ps [];simp only[jm,xw]at this;exact bh this (by rw[hl];exact hz')
end
set_option maxHeartbeats 4000000
set_option maxHeartbeats 4000000
def zoM:List (Str×Int)->Str->Int
 | [],_=>0
 | q::l,x=>if q.1=x then q.2 else zoM l x
set_option maxHeartbeats 4000000
set_option maxHeartbeats 4000000
set_option maxHeartbeats 4000000
abbrev wO:List aa:= [.type 27#1,.type "Exception",.type 19#1,.type "object"]
abbrev v7 (C:ac)(od:Option ac)(t:ac):af:= {cls:= .ref C,dict:=od,data:= .fields #[.ref t,.none,.none,.none,.bool false,.none]}
section
variable {prog:ce} {w:ci} {A:cw} {h:cn} {g:Array uk} {d:Drawn} {t:Nat} {os:lz}
variable {nm q:Str} {C N f:ac} {bs bm:List aa} {hdct:Bool} {sn:List Str} {sub:List aa} {ab:Bool} {col:Option Bool} {dd:Option ac} {k0 k1 k2 k3 k5:Option aa}
theorem zrd {R:Result->ai->Prop}{zR:List aa}(T:OwnTail h wO bm)(hC:h.get? C=some (jj nm q C N bs bm hdct sn sub ab col dd k0 k1 k2 k3 k5 22#1))
  (hi:PySem.W.Looks 9#2 h (typeLookup 5#5 7#1) (some 2#8)) (hb: ∀self,PySem.W.Looks 9#2 h (bindSpecial 2#8 self) (.ref f,[self])) (hrest:zR.length<=ak)
  (hq:kf 9#2 (A.under (.builtin 85#1 ⟨.ref C::zR,[]⟩)) (.call 2#8 ⟨.ref (h.objs.size+1)::zR,[]⟩) (PySem.W.InitBack (h.objs.size+1) R)
   ⟨(h.push {cls:= .type 18#1,data:= .seq zR.toArray}).push (v7 C none h.objs.size),g,d,t,os⟩):
  kf 9#2 A (.call 5#5 ⟨zR,[]⟩) R ⟨h,g,d,t,os⟩:=by
 have F:=sw;have c1:=tc_lookup;have c2:=tc_bind 5#5;have ty:(⟨h,g,d,t,os⟩:ai).TypeIs 5#5 "type" :=⟨_,hC,rfl⟩;have self:(Value.ref C::bm).contains 5#5=true:=3#0
 refine codeAny_of_tree ?_;show ay _ _ (callAny 5#5 _) _ _ _
 repeat(any_goals (first | assumption | with_reducible refine gx hC ?_ | wp_step))
 refine⟨rfl,codeAny_call_builtin_at (xx _ 1#0) entry_typeCall (wpAny_check_type_call_sub hC ?_)⟩
 repeat(first | with_reducible refine gx hC ?_ | with_reducible refine wpAny_madeBy_exc hC ?_ | wp_step)
 refine codeAny_call_builtin_code (xx _ F.quiet) (wpAny_check_new_subT F T hC (codeAny_exc_new_subT F T hC ?_ hrest));have kp: ∀b o,h.get? b=some o->((h.push {cls:= .type 18#1,data:= .seq zR.toArray}).push (v7 C none h.objs.size)).get? b=some o:=λb o e=>ap _ (ap _ e);have eC:=kp _ _ hC;have eX:((h.push {cls:= .type 18#1,data:= .seq zR.toArray}).push (v7 C none h.objs.size)).get? (h.objs.size+1)=some {cls:= .ref C,data:= .fields #[.ref h.objs.size,.none,.none,.none,.bool false,.none]} :=by heap_get
 have i1:=hi.keeps kp;have b1:=(hb (.ref (h.objs.size+1))).keeps kp;show ay _ _ _ _ _ ⟨(h.push {cls:= .type 18#1,data:= .seq zR.toArray}).push {cls:= .ref C,data:= .fields #[.ref h.objs.size,.none,.none,.none,.bool false,.none]},g,d,t,os⟩;unfold isInstance
 repeat(first | (with_reducible refine gx eX ?_;dsimp only) | (with_reducible refine mj eC ?_;rw[self]) | wp_step)
 show ay _ _ (typeLookup 5#5 _) _ _ _;refine PySem.W.Looks.at i1 ?_;refine dj (ad (PySem.W.Looks.at b1 ?_));refine ad (lw (lj hq λr s' z=> ?_));rcases r with e | (v | _ | _ | _) <;> first | exact z | exact z.elim | skip
 obtain⟨rfl,z⟩:=z;exact az (az z)
end
set_option maxHeartbeats 4000000
section
variable {prog:ce} {w:ci} {A:cw} {E:aa->ai->Prop} {h:cn} {g:Array uk} {d:Drawn} {t:Nat} {os:lz}
variable {nm q:Str} {C N f e:ac} {bs bm:List aa} {hdct:Bool} {sn:List Str} {sub:List aa} {ab:Bool} {col:Option Bool} {dd od:Option ac} {k0 k1 k2 k3 k5:Option aa} {t0:ac}
theorem zrc {Q:aa->ai->Prop}{x:aa}(T:OwnTail h wO bm)(hC:h.get? C=some (jj nm q C N bs bm hdct sn sub ab col dd k0 k1 k2 k3 k5 22#1))
  (he:h.get? e=some (v7 C od t0))
  (hq: ∀h',(∀b o,b≠e->h.get? b=some o->h'.get? b=some o)->h'.get? e=some (v7 C od h.objs.size)->Q .none ⟨h',g,d,t,os⟩):
  ay 9#2 A (call (.builtin "ValueError.__init__") [.ref e,x]) Q E ⟨h,g,d,t,os⟩:=by
 have F:=sw;refine lw (qo F.init.plain F.initEntry (wpAny_check_init_subT F T hC he rfl ?_))
 wp_walk
 refine hq _ (λb o hb eb=> ?_) ?_
 ·rw[cj _ _ (fw hb)]
  exact ap _ eb
 ·rw[fb _ (ap _ he) rfl]
  rfl
end
set_option maxHeartbeats 4000000
open Builtin Builtin.ObjectAttr
theorem zvT (self:aa):PySem.refuseLoop self "__setattr__" wO=pure ():=by kernel_rfl
section
variable {prog:ce} {w:ci} {A:cw} {E:aa->ai->Prop} {s:ai} {K:Frag} {C HE e t0:ac} {cd:ClassData} {name:Str} {v:aa}
theorem zre {Q:Unit->ai->Prop}(X:K.In s.heap)(he:s.heap.get? e=some (v7 C none t0))(hcl:clsIn K C=some cd)(hm:cd.mro= .ref C:: .ref HE::wO)(hd:cd.hasDict=true)
  (hs:findIn K 5#5 "__setattr__" =some 3#12) (ha:findIn K 5#5 name=some none)
  (h: ∀h',(∀b o,b≠e->s.heap.get? b=some o->h'.get? b=some o)->h'.get? e=some (v7 C (some s.heap.objs.size) t0)->h'.Ns1 s.heap.objs.size (λy=>if y=name then some v else none)->
   Q () {s with heap:=h',toks:=s.toks+2}):ay 9#2 A (setAttr 4#9 name v) Q E s:=by
 have J:InstAt s.heap e (v7 C none t0) C none:=⟨he,rfl,rfl,trivial⟩;refine PySem.W.set_plain X J hs ?_;have SF:=PySem.F.store_object;have hmro:PySem.W.Looks 9#2 s.heap (mroOf 5#5) cd.mro:=(xl X hcl).andThen .now;have sub:PySem.W.Looks 9#2 s.heap (isInstance 4#9 (.type "object")) true:=J.type.andThen (xm X (by unfold mroIn;rw[hcl,mh,hm];rfl));refine qo SF.slot.plain SF.entry (@check_slot 9#2 _ _ {s with toks:=s.toks+1} "object.__setattr__" "object" "__setattr__" 4#9 [.str name s.toks,v] [] _ SF.kind SF.split sub (SF.args 4#9 (.str name s.toks) v) ?_);rw[PySem.W.osa_eq,refuse_eq];refine ad (ad (mx (s:= {s with toks:=s.toks+1}) J.type (ad (mx (s:= {s with toks:=s.toks+1}) hmro ?_))));rw[hm,refuseLoop_ref,refuseLoop_ref,zvT];refine az (ad (mx (s:= {s with toks:=s.toks+1}) J.type (ad (mx (s:= {s with toks:=s.toks+1}) (uv X ha) (ad (az ?_))))));refine ad (az (ad (ad (wpAny_loadPart he (ad (mx (s:= {s with toks:=s.toks+1}) (xl X hcl) ?_))))));rw[hd];have lte:e < s.heap.objs.size:=be he;have ne:s.heap.objs.size≠e:=gk lte;show ay _ _ (alloc {cls:= .type 76#1,data:= .dict #[]} >>= _) _ _ _;refine ad (wpAny_alloc (ad (wpAny_update (ap _ he) ?_)));dsimp only;generalize hh:(s.heap.push {cls:= .type 76#1,data:= .dict #[]}).update e (λo=> {cls:=o.cls,dict:=some s.heap.objs.size,data:=o.data,slots:=o.slots})=h2;have e2:h2.get? e=some (v7 C (some s.heap.objs.size) t0):=by
  rw[<- hh,fb _ (ap _ he) rfl]
 have d2:h2.get? s.heap.objs.size=some {cls:= .type 76#1,data:= .dict #[]} :=by
  rw[<- hh,cj _ _ (fw ne)];exact cm _ rfl
 have k2: ∀b o,b≠e->s.heap.get? b=some o->h2.get? b=some o:=λb o hb q=>by
  rw[<- hh,cj _ _ (fw hb)];exact ap _ q
 have n2:h2.Ns1 s.heap.objs.size (λ_=>none):=Heap.Ns1.of_empty ⟨_,#[],_,d2,rfl,(λx hx=>absurd hx 3#0),λ_=>rfl⟩;refine az (a:=some s.heap.objs.size) (ad (az (ad ?_)));refine wpAny_nsSet1 (s:= {s with heap:=h2,toks:=s.toks+1}) n2 λh' hn3 hs3=> ?_;obtain⟨oD,esD,epD,hoD,hdD,hcD⟩:=hn3.count (ns:= [name]) (PySem.Within.cons name v (λy hy=>absurd rfl hy));refine ad (wpAny_lookBehind hoD (by rw[hdD];exact pastItsLine_dict (bh hcD (by show 1<=ak+1;decide))) ?_);exact az (h _ (λb o hb q=>(hs3.2 b (bt (be q))).trans (k2 b o hb q)) ((hs3.2 e (fw ne)).trans e2) hn3)
end
set_option maxHeartbeats 4000000
theorem znE:Slot 19#1 30#1 9#1 :=
 .of (owner:= 19#1) (n:= 30#1) (by rw[ik,fm];kernel_rfl) 1#0 1#0 1#0
  (by first | exact .inl 1#0 | exact .inr 1#0) (by rw[jw];kernel_rfl)
theorem zsb:builtinKind 9#1 =some .slot:=1#0
theorem zwN:splitId 9#1 =some (19#1,30#1):=1#0
theorem zsU:(Value.builtin 9#1 ==Value.builtin "object.__getattribute__")=false:=1#0
set_option maxHeartbeats 4000000
section
variable {prog:ce} {w:ci} {A:cw} {E:aa->ai->Prop} {s:ai} {K:Frag} {C HE e:ac} {cd:ClassData} {ox:af} {odo:Option af}
theorem zrb {Q:Option aa->ai->Prop}(X:K.In s.heap)(J:InstAt s.heap e ox C odo)(hcl:clsIn K C=some cd)(hm:cd.mro= .ref C:: .ref HE::wO)
  (hga:findIn K 5#5 30#1 =some (some (.builtin 9#1))) (hk:findIn K 5#5 "__getattr__" =some none)
  (hf:findObj K C odo "__class__" =some (.bind (.builtin 83#1) 0#18)) (h:Q (some 5#5) {s with toks:=s.toks+1}):
  ay 9#2 A (getAttr? 4#9 "__class__") Q E s:=by
 obtain⟨hp,g,d,t,os⟩:=s;have L0:=J.type (M:=bc prog w);have L1:=uv (M:=bc prog w) X hga;have L2':=PySem.W.looks_find (M:=bc prog w) X J hf;have L3:=uv (M:=bc prog w) X hk;have mro: ∀T,wO.contains (.type T)=true->mroIn K C (.type T)=some true:=λT hT=>by
  unfold mroIn;rw[hcl,mh,hm,if_neg 3#0];rw[my,my,hT];simp
 have sub:PySem.W.Looks 9#2 hp (isInstance 4#9 (.type 19#1)) true:=L0.andThen (xm X (mro _ rfl));have hb:PySem.W.Looks 9#2 hp (hookBefore 5#5) none:=by
  unfold hookBefore;rw[if_pos 4#0];exact L3
 unfold getAttr? getAttrBy? getAttrBy;refine ad (xu (ad (ln (dj (ad (L0.at (ad (L1.at ?_))))))));dsimp only;rw[zsU,yx,if_neg 2#0];refine ad (hb.at (ad (ln (dj ?_))));unfold callGetattribute;rw[yw,if_neg 2#0];unfold boundAndCalled;rw[znE.bind];refine ad (az ?_);show ay _ _ (call (.builtin 9#1) [.ref e,.str "__class__" t]) _ _ _;refine lw (qo znE.plain PySem.F.entry_bexc_ga ?_);refine @check_slot 9#2 _ _ ⟨hp,g,d,t+1,os⟩ 9#1 19#1 30#1 4#9 [.str "__class__" t] [] _ zsb zwN sub (PySem.F.args_bexc_ga 4#9 (.str "__class__" t)) ?_;refine ad (az (ad (az (ad (L0.at (ad (L2'.at ?_)))))));show ay _ _ (holding [_] (call (.builtin 83#1) [.builtin 37#1,.ref e,.ref C]) >>= ret) _ _ _;refine ad (dj (lw (PySem.W.class_get (s:=⟨hp,g,d,t+1,os⟩) (ox:=ox) (od:=odo) X J (mro _ rfl) (az ?_))));show ay _ _ (handedOut 5#5) _ _ _;rw[PySem.W.handedOut_of rfl];exact az (az h)
end
set_option maxHeartbeats 4000000
abbrev TJ:=St->Hp->Str->VK->Prop
structure PJ (X:Cx)(es:List Expr)(t:TJ):Prop where
 run: ∀(zc:List 7#3) (s:ai) (σ:St) (H:Hp) (Q:VK) (out:Str),z4 X zc σ H s->t σ H out Q->ay 1#2 X.A (joinParts out (evalEach es X.env)) 7#4 X.xe s
section
variable {X:Cx} {e e2:Expr} {es:List Expr} {te:TE} {t:TJ} {pos:fe}
theorem zuI:PJ X [] (λ_ H out Q=>out.length<=ak/\Q (.str out) H):=⟨λzc s σ H Q out I h=>joinParts_nil ⟨.str out,H,I.tok _,⟨_,rfl⟩,h.2⟩ h.1⟩
theorem zfy (he:PE X e te)(hr:PJ X es t)(hs:evalEach (e::es) X.env=eval e X.env::evalEach es X.env:=by rfl):
  PJ X (e::es) (λσ H out Q=>te σ H λv H1=> ∃y,v= .str y/\(out++y).length<=ak/\t σ H1 (out++y) Q):=⟨λzc s σ H Q out I h=>by
 rw[hs];refine joinParts_cons (zL 1#8 λv s1 ⟨x,H1,I1,r,y,ey,hz,q⟩=> ?_);subst ey;obtain⟨tk,rfl⟩:=r;exact⟨hz,hr.run zc s1 σ H1 Q _ I1 q⟩⟩
theorem zuv (h:PJ X (e::e2::es) t)(hs:evalEach (e::e2::es) X.env=eval e X.env::eval e2 X.env::evalEach es X.env:=by rfl):PE X (.JoinedStr (e::e2::es) pos) (λσ H Q=>t σ H Str.empty Q):=
 ⟨λzc s σ H Q I q=>JoinedStr_many (by rw[<- hs];exact h.run zc s σ H Q _ I q)⟩
theorem zus (he:PE X e te):PE X (.FormattedValue e 114 none pos) (λσ H Q=>te σ H λv H1=> ∃z:Str,v= .str z/\(reprText z).length<=ak/\Q (.str (reprText z)) H1):=
 ⟨λzc s σ H Q I h=>by
  show ay _ _ (do let v <- eval e X.env;standAt pos;formatted pos (<- holding [v] (converted 114 v)) none) _ _ s;refine ad (zL 1#8 λv s1 ⟨x,H1,I1,r,z,ez,hz,q⟩=>ad (ia ?_));subst ez;obtain⟨tk,rfl⟩:=r;refine ad (dj ?_);show ay _ _ (pyReprObj (.str z tk)) _ _ _;refine wpAny_pyReprObj_str ?_ hz;unfold formatted;exact formatField_str (λt' k=>⟨.str (reprText z),H1,I1.tok _,⟨_,rfl⟩,q⟩) hz⟩
end
def zpE (e C:ac)(od:Option ac):cn->Prop:=λh=> ∃t,h.get? e=some (v7 C od t)
abbrev wI (e C:ac)(od:Option ac):HO:= .ext (zpE e C od)
theorem xok {P:ce}{w:ci}{H:Hp}{h:cn}{e C t:ac}{od:Option ac}(q:h.get? e=some (v7 C od t)):xZ P w H h e (wI e C od):=
 ⟨⟨t,q⟩,⟨_,q⟩,λh1 h2 ⟨t',q'⟩ k=>⟨t',k _ q'⟩⟩
theorem z4.exc {X:Cx}{zc:List 7#3}{σ:St}{H:Hp}{s:ai}{e C:ac}{od:Option ac}(I:z4 X zc σ H s)(h:H e=some (wI e C od)): ∃t,s.heap.get? e=some (v7 C od t):=(I.hok e _ h).1
structure uV (K:Frag)(HE:ac):Prop where
 tail: ∀h:cn,K.In h->OwnTail h wO (.ref HE::wO)
 reads:readsIn K HE (.type "type")=true
 find:findCls K (.ref HE) (.type "type") 7#1 =some (.val (.builtin "ValueError.__init__"))
 ga:specialIn K (.ref HE) 30#1 =some (some (.builtin "type.__getattribute__"))
 dget:specialIn K 0#18 "__get__" =some (some (.builtin 83#1))
 dset:takesIn K 0#18=some true
theorem zxr {K:Frag}{HE NH:ac}{oc oc2:aa}{od od2:Option ac}{cd:ClassData}{sl sl2:Array 5#8}{es:Array rq}{ep:Nat}(l:K.lookup HE=some ⟨oc,od,.cls cd,sl⟩)(hn:cd.ns=NH)
  (l2:K.lookup NH=some ⟨oc2,od2,.dict es ep,sl2⟩) (hk:(es.toList.all λe=>match e.key with | .str _ _=>true | _=>false)=true) (hni:nsFind es 7#1 =none) {h:cn} (X:K.In h):OwnTail h wO (.ref HE::wO):=by
 subst hn;refine .own (X _ _ l) ⟨_,es,ep,X _ _ l2,rfl,λe he=> ?_,λ_=>rfl⟩ hni .base;have q:=la.mp hk e (wy.mpr he);cases hkey:e.key with
 | str n t=>exact⟨n,t,rfl⟩
 | _=>rw[hkey]at q;cases q
structure xN (K:Frag)(HE C:ac):Prop where
 ob: ∃(nm q:Str) (N:ac) (bs:List aa) (sn:List Str) (sub:List aa) (ab:Bool) (col:Option Bool) (dd:Option ac) (k0 k1 k2 k3 k5:Option aa),
  K.lookup C=some (jj nm q C N bs (.ref HE::wO) true sn sub ab col dd k0 k1 k2 k3 k5 22#1)
 kp:keepIn K 5#5=true
 sa:findIn K 5#5 "__setattr__" =some 3#12
 ga:findIn K 5#5 30#1 =some (some (.builtin 9#1))
 gg:findIn K 5#5 "__getattr__" =some none
 cc:findIn K 5#5 "__class__" =some (some 0#18)
theorem xN.cls {K:Frag}{HE C:ac}(x:xN K HE C): ∃cd,clsIn K C=some cd/\cd.mro= .ref C:: .ref HE::wO/\cd.hasDict=true:=by
 obtain⟨nm,q,N,bs,sn,sub,ab,col,dd,k0,k1,k2,k3,k5,l⟩:=x.ob;exact⟨_,by unfold clsIn;rw[l],rfl,rfl⟩
structure sO (K:Frag)(C f:ac):Prop where
 init:findIn K 5#5 7#1 =some (some 2#8)
 fn:isFn K 2#8=true
section
variable {X:Cx} {CX:uC} {k:Nat} {f C HE:ac} {fd:bu} {ps:List Str} {sp:Sp} {ds:List aa} {dvs:List V} {E:XK}
variable {x:Str} {p pos Af pos':fe} {e o value:Expr} {es:List Expr} {te ta tv:TE} {t:TA}
def zxb (K:Frag)(HE:ac)(t:TA):TE:=λσ H Q=>t σ H λvs H2=> ∃e C od y,vs= [.ref e,y]/\H2 e=some (wI e C od)/\xN K HE C/\Q .non H2
theorem z4.exc_upd {zc:List 7#3}{σ:St}{H:Hp}{s:ai}{h':cn}{e0 C0 t1 t':ac}{od:Option ac}(I:z4 X zc σ H s)(h:H e0=some (wI e0 C0 od))(kp: ∀b o,b≠e0->s.heap.get? b=some o->h'.get? b=some o)
  (q:h'.get? e0=some (v7 C0 od t1)):z4 X zc σ H {s with heap:=h',toks:=t'} :=by
 have z:=I.write (x:=e0) (e:=e0) (o:=wI e0 C0 od) (t':=t') (h':=h') (by rw[h];exact trivial) 5#9 kp ⟨_,q⟩ (xok q);have e1:upd H e0 (wI e0 C0 od)=H:=by
  funext b
  by_cases hb:b=e0
  ·rw[hb,yM,h]
  ·rw[yD hb]
 rw[e1]at z;exact z
theorem zfr {pl:Sem Bool}(T:uV X.K HE)(hg:Gl X x)(hm:X.mg x=some (.ref HE))(ha:PA X (e::es) t)
  (ht:eval (.Call (.Attribute (.Name x p) 7#1 Af) (e::es) [] pos) X.env=(do
   let ov <- eval (.Name x p) X.env
   standAt Af.atName
   let(f,first) <- holding [ov] (getMethod ov 7#1 pl)
   callWith pos f first (backTo pos (starEach (e::es) X.env)) (backToKw pos (keywordEach [] X.env))):=by rfl)
  (hs:starEach (e::es) X.env=5#3::starEach es X.env:=by rfl) (hplain:(backTo pos 1#4).any (·.1)=false:=by rfl) (hdb:8#3=false:=by decide):
  PE X (.Call (.Attribute (.Name x p) 7#1 Af) (e::es) [] pos) (zxb X.K HE t):=⟨λzc s σ H Q I h=>by
 refine PySem.W.methodCall_KW (pl:=pl) (qU I hg hm ?_ hdb) ht;refine PySem.W.method_cls I.kIn T.ga (PySem.W.cls_value I.kIn T.reads T.find rfl ?_);have hA:=ha.run pos zc _ σ H _ (I.tok (s.toks+1)) h;rw[hs]at hA⊢
 refine pk (by show(false||(backTo pos 1#4).any (·.1))=false;rw[hplain] <;> rfl) (wn ?_);refine zL hA λus s2 ⟨vs,H2,I2,r2,e0,C0,od,y,ev,he,M,q⟩=> ?_;subst ev;obtain⟨u1,u2,rfl,ru1,ru2⟩:=zJ.two r2;cases ru1;obtain⟨nm,qn,N,bs,sn,sub,ab,col,dd,k0,k1,k2,k3,k5,l⟩:=M.ob;obtain⟨t0,eX⟩:=I2.exc he;obtain⟨hp,g,d,tk,os⟩:=s2;exact zrc (T.tail hp I2.kIn) (I2.kIn _ _ l) eX λh' kp q'=>⟨.non,H2,I2.exc_upd (t':=tk) he kp q',rfl,q⟩⟩
def zvZ (K:Frag)(HE:ac)(ta tv:TE)(f:Str):TS:=λD σ H=>tv σ H λy H1=>ta σ H1 λx H2=> ∃e C,x= .ref e/\H2 e=some (wI e C none)/\xN K HE C/\bH K C f/\
 ∀dx,H2 dx=none->D.nx σ (upd (upd H2 dx (.xd [(f,y)])) e (wI e C (some dx)))
theorem zuQ {f:Str}(ha:PE X o ta)(hv:PE X value tv)(hs:swapsWith value (some (.Attribute o f pos')) pos.line X.env=pure false):PS X (.Assign [.Attribute o f pos'] value pos) (zvZ X.K HE ta tv f):=⟨λzc s σ H D I h=>by
 refine plainObj_wpAny_Assign_Attribute (zL (hv zc s σ H _ I h) λu s1 ⟨y,H1,I1,ry,q⟩=>zL (ha zc s1 σ H1 _ I1 q) λov s2 ⟨x,H2,I2,rx,e0,C0,ex,he,M,n,q2⟩=> ?_) hs;subst ex;obtain rfl:ov=Value.ref e0:=rx;obtain⟨cd,hcl,hm,hd⟩:=M.cls;obtain⟨t0,eX⟩:=I2.exc he;refine zre I2.kIn eX hcl hm hd M.sa n λh' kp q' ns=> ?_;have fr:H2 s2.heap.objs.size=none:=I2.hok.fresh (ar _);have ne:e0≠s2.heap.objs.size:=bt (be eX);obtain⟨oD,_,_,eD,_⟩:=id ns;refine⟨σ,_,?_,q2 _ fr⟩;have nD:Un X.fs [] H2 (upd (upd H2 s2.heap.objs.size (.xd [(f,y)])) e0 (wI e0 C0 (some s2.heap.objs.size))) s2.heap h':=by
  have low: ∀{b:ac} {ob:af},s2.heap.get? b=some ob->b≠s2.heap.objs.size:=λz=>bt (be z);refine⟨λb ob z n' _ _=>kp b ob (λw=>by rw[w,he]at n';cases n') z,λb ob z n' _ _=>⟨ob.slots,kp b ob (λw=>by rw[w,he]at n';cases n') z⟩,λb ob z n' _=> ?_,λb ob z _=> ?_,λb xs z=> ?_,λb ob v z=> ?_,λb ps z=> ?_⟩
  ·have:b≠e0:=λw=>by rw[w,he]at n';cases n'
   rw[yD this,yD (low z)];exact n'
  ·by_cases hb:b=e0
   ·exact⟨_,hb▸q'⟩
   ·exact⟨_,kp b ob hb z⟩
  ·have w1:b≠e0:=mO z he (by intro w;cases w)
   rw[yD w1,yD (u9 z fr)];exact z
  ·have w1:b≠e0:=mO z he (by intro w;cases w)
   rw[yD w1,yD (u9 z fr)];exact z
  ·have w1:b≠e0:=mO z he (by intro w;cases w)
   exact⟨#[],by rw[yD w1,yD (u9 z fr),z];simp⟩
 refine I2.un (t':=s2.toks+2) nD λb u z=> ?_;by_cases hb:b=e0
 ·subst hb;rw[yM]at z;cases z;exact xok q'
 ·rw[yD hb]at z
  by_cases hb2:b=s2.heap.objs.size
  ·subst hb2;rw[yM]at z;cases z
   refine⟨_,ns,λg'=> ?_⟩;show uE (List.lookup g' [(f,y)]) (if g'=f then some _ else none);by_cases hg:g'=f
   ·subst hg;simp[List.lookup,uE];exact ry
   ·have:(g'==f)=false:=by simpa using hg
    rw[if_neg hg];simp[List.lookup,this,uE]
  ·rw[yD hb2]at z
   refine(I2.hok b u z).stay (λc v hc w=>kp c v ?_ w) (λc w=> ?_) λc xs w=> ?_
   ·rintro rfl
    rcases hc with w' | w'
    ·exact hb w'.symm
    ·rw[he]at w';cases w'
   ·rw[yD (mO w he (by intro w';cases w')),yD (u9 w fr)];exact w
   ·rw[yD (mO w he (by intro w';cases w')),yD (u9 w fr)];exact w⟩
def nX:V->Option aa
 | .ref a=>some 8#9
 | .ty n=>some (.type n)
 | _=>none
theorem zq7 {c:V}{u cv:aa}(h:nX c=some cv)(r:zO c u):u=cv:=by
 cases c with
 | ref a=>cases r;exact cf h
 | ty n=>cases r;exact cf h
 | _=>cases h
end
end L2
set_option maxHeartbeats 0
namespace Hd
noncomputable section
open PySem PySem.W L2
abbrev pg:ce:=PySem.Challenge.pw_copiedhouse_k72_joins_exchanged
def tp (i:Nat):cu:=pg.main.body.getD i (.Pass ⟨0,0,0,0⟩)
def vE (i j:Nat):cu:=zr_ (tp i) j
def en (P:fq)(x:Str)(t:Nat)(v:aa):rq:=⟨PyData.keyHash P x,.str x t,v⟩
def tu (l:List aa):af:=⟨.type 18#1,none,.seq l.toArray 0,#[]⟩
def fl (l:List aa):af:=⟨.none,none,.fields l.toArray,#[]⟩
def co (l:List aa):af:=⟨.type "code",none,.fields l.toArray,#[]⟩
def fn (n q:Str)(s:cu)(g:Nat)(cl:List (Str×ac))(d k dc pm:aa)(an:Option ac)(cd ct:aa)(b:Nat):bu:= {name:=n,qualname:=q,params:=pO s,body:= .stmts (sR s),scope:=zQ s,globals:=g,closure:=cl,defaults:=d,kwdefaults:=k,doc:=dc,pyModule:=pm,annotations:=an,code:=cd,closureTuple:=ct,builtins:=b}
def fu (f:bu):af:=⟨.type "function",none,.func f,#[]⟩
def fp (f:bu):af:=⟨.none,none,.func f,#[]⟩
def li:Life:= {}
abbrev an:Option aa:=some (.ref 6)
def ev:ly:= {scope:=pg.main.scope,locals:=mainNs,globals:=mainNs,cells:= [],code:= .ref 13,frame:=some 14}
abbrev cE:Code:= .body (behindTheImports pg) ev
abbrev B:List Frame:= [topFrame ⟨0,0,0,0⟩]
abbrev gs:Array uk:=Array.mk []
def yG (n q:Str)(t l a b r r2:Nat)(x y z:aa)(f k:Nat):af:=co [.str n t,.str q (t+1),.str "/claim/cut.py" (t+2),.int l 0,.int a 0,.int 0 0,.int 0 0,.int 3 0,.ref r,.bool true,.int b 0,.ref r2,x,y,z,.ref f,.int k 0,.int l 0,.str "/claim/cut.py" (k+1)]
def yH (n q:Str)(s:cu):af:=fp (fn n q s 0 [] .none .none .none .none none .none .none 0)
def yI (n q:Str)(s:cu)(m:Str)(t c:Nat):af:=fu (fn n q s 3 [] .none .none .none (.str m t) none (.ref c) .none 0)
def dc (l:List rq)(n:Nat):af:=⟨.type 76#1,none,.dict l.toArray n,#[]⟩
def sW (x:Nat):af:=⟨.type "super",none,.fields #[.ref x,.ref x,.ref x],#[]⟩
def sU (x:Nat):af:=⟨.type "builtin_function_or_method",none,.fields #[.builtin "object.__init_subclass__",.ref x],#[]⟩
def sV:af:=⟨.type "builtin_function_or_method",none,.fields #[.builtin "type.__prepare__",.type "type"],#[]⟩
def xJ (a b:Nat)(m:Str)(t:Nat):af:=⟨.type "frame",none,.plain,#[some 8#9,some (.ref 3),some (.ref b),none,some (.str m t),none,some (.ref 0)]⟩
def tZ (n:Str)(t l r s:Nat):af:=co [.str n t,.str n (t+1),.str "/claim/cut.py" (t+2),.int l 0,.int 0 0,.int 0 0,.int 0 0,.int 0 0,.ref r,.bool false,.int 181 0,.ref s,.none,.none,.none,.none,.int (t+3:Nat) 0,.int l 0,.str "/claim/cut.py" (t+4)]
def rQ (P:fq)(t:Nat)(m:Str)(tm:Nat)(n:Str)(l ti i ts s:Nat):af:=dc [en P "__module__" t (.str m tm),en P "__qualname__" (t+2) (.str n (t+1)),en P "__firstlineno__" (t+4) (.int l (t+3)),en P 7#1 ti (.ref i),en P "__static_attributes__" ts (.ref s)] 5
def hdb (P:fq)(t:Nat)(m:Str)(tm l ti i ts s:Nat):af:=dc [en P "__module__" t (.str m tm),en P "__firstlineno__" (t+4) (.int l (t+3)),en P 7#1 ti (.ref i),en P "__static_attributes__" ts (.ref s),en P "__doc__" (ts+1) .none] 2
def hcl (n:Str)(e c d b t u:Nat):af:=⟨.type "type",none,.cls ⟨n,[.ref e],[.ref c,.ref e,.type 27#1,.type "Exception",.type 19#1,.type "object"],d,n,true,[],[],false,none,false⟩,#[some (.ref b),none,some (.str n t),some (.str n u),some (.builtin 22#1),some (.bool true)]⟩
abbrev lf (o:af):BT:= .node o .nil .nil
def f3 (P:fq):af:=dc [en P "__name__" 165 (.str 1#1 649),en P "__doc__" 166 (.none),en P "__package__" 167 (.none),en P "__loader__" 168 (.builtin "__main__.__loader__#opaque"),en P "__spec__" 169 (.none),en P "__annotations__" 170 (.ref 6),en P "__builtins__" 171 (.ref 4),en P "__file__" 173 (.str "/claim/cut.py" 172),en P "__cached__" 174 (.none),en P "HouseError" 206 (.ref 24),en P "Twice" 231 (.ref 44),en P "NoHand" 254 (.ref 63),en P "NoName" 279 (.ref 82),en P "WrongShelf" 304 (.ref 101),en P "NoSplit" 329 (.ref 120),en P "NotHeld" 354 (.ref 139),en P "Left" 379 (.ref 158),en P "TooMany" 404 (.ref 177),en P "NoTurn" 427 (.ref 196),en P "NoAsk" 450 (.ref 215),en P "terms_in" 459 (.ref 224),en P "deed_of" 466 (.ref 231),en P "shelf_of" 473 (.ref 238),en P "term_of" 480 (.ref 245),en P 49#1 488 (.ref 250),en P 62#1 496 (.ref 257),en P 32#1 502 (.ref 262),en P 36#1 508 (.ref 267),en P 61#1 530 (.ref 268),en P 60#1 542 (.ref 275),en P "look" 549 (.ref 285),en P 34#1 558 (.ref 292),en P 47#1 564 (.ref 297),en P 17#1 572 (.ref 304),en P 43#1 581 (.ref 311),en P 40#1 590 (.ref 318),en P 41#1 599 (.ref 325),en P 35#1 605 (.ref 330),en P 42#1 614 (.ref 337),en P 48#1 624 (.ref 344),en P 55#1 634 (.ref 351),en P 20#1 640 (.ref 356),en P 68#1 648 (.ref 361),en P "_law_box" 660 (.ref 368),en P 78#1 670 (.ref 375),en P 63#1 676 (.ref 380),en P 56#1 684 (.ref 387),en P 70#1 699 (.ref 394),en P 45#1 708 (.ref 401),en P 57#1 720 (.ref 408),en P 65#1 726 (.ref 413),en P 58#1 739 (.ref 420),en P 81#1 754 (.ref 427),en P "_law_row" 767 (.ref 434),en P 80#1 778 (.ref 441),en P 72#1 795 (.ref 448),en P 75#1 801 (.ref 453),en P 23#1 814 (.ref 460),en P 52#1 820 (.ref 465),en P 71#1 826 (.ref 470),en P 50#1 838 (.ref 477),en P 77#1 850 (.ref 484),en P "_law_due" 860 (.ref 491),en P "law" 874 (.ref 498)] 64
def gM:af:=tu []
def f12:af:=fl [.int 2 0,.int 0 0,.ref 20,.int 4 0,.int 0 0,.ref 33,.int 9 0,.int 0 0,.ref 52,.int 13 0,.int 0 0,.ref 71,.int 18 0,.int 0 0,.ref 90,.int 23 0,.int 0 0,.ref 109,.int 28 0,.int 0 0,.ref 128,.int 33 0,.int 0 0,.ref 147,.int 38 0,.int 0 0,.ref 166,.int 43 0,.int 0 0,.ref 185,.int 47 0,.int 0 0,.ref 204,.int 52 0,.int 0 0,.ref 223,.int 58 0,.int 0 0,.ref 230,.int 64 0,.int 0 0,.ref 237,.int 68 0,.int 0 0,.ref 244,.int 75 0,.int 0 0,.ref 249,.int 77 0,.int 0 0,.ref 256,.int 79 0,.int 0 0,.ref 261,.int 84 0,.int 0 0,.ref 266,.int 96 0,.int 0 0,.ref 284,.int 105 0,.int 0 0,.ref 291,.int 111 0,.int 0 0,.ref 296,.int 121 0,.int 0 0,.ref 303,.int 128 0,.int 0 0,.ref 310,.int 136 0,.int 0 0,.ref 317,.int 141 0,.int 0 0,.ref 324,.int 146 0,.int 0 0,.ref 329,.int 151 0,.int 0 0,.ref 336,.int 156 0,.int 0 0,.ref 343,.int 162 0,.int 0 0,.ref 350,.int 173 0,.int 0 0,.ref 355,.int 176 0,.int 0 0,.ref 360,.int 189 0,.int 0 0,.ref 367,.int 197 0,.int 0 0,.ref 374,.int 205 0,.int 0 0,.ref 379,.int 222 0,.int 0 0,.ref 386,.int 229 0,.int 0 0,.ref 393,.int 243 0,.int 0 0,.ref 400,.int 246 0,.int 0 0,.ref 407,.int 255 0,.int 0 0,.ref 412,.int 269 0,.int 0 0,.ref 419,.int 277 0,.int 0 0,.ref 426,.int 292 0,.int 0 0,.ref 433,.int 301 0,.int 0 0,.ref 440,.int 305 0,.int 0 0,.ref 447,.int 326 0,.int 0 0,.ref 452,.int 338 0,.int 0 0,.ref 459,.int 349 0,.int 0 0,.ref 464,.int 366 0,.int 0 0,.ref 469,.int 376 0,.int 0 0,.ref 476,.int 383 0,.int 0 0,.ref 483,.int 392 0,.int 0 0,.ref 490,.int 399 0,.int 0 0,.ref 497]
def gO:af:=tZ "<module>" 182 1 11 12
def gP:af:=xJ 13 3 "__main__" 164
def f15:af:=tu [.type 27#1]
def f16:af:=sV
def f17 (P:fq):af:=dc [en P "__module__" 196 (.str 2#1 187),en P "__qualname__" 198 (.str "HouseError" 197),en P "__firstlineno__" 200 (.int 2 199),en P "__static_attributes__" 201 (.ref 22)] 4
def f18:af:=tu []
def f19:af:=fl []
def f20:af:=tZ "HouseError" 191 2 18 19
def f21:af:=xJ 20 17 2#1 187
def f22:af:=tu []
def f23 (P:fq):af:=dc [en P "__module__" 196 (.str 2#1 187),en P "__firstlineno__" 200 (.int 2 199),en P "__static_attributes__" 201 (.ref 22),en P "__weakref__" 203 (.ref 25),en P "__doc__" 204 (.none)] 3
def f24:af:=⟨.type "type",none,.cls (⟨"HouseError",[.type 27#1],[.ref 24,.type 27#1,.type "Exception",.type 19#1,.type "object"],23,"HouseError",true,[],[.ref 44,.ref 63,.ref 82,.ref 101,.ref 120,.ref 139,.ref 158,.ref 177,.ref 196,.ref 215],false,none,false⟩),#[some (.ref 15),none,some (.str "HouseError" 189),some (.str "HouseError" 197),some (.builtin 22#1),some (.bool true)]⟩
def f25:af:=⟨.type "getset_descriptor",none,.fields #[.str "__weakref__" 202,.ref 24,.builtin "ExceptionGroup.__weakref__",.none],#[]⟩
def f26:af:=sW 24
def f27:af:=sU 24
def f28:af:=tu [.ref 24]
def f29:af:=sV
def f30 (P:fq):af:=rQ P 214 2#1 187 "Twice" 4 226 41 228 42
def f31:af:=tu []
def f32:af:=fl [.int 6 0,.int 4 0,.ref 40]
def f33:af:=tZ "Twice" 209 4 31 32
def f34:af:=xJ 33 30 2#1 187
def f35:af:=tu []
def f36:af:=fl []
def f37:af:=tu [.str "self" 222,.str 66#1 223]
def f38:af:=tu []
def f39:af:=yH 7#1 "Twice.__init__" (vE 2 0)
def f40:af:=yG 7#1 "Twice.__init__" 219 6 2 181 35 36 .none (.ref 37) (.ref 38) 39 224
def f41:af:=yI 7#1 "Twice.__init__" (vE 2 0) 2#1 187 40
def f42:af:=tu [.str 66#1 227]
def f43 (P:fq):af:=hdb P 214 2#1 187 4 226 41 228 42
def f44:af:=hcl "Twice" 24 44 43 28 207 215
def f45:af:=sW 44
def f46:af:=sU 44
def f47:af:=tu [.ref 24]
def f48:af:=sV
def f49 (P:fq):af:=rQ P 239 2#1 187 "NoHand" 9 250 60 251 61
def f50:af:=tu []
def f51:af:=fl [.int 11 0,.int 4 0,.ref 59]
def f52:af:=tZ "NoHand" 234 9 50 51
def f53:af:=xJ 52 49 2#1 187
def f54:af:=tu []
def f55:af:=fl []
def f56:af:=tu [.str "self" 247]
def f57:af:=tu []
def f58:af:=yH 7#1 "NoHand.__init__" (vE 3 0)
def f59:af:=yG 7#1 "NoHand.__init__" 244 11 1 181 54 55 .none (.ref 56) (.ref 57) 58 248
def f60:af:=yI 7#1 "NoHand.__init__" (vE 3 0) 2#1 187 59
def f61:af:=tu []
def f62 (P:fq):af:=hdb P 239 2#1 187 9 250 60 251 61
def f63:af:=hcl "NoHand" 24 63 62 47 232 240
def f64:af:=sW 63
def f65:af:=sU 63
def f66:af:=tu [.ref 24]
def f67:af:=sV
def f68 (P:fq):af:=rQ P 262 2#1 187 "NoName" 13 274 79 276 80
def f69:af:=tu []
def f70:af:=fl [.int 15 0,.int 4 0,.ref 78]
def f71:af:=tZ "NoName" 257 13 69 70
def f72:af:=xJ 71 68 2#1 187
def f73:af:=tu []
def f74:af:=fl []
def f75:af:=tu [.str "self" 270,.str 66#1 271]
def f76:af:=tu []
def f77:af:=yH 7#1 "NoName.__init__" (vE 4 0)
def f78:af:=yG 7#1 "NoName.__init__" 267 15 2 181 73 74 .none (.ref 75) (.ref 76) 77 272
def f79:af:=yI 7#1 "NoName.__init__" (vE 4 0) 2#1 187 78
def f80:af:=tu [.str 66#1 275]
def f81 (P:fq):af:=hdb P 262 2#1 187 13 274 79 276 80
def f82:af:=hcl "NoName" 24 82 81 66 255 263
def f83:af:=sW 82
def f84:af:=sU 82
def f85:af:=tu [.ref 24]
def f86:af:=sV
def f87 (P:fq):af:=rQ P 287 2#1 187 "WrongShelf" 18 299 98 301 99
def f88:af:=tu []
def f89:af:=fl [.int 20 0,.int 4 0,.ref 97]
def f90:af:=tZ "WrongShelf" 282 18 88 89
def f91:af:=xJ 90 87 2#1 187
def f92:af:=tu []
def f93:af:=fl []
def f94:af:=tu [.str "self" 295,.str 66#1 296]
def f95:af:=tu []
def f96:af:=yH 7#1 "WrongShelf.__init__" (vE 5 0)
def f97:af:=yG 7#1 "WrongShelf.__init__" 292 20 2 181 92 93 .none (.ref 94) (.ref 95) 96 297
def f98:af:=yI 7#1 "WrongShelf.__init__" (vE 5 0) 2#1 187 97
def f99:af:=tu [.str 66#1 300]
def aL (P:fq):af:=hdb P 287 2#1 187 18 299 98 301 99
def aM:af:=hcl "WrongShelf" 24 101 100 85 280 288
def zil:af:=sW 101
def zim:af:=sU 101
def aN:af:=tu [.ref 24]
def zin:af:=sV
def zio (P:fq):af:=rQ P 312 2#1 187 "NoSplit" 23 324 117 326 118
def ziq:af:=tu []
def zir:af:=fl [.int 25 0,.int 4 0,.ref 116]
def zis:af:=tZ "NoSplit" 307 23 107 108
def zit:af:=xJ 109 106 2#1 187
def aO:af:=tu []
def ziu:af:=fl []
def aP:af:=tu [.str "self" 320,.str 66#1 321]
def aQ:af:=tu []
def ziv:af:=yH 7#1 "NoSplit.__init__" (vE 6 0)
def aR:af:=yG 7#1 "NoSplit.__init__" 317 25 2 181 111 112 .none (.ref 113) (.ref 114) 115 322
def aS:af:=yI 7#1 "NoSplit.__init__" (vE 6 0) 2#1 187 116
def aT:af:=tu [.str 66#1 325]
def aU (P:fq):af:=hdb P 312 2#1 187 23 324 117 326 118
def aV:af:=hcl "NoSplit" 24 120 119 104 305 313
def zix:af:=sW 120
def ziy:af:=sU 120
def aW:af:=tu [.ref 24]
def ziz:af:=sV
def zi0 (P:fq):af:=rQ P 337 2#1 187 "NotHeld" 28 349 136 351 137
def zi1:af:=tu []
def zi2:af:=fl [.int 30 0,.int 4 0,.ref 135]
def zi3:af:=tZ "NotHeld" 332 28 126 127
def zi4:af:=xJ 128 125 2#1 187
def aX:af:=tu []
def zi5:af:=fl []
def aY:af:=tu [.str "self" 345,.str 66#1 346]
def aZ:af:=tu []
def zi6:af:=yH 7#1 82#1 (vE 7 0)
def zaa:af:=yG 7#1 82#1 342 30 2 181 130 131 .none (.ref 132) (.ref 133) 134 347
def zab:af:=yI 7#1 82#1 (vE 7 0) 2#1 187 135
def zac:af:=tu [.str 66#1 350]
def zad (P:fq):af:=hdb P 337 2#1 187 28 349 136 351 137
def zae:af:=hcl "NotHeld" 24 139 138 123 330 338
def zi7:af:=sW 139
def zi8:af:=sU 139
def zaf:af:=tu [.ref 24]
def zi9:af:=sV
def zi_ (P:fq):af:=rQ P 362 2#1 187 "Left" 33 374 155 376 156
def ziA:af:=tu []
def ziB:af:=fl [.int 35 0,.int 4 0,.ref 154]
def ziC:af:=tZ "Left" 357 33 145 146
def ziD:af:=xJ 147 144 2#1 187
def zag:af:=tu []
def ziE:af:=fl []
def zai:af:=tu [.str "self" 370,.str 66#1 371]
def zaj:af:=tu []
def ziF:af:=yH 7#1 "Left.__init__" (vE 8 0)
def zak:af:=yG 7#1 "Left.__init__" 367 35 2 181 149 150 .none (.ref 151) (.ref 152) 153 372
def zal:af:=yI 7#1 "Left.__init__" (vE 8 0) 2#1 187 154
def zam:af:=tu [.str 66#1 375]
def zan (P:fq):af:=hdb P 362 2#1 187 33 374 155 376 156
def zao:af:=hcl "Left" 24 158 157 142 355 363
def ziG:af:=sW 158
def ziI:af:=sU 158
def zap:af:=tu [.ref 24]
def ziJ:af:=sV
def ziK (P:fq):af:=rQ P 387 2#1 187 "TooMany" 38 399 174 401 175
def ziL:af:=tu []
def ziM:af:=fl [.int 40 0,.int 4 0,.ref 173]
def ziN:af:=tZ "TooMany" 382 38 164 165
def ziO:af:=xJ 166 163 2#1 187
def zaq:af:=tu []
def ziP:af:=fl []
def zar:af:=tu [.str "self" 395,.str "most" 396]
def zas:af:=tu []
def ziR:af:=yH 7#1 "TooMany.__init__" (vE 9 0)
def zat:af:=yG 7#1 "TooMany.__init__" 392 40 2 181 168 169 .none (.ref 170) (.ref 171) 172 397
def zau:af:=yI 7#1 "TooMany.__init__" (vE 9 0) 2#1 187 173
def zav:af:=tu [.str "most" 400]
def zaw (P:fq):af:=hdb P 387 2#1 187 38 399 174 401 175
def zax:af:=hcl "TooMany" 24 177 176 161 380 388
def ziS:af:=sW 177
def ziT:af:=sU 177
def zay:af:=tu [.ref 24]
def ziV:af:=sV
def ziW (P:fq):af:=rQ P 412 2#1 187 "NoTurn" 43 423 193 424 194
def ziX:af:=tu []
def ziY:af:=fl [.int 45 0,.int 4 0,.ref 192]
def ziZ:af:=tZ "NoTurn" 407 43 183 184
def zja:af:=xJ 185 182 2#1 187
def zaz:af:=tu []
def zjb:af:=fl []
def za0:af:=tu [.str "self" 420]
def za1:af:=tu []
def zjd:af:=yH 7#1 87#1 (vE 10 0)
def za2:af:=yG 7#1 87#1 417 45 1 181 187 188 .none (.ref 189) (.ref 190) 191 421
def za3:af:=yI 7#1 87#1 (vE 10 0) 2#1 187 192
def za4:af:=tu []
def za5 (P:fq):af:=hdb P 412 2#1 187 43 423 193 424 194
def za6:af:=hcl "NoTurn" 24 196 195 180 405 413
def zje:af:=sW 196
def zjf:af:=sU 196
def za7:af:=tu [.ref 24]
def zjh:af:=sV
def zji (P:fq):af:=rQ P 435 2#1 187 "NoAsk" 47 446 212 447 213
def zjj:af:=tu []
def zjk:af:=fl [.int 49 0,.int 4 0,.ref 211]
def zjl:af:=tZ "NoAsk" 430 47 202 203
def zjm:af:=xJ 204 201 2#1 187
def za8:af:=tu []
def zjn:af:=fl []
def za9:af:=tu [.str "self" 443]
def za_:af:=tu []
def zjp:af:=yH 7#1 "NoAsk.__init__" (vE 11 0)
def zaA:af:=yG 7#1 "NoAsk.__init__" 440 49 1 181 206 207 .none (.ref 208) (.ref 209) 210 444
def zaB:af:=yI 7#1 "NoAsk.__init__" (vE 11 0) 2#1 187 211
def zaC:af:=tu []
def zaD (P:fq):af:=hdb P 435 2#1 187 47 446 212 447 213
def zaE:af:=hcl "NoAsk" 24 215 214 199 428 436
def zjq:af:=sW 215
def zjr:af:=sU 215
def zaF:af:=tu []
def zjs:af:=fl []
def zaH:af:=tu [.str "term" 456]
def zaI:af:=tu []
def zjt:af:=yH "terms_in" "terms_in" (tp 13)
def zaJ:af:=yG "terms_in" "terms_in" 453 52 1 181 218 219 .none (.ref 220) (.ref 221) 222 457
def zaK:af:=yI "terms_in" "terms_in" (tp 13) "copiedhouse.forms" 451 223
def zaL:af:=tu []
def zju:af:=fl []
def zaM:af:=tu [.str 73#1 463]
def zaN:af:=tu []
def zjv:af:=yH "deed_of" "deed_of" (tp 14)
def zaP:af:=yG "deed_of" "deed_of" 460 58 1 181 225 226 .none (.ref 227) (.ref 228) 229 464
def zaQ:af:=yI "deed_of" "deed_of" (tp 14) "copiedhouse.forms" 451 230
def zaR:af:=tu []
def zjw:af:=fl []
def zaS:af:=tu [.str "deed" 470]
def zaT:af:=tu []
def zjx:af:=yH "shelf_of" "shelf_of" (tp 15)
def zaU:af:=yG "shelf_of" "shelf_of" 467 64 1 181 232 233 .none (.ref 234) (.ref 235) 236 471
def zaV:af:=yI "shelf_of" "shelf_of" (tp 15) "copiedhouse.forms" 451 237
def zaW:af:=tu []
def zjy:af:=fl []
def zaY:af:=tu [.str "deed" 477]
def zaZ:af:=tu []
def zjz:af:=yH "term_of" "term_of" (tp 16)
def zba:af:=yG "term_of" "term_of" 474 68 1 181 239 240 .none (.ref 241) (.ref 242) 243 478
def zbb:af:=yI "term_of" "term_of" (tp 16) "copiedhouse.forms" 451 244
def zbc:af:=tu []
def zj0:af:=fl []
def zj1:af:=yH 49#1 49#1 (tp 18)
def zbd:af:=yG 49#1 49#1 483 75 2 181 246 247 .none .none .none 248 486
def zbf:af:=yI 49#1 49#1 (tp 18) "copiedhouse.lists" 481 249
def zbg:af:=tu []
def zj2:af:=fl []
def zbh:af:=tu [.str 4#1 492,.str "H" 493]
def zbi:af:=tu []
def zj3:af:=yH 62#1 62#1 (tp 19)
def zbj:af:=yG 62#1 62#1 489 77 2 181 251 252 .none (.ref 253) (.ref 254) 255 494
def zbk:af:=yI 62#1 62#1 (tp 19) "copiedhouse.lists" 481 256
def zbl:af:=tu []
def zj4:af:=fl []
def zj6:af:=yH 32#1 32#1 (tp 20)
def zbm:af:=yG 32#1 32#1 497 79 2 181 258 259 .none .none .none 260 500
def zbn:af:=yI 32#1 32#1 (tp 20) "copiedhouse.lists" 481 261
def zbo:af:=tu []
def zj7:af:=fl []
def zj8:af:=yH 36#1 36#1 (tp 21)
def zbp:af:=yG 36#1 36#1 503 84 1 181 263 264 .none .none .none 265 506
def zbq:af:=yI 36#1 36#1 (tp 21) "copiedhouse.lists" 481 266
def zbr (P:fq):af:=dc [en P "set" 511 (.ref 269),en P "more" 514 (.ref 270),en P "in" 516 (.ref 271),en P "out" 518 (.ref 272),en P "lay" 520 (.ref 273),en P "drop" 522 (.ref 274)] 6
def zbs:af:=tu [.str "last" 512,.str 84#1 513]
def zbt:af:=tu [.str "sum" 515]
def zbu:af:=tu [.str "bag" 517]
def zbv:af:=tu [.str "bag" 519]
def zbw:af:=tu [.str 73#1 521]
def zbx:af:=tu [.str 73#1 523]
def zby (P:fq):af:=dc [en P "shelf" 531 (.ref 276),en P "many" 535 (.ref 277),en P "long" 537 (.ref 278)] 3
def zbz:af:=tu [.str "last" 532,.str "sum" 533,.str 84#1 534]
def zb0:af:=tu [.str "bag" 536]
def zb1:af:=tu [.str 73#1 538]
def zb2:af:=tu []
def zj_:af:=fl []
def zb4:af:=tu [.str 4#1 546]
def zb5:af:=tu []
def zjA:af:=yH "look" "look" (tp 25)
def zb6:af:=yG "look" "look" 543 96 1 181 279 280 .none (.ref 281) (.ref 282) 283 547
def zb7:af:=yI "look" "look" (tp 25) 16#1 509 284
def zb8:af:=tu []
def zjB:af:=fl []
def zb9:af:=tu [.str "tuples" 553,.str "met" 554,.str "one" 555]
def zb_:af:=tu []
def zjD:af:=yH 34#1 34#1 (tp 26)
def zbA:af:=yG 34#1 34#1 550 105 1 181 286 287 .none (.ref 288) (.ref 289) 290 556
def zbB:af:=yI 34#1 34#1 (tp 26) 16#1 509 291
def zbC:af:=tu []
def zjE:af:=fl []
def zjF:af:=yH 47#1 47#1 (tp 27)
def zbD:af:=yG 47#1 47#1 559 111 1 181 293 294 .none .none .none 295 562
def zbE:af:=yI 47#1 47#1 (tp 27) 16#1 509 296
def zbF:af:=tu []
def zjG:af:=fl []
def zbG:af:=tu [.str 73#1 568,.str "taken" 569]
def zbH:af:=tu []
def zjI:af:=yH 17#1 17#1 (tp 28)
def zbI:af:=yG 17#1 17#1 565 121 2 181 298 299 .none (.ref 300) (.ref 301) 302 570
def zbJ:af:=yI 17#1 17#1 (tp 28) 16#1 509 303
def zbK:af:=tu []
def zjJ:af:=fl []
def zbL:af:=tu [.str 73#1 576,.str 33#1 577,.str "deed" 578]
def zbM:af:=tu []
def zjK:af:=yH 43#1 43#1 (tp 29)
def zbN:af:=yG 43#1 43#1 573 128 2 181 305 306 .none (.ref 307) (.ref 308) 309 579
def zbO:af:=yI 43#1 43#1 (tp 29) 16#1 509 310
def zbP:af:=tu []
def zjM:af:=fl []
def zbQ:af:=tu [.str "term" 585,.str 33#1 586,.str "inner" 587]
def zbR:af:=tu []
def zjN:af:=yH 40#1 40#1 (tp 30)
def zbS:af:=yG 40#1 40#1 582 136 2 181 312 313 .none (.ref 314) (.ref 315) 316 588
def zbT:af:=yI 40#1 40#1 (tp 30) 16#1 509 317
def zbU:af:=tu []
def zjP:af:=fl []
def zbV:af:=tu [.str "S" 594,.str 33#1 595,.str "fitting" 596]
def zbW:af:=tu []
def zjQ:af:=yH 41#1 41#1 (tp 31)
def zbX:af:=yG 41#1 41#1 591 141 3 181 319 320 .none (.ref 321) (.ref 322) 323 597
def zbY:af:=yI 41#1 41#1 (tp 31) 16#1 509 324
def zbZ:af:=tu []
def zjR:af:=fl []
def zjS:af:=yH 35#1 35#1 (tp 32)
def zca:af:=yG 35#1 35#1 600 146 1 181 326 327 .none .none .none 328 603
def zcb:af:=yI 35#1 35#1 (tp 32) 16#1 509 329
def zcc:af:=tu []
def zjU:af:=fl []
def zcd:af:=tu [.str 4#1 609,.str "ends" 610,.str "left" 611]
def zce:af:=tu []
def zjV:af:=yH 42#1 42#1 (tp 33)
def zcf:af:=yG 42#1 42#1 606 151 1 181 331 332 .none (.ref 333) (.ref 334) 335 612
def zcg:af:=yI 42#1 42#1 (tp 33) 16#1 509 336
def zch:af:=tu []
def zjW:af:=fl []
def zci:af:=tu [.str 4#1 618,.str "rows_of" 619,.str "ends" 620,.str 66#1 621]
def zcj:af:=tu []
def zjY:af:=yH 48#1 48#1 (tp 34)
def zck:af:=yG 48#1 48#1 615 156 1 181 338 339 .none (.ref 340) (.ref 341) 342 622
def zcl:af:=yI 48#1 48#1 (tp 34) 16#1 509 343
def zcm:af:=tu []
def zjZ:af:=fl []
def zcn:af:=tu [.str "rows" 628,.str "ends" 629,.str "held" 630,.str 73#1 631]
def zco:af:=tu []
def zka:af:=yH 55#1 55#1 (tp 35)
def zcq:af:=yG 55#1 55#1 625 162 2 181 345 346 .none (.ref 347) (.ref 348) 349 632
def zcr:af:=yI 55#1 55#1 (tp 35) 16#1 509 350
def zcs:af:=tu []
def zkb:af:=fl []
def zkc:af:=yH 20#1 20#1 (tp 36)
def zct:af:=yG 20#1 20#1 635 173 2 181 352 353 .none .none .none 354 638
def zcu:af:=yI 20#1 20#1 (tp 36) 16#1 509 355
def zcv:af:=tu []
def zkd:af:=fl []
def zke:af:=yH 68#1 68#1 (tp 38)
def zcw:af:=yG 68#1 68#1 643 176 3 181 357 358 .none .none .none 359 646
def zcx:af:=yI 68#1 68#1 (tp 38) "copiedhouse.turns" 641 360
def zcy:af:=tu []
def zkg:af:=fl []
def zcz:af:=tu [.str 8#1 654,.str 25#1 655,.str "_law_cell" 656,.str "_law_seed" 657]
def zc0:af:=tu []
def zkh:af:=yH "_law_box" "_law_box" (tp 40)
def zc1:af:=yG "_law_box" "_law_box" 651 189 2 181 362 363 .none (.ref 364) (.ref 365) 366 658
def zc2:af:=yI "_law_box" "_law_box" (tp 40) 1#1 649 367
def zc3:af:=tu []
def zki:af:=fl []
def zc5:af:=tu [.str 0#1 664,.str 21#1 665,.str "_law_digit" 666,.str "_law_one" 667]
def zc6:af:=tu []
def zkj:af:=yH 78#1 78#1 (tp 41)
def zc7:af:=yG 78#1 78#1 661 197 2 181 369 370 .none (.ref 371) (.ref 372) 373 668
def zc8:af:=yI 78#1 78#1 (tp 41) 1#1 649 374
def zc9:af:=tu []
def zkk:af:=fl []
def zkl:af:=yH 63#1 63#1 (tp 42)
def zc_:af:=yG 63#1 63#1 671 205 2 181 376 377 .none .none .none 378 674
def zcB:af:=yI 63#1 63#1 (tp 42) 1#1 649 379
def zcC:af:=tu []
def zkm:af:=fl []
def zcD:af:=tu [.str 0#1 680,.str "_law_form" 681]
def zcE:af:=tu []
def zkn:af:=yH 56#1 56#1 (tp 43)
def zcF:af:=yG 56#1 56#1 677 222 1 181 381 382 .none (.ref 383) (.ref 384) 385 682
def zcG:af:=yI 56#1 56#1 (tp 43) 1#1 649 386
def zcH:af:=tu []
def zko:af:=fl []
def zcI:af:=tu [.str 0#1 688,.str 5#1 689,.str 79#1 690,.str "_law_deep" 691,.str "_law_form" 692,.str "_law_third" 693,.str "_law_one" 694,.str "_law_other" 695,.str "_law_half" 696]
def zcJ:af:=tu []
def zkq:af:=yH 70#1 70#1 (tp 44)
def zcK:af:=yG 70#1 70#1 685 229 4 181 388 389 .none (.ref 390) (.ref 391) 392 697
def zcL:af:=yI 70#1 70#1 (tp 44) 1#1 649 393
def zcM:af:=tu []
def zkr:af:=fl []
def zcN:af:=tu [.str 0#1 703,.str 5#1 704,.str 79#1 705]
def zcO:af:=tu []
def zks:af:=yH 45#1 45#1 (tp 45)
def zcQ:af:=yG 45#1 45#1 700 243 2 181 395 396 .none (.ref 397) (.ref 398) 399 706
def zcR:af:=yI 45#1 45#1 (tp 45) 1#1 649 400
def zcS:af:=tu []
def zkt:af:=fl []
def zcT:af:=tu [.str 0#1 712,.str 46#1 713,.str 54#1 714,.str 69#1 715,.str "_law_three" 716,.str "_law_term_here" 717]
def zcU:af:=tu []
def zku:af:=yH 57#1 57#1 (tp 46)
def zcV:af:=yG 57#1 57#1 709 246 3 181 402 403 .none (.ref 404) (.ref 405) 406 718
def zcW:af:=yI 57#1 57#1 (tp 46) 1#1 649 407
def zcX:af:=tu []
def zkv:af:=fl []
def zkw:af:=yH 65#1 65#1 (tp 47)
def zcZ:af:=yG 65#1 65#1 721 255 3 181 409 410 .none .none .none 411 724
def zda:af:=yI 65#1 65#1 (tp 47) 1#1 649 412
def zdb:af:=tu []
def zkx:af:=fl []
def zdc:af:=tu [.str 0#1 730,.str 51#1 731,.str 10#1 732,.str 26#1 733,.str "_law_ks" 734,.str 12#1 735,.str "_law_begin_here" 736]
def zdd:af:=tu []
def zky:af:=yH 58#1 58#1 (tp 48)
def zde:af:=yG 58#1 58#1 727 269 3 181 414 415 .none (.ref 416) (.ref 417) 418 737
def zdg:af:=yI 58#1 58#1 (tp 48) 1#1 649 419
def zdh:af:=tu []
def zkz:af:=fl []
def zdi:af:=tu [.str 0#1 743,.str "_law_shelf" 744,.str 5#1 745,.str 10#1 746,.str "_law_ks" 747,.str 12#1 748,.str "_law_begin_here" 749,.str 69#1 750,.str "_law_term_here" 751]
def zdj:af:=tu []
def zk0:af:=yH 81#1 81#1 (tp 49)
def zdk:af:=yG 81#1 81#1 740 277 4 181 421 422 .none (.ref 423) (.ref 424) 425 752
def zdl:af:=yI 81#1 81#1 (tp 49) 1#1 649 426
def zdm:af:=tu []
def zk1:af:=fl []
def zdo:af:=tu [.str 0#1 758,.str 59#1 759,.str 10#1 760,.str "_law_own" 761,.str "_law_asked" 762,.str 5#1 763,.str "_law_row_here" 764]
def zdp:af:=tu []
def zk2:af:=yH "_law_row" "_law_row" (tp 50)
def zdq:af:=yG "_law_row" "_law_row" 755 292 3 181 428 429 .none (.ref 430) (.ref 431) 432 765
def zdr:af:=yI "_law_row" "_law_row" (tp 50) 1#1 649 433
def zds:af:=tu []
def zk3:af:=fl []
def zdt:af:=tu [.str 0#1 771,.str 29#1 772,.str 38#1 773,.str 74#1 774,.str "_law_other" 775]
def zdu:af:=tu []
def zk4:af:=yH 80#1 80#1 (tp 51)
def zdw:af:=yG 80#1 80#1 768 301 4 181 435 436 .none (.ref 437) (.ref 438) 439 776
def zdx:af:=yI 80#1 80#1 (tp 51) 1#1 649 440
def zdy:af:=tu []
def zk5:af:=fl []
def zdz:af:=tu [.str 8#1 782,.str 44#1 783,.str 29#1 784,.str 24#1 785,.str 0#1 786,.str 59#1 787,.str 38#1 788,.str 74#1 789,.str 25#1 790,.str "_law_kind" 791,.str "_law_other" 792]
def zd0:af:=tu []
def zk6:af:=yH 72#1 72#1 (tp 52)
def zd1:af:=yG 72#1 72#1 779 305 4 181 442 443 .none (.ref 444) (.ref 445) 446 793
def zd2:af:=yI 72#1 72#1 (tp 52) 1#1 649 447
def zd3:af:=tu []
def zk8:af:=fl []
def zk9:af:=yH 75#1 75#1 (tp 53)
def zd4:af:=yG 75#1 75#1 796 326 3 181 449 450 .none .none .none 451 799
def zd5:af:=yI 75#1 75#1 (tp 53) 1#1 649 452
def zd6:af:=tu []
def zk_:af:=fl []
def zd7:af:=tu [.str 0#1 805,.str "_law_form" 806,.str "_law_some" 807,.str "_law_x" 808,.str "_law_y" 809,.str "_law_z" 810,.str 44#1 811]
def zd8:af:=tu []
def zkA:af:=yH 23#1 23#1 (tp 54)
def zd9:af:=yG 23#1 23#1 802 338 1 181 454 455 .none (.ref 456) (.ref 457) 458 812
def zd_:af:=yI 23#1 23#1 (tp 54) 1#1 649 459
def zdA:af:=tu []
def zkC:af:=fl []
def zkD:af:=yH 52#1 52#1 (tp 55)
def zdB:af:=yG 52#1 52#1 815 349 5 181 461 462 .none .none .none 463 818
def zdC:af:=yI 52#1 52#1 (tp 55) 1#1 649 464
def zdD:af:=tu []
def zkE:af:=fl []
def zkF:af:=yH 71#1 71#1 (tp 56)
def zdE:af:=yG 71#1 71#1 821 366 3 181 466 467 .none .none .none 468 824
def zdG:af:=yI 71#1 71#1 (tp 56) 1#1 649 469
def zdH:af:=tu []
def zkG:af:=fl []
def zdI:af:=tu [.str 3#1 830,.str 15#1 831,.str 25#1 832,.str 64#1 833,.str "_law_one" 834,.str 38#1 835]
def zdJ:af:=tu []
def zkH:af:=yH 50#1 50#1 (tp 57)
def zdK:af:=yG 50#1 50#1 827 376 3 181 471 472 .none (.ref 473) (.ref 474) 475 836
def zdL:af:=yI 50#1 50#1 (tp 57) 1#1 649 476
def zdM:af:=tu []
def zkI:af:=fl []
def zdN:af:=tu [.str 3#1 842,.str 15#1 843,.str 25#1 844,.str "_law_refused" 845,.str 26#1 846,.str "e" 847]
def zdO:af:=tu []
def zkK:af:=yH 77#1 77#1 (tp 58)
def zdP:af:=yG 77#1 77#1 839 383 3 181 478 479 .none (.ref 480) (.ref 481) 482 848
def zdQ:af:=yI 77#1 77#1 (tp 58) 1#1 649 483
def zdR:af:=tu []
def zkL:af:=fl []
def zdS:af:=tu [.str 3#1 854,.str 15#1 855,.str 25#1 856,.str 38#1 857]
def zdT:af:=tu []
def zkM:af:=yH "_law_due" "_law_due" (tp 59)
def zdU:af:=yG "_law_due" "_law_due" 851 392 3 181 485 486 .none (.ref 487) (.ref 488) 489 858
def zdV:af:=yI "_law_due" "_law_due" (tp 59) 1#1 649 490
def zdW:af:=tu []
def zkO:af:=fl []
def zdX:af:=tu [.str 8#1 864,.str 3#1 865,.str 15#1 866,.str 38#1 867,.str 25#1 868,.str "_law_due_here" 869,.str 26#1 870,.str "_law_first" 871]
def zdY:af:=tu []
def zkP:af:=yH "law" "law" (tp 60)
def zdZ:af:=yG "law" "law" 861 399 1 181 492 493 .none (.ref 494) (.ref 495) 496 872
def zea:af:=yI "law" "law" (tp 60) 1#1 649 497
def a12:af:=fl []
def Ta (P:fq):BT:=(.node (boot_o_0 P) (.node (boot_o_1 P) (.node (boot_o_3 P) (.node (boot_o_7 P) .nil .nil) (.node gM .nil .nil)) (.node (boot_o_5 P) (.node (boot_o_9 P) .nil .nil) (.node gO .nil .nil))) (.node (boot_o_2 P) (.node (boot_o_4 P) (.node (boot_o_8 P) .nil .nil) (.node a12 .nil .nil)) (.node (boot_o_6 P) (.node (boot_o_10 P) .nil .nil) (.node gP .nil .nil))))
def Tz (P:fq):BT:=(.node (boot_o_0 P) (.node (boot_o_1 P) (.node (f3 P) (.node (boot_o_7 P) (.node f15 (.node f31 (.node f63 (.node zi2 (lf zj3) (lf zcD)) (.node zjd (lf zbU) (lf zd1))) (.node f95 (.node ziG (lf zjB) (lf zkx)) (.node zaJ (lf zcr) (lf zkI)))) (.node f47 (.node f79 (.node zi9 (lf zbu) (lf zks)) (.node zjn (lf zjV) (lf zkD))) (.node aO (.node zav (lf zbI) (lf zdp)) (.node zaW (lf zc1) (lf zdY))))) (.node (f23 P) (.node f39 (.node f71 (.node zaa (lf zbo) (lf zcJ)) (.node za7 (lf zjR) (lf zk_))) (.node zim (.node ziO (lf zjF) (lf zdi)) (.node zaQ (lf zke) (lf zdS)))) (.node f55 (.node (f87 P) (.node zai (lf zb2) (lf zcV)) (.node zaE (lf zck) (lf zdH))) (.node (aU P) (.node ziX (lf zbO) (lf zk4)) (.node zj0 (lf zc8) .nil))))) (.node gM (.node f19 (.node f35 (.node f67 (.node zi5 (lf zj4) (lf zcG)) (.node (za5 P) (lf zjQ) (lf zk9))) (.node f99 (.node (ziK P) (lf zbA) (lf zde)) (.node zaM (lf zct) (lf zdP)))) (.node f51 (.node f83 (.node ziC (lf (zby P)) (lf zkt)) (.node zaA (lf zjW) (lf zkE))) (.node ziv (.node ziT (lf zbL) (lf zds)) (.node zjz (lf zc5) .nil)))) (.node f27 (.node (f43 P) (.node f75 (.node zae (lf zbq) (lf zcM)) (.node zjk (lf zcc) (lf zd9))) (.node ziq (.node zas (lf zjG) (lf zdl)) (.node zaT (lf zkg) (lf zdV)))) (.node f59 (.node f91 (.node zal (lf zjA) (lf zkw)) (.node zjs (lf zcn) (lf zkH))) (.node aW (.node zaz (lf zbR) (lf zk5)) (.node zbg (lf zc_) .nil)))))) (.node (boot_o_5 P) (.node (boot_o_9 P) (.node (f17 P) (.node f33 (.node f65 (.node zi4 (lf zbk) (lf zkn)) (.node za3 (lf zbV) (lf zd3))) (.node f97 (.node zap (lf zb_) (lf zdd)) (.node zaL (lf zkb) (lf zdO)))) (.node (f49 P) (.node (f81 P) (.node ziA (lf zbw) (lf zcR)) (.node za_ (lf zcg) (lf zdC))) (.node aP (.node zax (lf zbK) (lf zdq)) (.node zaY (lf zc3) (lf zdZ))))) (.node f25 (.node f41 (.node f73 (.node zac (lf zj8) (lf zcK)) (.node (zji P) (lf zca) (lf zd8))) (.node zin (.node ziP (lf zbE) (lf zk0)) (.node zjw (lf zcx) (lf zkM)))) (.node f57 (.node f89 (.node ziF (lf zb4) (lf zcX)) (.node zjr (lf zcm) (lf zdI))) (.node zix (.node ziZ (lf zjM) (lf zdx)) (.node zbd (lf zkk) .nil))))) (.node gO (.node f21 (.node f37 (.node f69 (.node aZ (lf zbm) (lf zko)) (.node zje (lf zbY) (lf zd5))) (.node aM (.node ziM (lf zbC) (lf zdh)) (.node zjv (lf zcv) (lf zdR)))) (.node f53 (.node f85 (.node zag (lf zb0) (lf zcU)) (.node zaC (lf zcj) (lf zdE))) (.node aS (.node ziV (lf zjK) (lf zdt)) (.node zbb (lf zkj) .nil)))) (.node f29 (.node f45 (.node f77 (.node zi8 (lf zbs) (lf zcN)) (.node zjm (lf zcd) (lf zdA))) (.node zis (.node zat (lf zbH) (lf zk1)) (.node zaU (lf zc0) (lf zkO)))) (.node f61 (.node f93 (.node (zan P) (lf zb7) (lf zda)) (.node zaI (lf zka) (lf zdL))) (.node (zi0 P) (.node za0 (lf zbS) (lf zd0)) (.node zbh (lf zcC) .nil))))))) (.node (boot_o_2 P) (.node (boot_o_4 P) (.node (boot_o_8 P) (.node f16 (.node f32 (.node f64 (.node zi3 (lf zbj) (lf zcE)) (.node za2 (lf zjP) (lf zd2))) (.node f96 (.node ziI (lf zb9) (lf zdc)) (.node zaK (lf zcs) (lf zdN)))) (.node f48 (.node f80 (.node (zi_ P) (lf zbv) (lf zcQ)) (.node za9 (lf zcf) (lf zdB))) (.node ziu (.node (zaw P) (lf zbJ) (lf zk2)) (.node zjy (lf zc2) (lf zkP))))) (.node f24 (.node f40 (.node f72 (.node zab (lf zj7) (lf zkq)) (.node zjh (lf zjS) (lf zd7))) (.node aN (.node zaq (lf zbD) (lf zdj)) (.node zaR (lf zcw) (lf zdT)))) (.node f56 (.node f88 (.node zaj (lf zj_) (lf zcW)) (.node zjq (lf zcl) (lf zkG))) (.node aV (.node ziY (lf zbP) (lf zdw)) (.node zj1 (lf zc9) .nil))))) (.node f12 (.node f20 (.node f36 (.node (f68 P) (.node aY (lf zj6) (lf zcH)) (.node za6 (lf zbX) (lf zd4))) (.node (aL P) (.node ziL (lf zbB) (lf zdg)) (.node zaN (lf zcu) (lf zdQ)))) (.node f52 (.node f84 (.node ziD (lf zbz) (lf zcT)) (.node zaB (lf zci) (lf zkF))) (.node aR (.node zay (lf zbM) (lf zk3)) (.node zba (lf zc6) .nil)))) (.node f28 (.node f44 (.node f76 (.node zi7 (lf (zbr P)) (lf zkr)) (.node zjl (lf zjU) (lf zd_))) (.node zir (.node ziR (lf zbG) (lf zdm)) (.node zjx (lf zcz) (lf zdW)))) (.node f60 (.node f92 (.node zam (lf zb6) (lf zcZ)) (.node zaH (lf zco) (lf zdK))) (.node ziz (.node zjb (lf zjN) (lf zdz)) (.node zj2 (lf zcB) .nil)))))) (.node (boot_o_6 P) (.node (boot_o_10 P) (.node f18 (.node f34 (.node f66 (.node aX (lf zbl) (lf zcF)) (.node za4 (lf zbW) (lf zk8))) (.node f98 (.node ziJ (lf zjD) (lf zky)) (.node zju (lf zkc) (lf zkK)))) (.node f50 (.node f82 (.node ziB (lf zbx) (lf zcS)) (.node zjp (lf zch) (lf zdD))) (.node aQ (.node ziS (lf zjJ) (lf zdr)) (.node zaZ (lf zki) (lf zea))))) (.node f26 (.node f42 (.node f74 (.node (zad P) (lf zbp) (lf zcL)) (.node zjj (lf zcb) (lf zkA))) (.node (zio P) (.node zar (lf zbF) (lf zdk)) (.node zaS (lf zcy) (lf zdU)))) (.node f58 (.node f90 (.node zak (lf zb5) (lf zkv)) (.node zaF (lf zjZ) (lf zdJ))) (.node ziy (.node zja (lf zbQ) (lf zdy)) (.node zbf (lf zkl) .nil))))) (.node gP (.node f22 (.node f38 (.node f70 (.node zi6 (lf zbn) (lf zcI)) (.node zjf (lf zbZ) (lf zd6))) (.node zil (.node ziN (lf zjE) (lf zkz)) (.node zaP (lf zkd) (lf zkL)))) (.node f54 (.node f86 (.node ziE (lf zb1) (lf zku)) (.node (zaD P) (lf zjY) (lf zdG))) (.node aT (.node (ziW P) (lf zbN) (lf zdu)) (.node zbc (lf zc7) .nil)))) (.node (f30 P) (.node f46 (.node f78 (.node zaf (lf zbt) (lf zcO)) (.node za8 (lf zce) (lf zkC))) (.node zit (.node zau (lf zjI) (lf zdo)) (.node zaV (lf zkh) (lf zdX)))) (.node (f62 P) (.node f94 (.node zao (lf zb8) (lf zdb)) (.node zjt (lf zcq) (lf zdM))) (.node zi1 (.node za1 (lf zbT) (lf zk6)) (.node zbi (lf zkm) .nil))))))))
def Ha (P:fq):cn:=⟨⟨[boot_o_0 P,boot_o_1 P,boot_o_2 P,boot_o_3 P,boot_o_4 P,boot_o_5 P,boot_o_6 P,boot_o_7 P,boot_o_8 P,boot_o_9 P,boot_o_10 P,gM,a12,gO,gP]⟩,li⟩
def Hl (P:fq):List af:= [boot_o_0 P,boot_o_1 P,boot_o_2 P,f3 P,boot_o_4 P,boot_o_5 P,boot_o_6 P,boot_o_7 P,boot_o_8 P,boot_o_9 P,boot_o_10 P,gM,f12,gO,gP,f15,f16,f17 P,f18,f19,f20,f21,f22,f23 P,f24,f25,f26,f27,f28,f29,f30 P,f31,f32,f33,f34,f35,f36,f37,f38,f39,f40,f41,f42,f43 P,f44,f45,f46,f47,f48,f49 P,f50,f51,f52,f53,f54,f55,f56,f57,f58,f59,f60,f61,f62 P,f63,f64,f65,f66,f67,f68 P,f69,f70,f71,f72,f73,f74,f75,f76,f77,f78,f79,f80,f81 P,f82,f83,f84,f85,f86,f87 P,f88,f89,f90,f91,f92,f93,f94,f95,f96,f97,f98,f99,aL P,aM,zil,zim,aN,zin,zio P,ziq,zir,zis,zit,aO,ziu,aP,aQ,ziv,aR,aS,aT,aU P,aV,zix,ziy,aW,ziz,zi0 P,zi1,zi2,zi3,zi4,aX,zi5,aY,aZ,zi6,zaa,zab,zac,zad P,zae,zi7,zi8,zaf,zi9,zi_ P,ziA,ziB,ziC,ziD,zag,ziE,zai,zaj,ziF,zak,zal,zam,zan P,zao,ziG,ziI,zap,ziJ,ziK P,ziL,ziM,ziN,ziO,zaq,ziP,zar,zas,ziR,zat,zau,zav,zaw P,zax,ziS,ziT,zay,ziV,ziW P,ziX,ziY,ziZ,zja,zaz,zjb,za0,za1,zjd,za2,za3,za4,za5 P,za6,zje,zjf,za7,zjh,zji P,zjj,zjk,zjl,zjm,za8,zjn,za9,za_,zjp,zaA,zaB,zaC,zaD P,zaE,zjq,zjr,zaF,zjs,zaH,zaI,zjt,zaJ,zaK,zaL,zju,zaM,zaN,zjv,zaP,zaQ,zaR,zjw,zaS,zaT,zjx,zaU,zaV,zaW,zjy,zaY,zaZ,zjz,zba,zbb,zbc,zj0,zj1,zbd,zbf,zbg,zj2,zbh,zbi,zj3,zbj,zbk,zbl,zj4,zj6,zbm,zbn,zbo,zj7,zj8,zbp,zbq,zbr P,zbs,zbt,zbu,zbv,zbw,zbx,zby P,zbz,zb0,zb1,zb2,zj_,zb4,zb5,zjA,zb6,zb7,zb8,zjB,zb9,zb_,zjD,zbA,zbB,zbC,zjE,zjF,zbD,zbE,zbF,zjG,zbG,zbH,zjI,zbI,zbJ,zbK,zjJ,zbL,zbM,zjK,zbN,zbO,zbP,zjM,zbQ,zbR,zjN,zbS,zbT,zbU,zjP,zbV,zbW,zjQ,zbX,zbY,zbZ,zjR,zjS,zca,zcb,zcc,zjU,zcd,zce,zjV,zcf,zcg,zch,zjW,zci,zcj,zjY,zck,zcl,zcm,zjZ,zcn,zco,zka,zcq,zcr,zcs,zkb,zkc,zct,zcu,zcv,zkd,zke,zcw,zcx,zcy,zkg,zcz,zc0,zkh,zc1,zc2,zc3,zki,zc5,zc6,zkj,zc7,zc8,zc9,zkk,zkl,zc_,zcB,zcC,zkm,zcD,zcE,zkn,zcF,zcG,zcH,zko,zcI,zcJ,zkq,zcK,zcL,zcM,zkr,zcN,zcO,zks,zcQ,zcR,zcS,zkt,zcT,zcU,zku,zcV,zcW,zcX,zkv,zkw,zcZ,zda,zdb,zkx,zdc,zdd,zky,zde,zdg,zdh,zkz,zdi,zdj,zk0,zdk,zdl,zdm,zk1,zdo,zdp,zk2,zdq,zdr,zds,zk3,zdt,zdu,zk4,zdw,zdx,zdy,zk5,zdz,zd0,zk6,zd1,zd2,zd3,zk8,zk9,zd4,zd5,zd6,zk_,zd7,zd8,zkA,zd9,zd_,zdA,zkC,zkD,zdB,zdC,zdD,zkE,zkF,zdE,zdG,zdH,zkG,zdI,zdJ,zkH,zdK,zdL,zdM,zkI,zdN,zdO,zkK,zdP,zdQ,zdR,zkL,zdS,zdT,zkM,zdU,zdV,zdW,zkO,zdX,zdY,zkP,zdZ,zea]
def Hf (P:fq):cn:=⟨⟨Hl P⟩,li⟩
theorem pre (w:ci)(os:lz):topGo treeTable pg w 11 an 12 ⟨boot_heap w.params,gs,boot_drawn,boot_toks,os⟩ (topStub pg)=some (⟨Ha w.params,gs,boot_drawn,187,os⟩,⟨denote treeTable cE,cE,⟨0,0,0,0⟩,B⟩):=by
 rw[PySem.W.Fast.te15667345088766844465,ie,PySem.W.Fast.te11892475500146522536];kernel_rfl
theorem block (w:ci)(os:lz):segRun treeTable pg w 11 an 1 1 ⟨Ha w.params,gs,boot_drawn,187,os⟩ (blockOf (behindTheImports pg) ev cE ⟨0,0,0,0⟩ B)=some (.next,(SharedT.abs ⟨Ta w.params,15,li,gs,boot_drawn,187,os⟩),cE,⟨0,0,0,0⟩):=by
 rw[PySem.W.Fast.te14374325043358763698,ie];kernel_rfl
def zgh:List cu:= [tp 0,tp 1,tp 2,tp 3,tp 4,tp 5,tp 6,tp 7,tp 8,tp 9,tp 10,tp 11,tp 12,tp 13,tp 14,tp 15,tp 16,tp 17,tp 18,tp 19,tp 20,tp 21,tp 22,tp 23,tp 24,tp 25,tp 26,tp 27,tp 28,tp 29,tp 30,tp 31,tp 32,tp 33,tp 34,tp 35,tp 36,tp 37,tp 38,tp 39,tp 40,tp 41,tp 42,tp 43,tp 44,tp 45,tp 46,tp 47,tp 48,tp 49,tp 50,tp 51,tp 52,tp 53,tp 54,tp 55,tp 56,tp 57,tp 58,tp 59,tp 60]
def Qz (os:lz)(w:ci):Prop:=segRunT treeTable pg w 11 an 1 4143 ⟨Ta w.params,15,li,gs,boot_drawn,187,os⟩ (piecesOf zgh ev cE ⟨0,0,0,0⟩ B)=some (.next,⟨Tz w.params,499,li,gs,boot_drawn,875,os⟩,cE,⟨399,0,415,68⟩)
theorem zv5 (w:ci)(os:lz):Qz os (w.withFollow "special-get-raises" false):=by
 unfold Qz;rw[PySem.W.Fast.te10110043849684766642,ie];kernel_rfl
theorem zv6 (w:ci)(os:lz):Qz os (w.withFollow "special-get-raises" true):=by
 unfold Qz;rw[PySem.W.Fast.te10110043849684766642,ie];kernel_rfl
theorem zuj (w:ci)(os:lz):segRunT treeTable pg w 11 an 1 4143 ⟨Ta w.params,15,li,gs,boot_drawn,187,os⟩ (piecesOf zgh ev cE ⟨0,0,0,0⟩ B)=some (.next,⟨Tz w.params,499,li,gs,boot_drawn,875,os⟩,cE,⟨399,0,415,68⟩):=byRow2 "special-get-raises" (P:=Qz os) (λw=>zv5 w os) (λw=>zv6 w os) w
theorem fin (w:ci)(os:lz):topRun treeTable pg w 11 an 2 (SharedT.abs ⟨Tz w.params,499,li,gs,boot_drawn,875,os⟩) ⟨doneF .next,cE,⟨399,0,415,68⟩,B⟩=some ⟨Hf w.params,gs,boot_drawn,875,os⟩:=by
 rw[PySem.W.Fast.te14082659384304107361,ie];kernel_rfl
theorem run (w:ci)(os:lz):topRun treeTable pg w 11 an (12+(1+(4143+(2)))) ⟨boot_heap w.params,gs,boot_drawn,boot_toks,os⟩ (topStub pg)=some ⟨Hf w.params,gs,boot_drawn,875,os⟩:=
 go_top (pre w os) (piece_block (env:=ev) (b:=behindTheImports pg) (block w os) (piece_app (env:=ev) (l:=zgh) (segRun_of (zuj w os)) (piece_nil (env:=ev) (fin w os))))
def K (P:fq):Frag:=(nat_lit 2,boot_o_2 P)::(nat_lit 3,f3 P)::(nat_lit 15,f15)::(nat_lit 22,f22)::(nat_lit 23,f23 P)::(nat_lit 24,f24)::(nat_lit 25,f25)::(nat_lit 28,f28)::(nat_lit 35,f35)::(nat_lit 37,f37)::(nat_lit 38,f38)::(nat_lit 40,f40)::(nat_lit 41,f41)::(nat_lit 42,f42)::(nat_lit 43,f43 P)::(nat_lit 44,f44)::(nat_lit 47,f47)::(nat_lit 54,f54)::(nat_lit 56,f56)::(nat_lit 57,f57)::(nat_lit 59,f59)::(nat_lit 60,f60)::(nat_lit 61,f61)::(nat_lit 62,f62 P)::(nat_lit 63,f63)::(nat_lit 66,f66)::(nat_lit 73,f73)::(nat_lit 75,f75)::(nat_lit 76,f76)::(nat_lit 78,f78)::(nat_lit 79,f79)::(nat_lit 80,f80)::(nat_lit 81,f81 P)::(nat_lit 82,f82)::(nat_lit 85,f85)::(nat_lit 92,f92)::(nat_lit 94,f94)::(nat_lit 95,f95)::(nat_lit 97,f97)::(nat_lit 98,f98)::(nat_lit 99,f99)::(nat_lit 100,aL P)::(nat_lit 101,aM)::(nat_lit 104,aN)::(nat_lit 111,aO)::(nat_lit 113,aP)::(nat_lit 114,aQ)::(nat_lit 116,aR)::(nat_lit 117,aS)::(nat_lit 118,aT)::(nat_lit 119,aU P)::(nat_lit 120,aV)::(nat_lit 123,aW)::(nat_lit 130,aX)::(nat_lit 132,aY)::(nat_lit 133,aZ)::(nat_lit 135,zaa)::(nat_lit 136,zab)::(nat_lit 137,zac)::(nat_lit 138,zad P)::(nat_lit 139,zae)::(nat_lit 142,zaf)::(nat_lit 149,zag)::(nat_lit 151,zai)::(nat_lit 152,zaj)::(nat_lit 154,zak)::(nat_lit 155,zal)::(nat_lit 156,zam)::(nat_lit 157,zan P)::(nat_lit 158,zao)::(nat_lit 161,zap)::(nat_lit 168,zaq)::(nat_lit 170,zar)::(nat_lit 171,zas)::(nat_lit 173,zat)::(nat_lit 174,zau)::(nat_lit 175,zav)::(nat_lit 176,zaw P)::(nat_lit 177,zax)::(nat_lit 180,zay)::(nat_lit 187,zaz)::(nat_lit 189,za0)::(nat_lit 190,za1)::(nat_lit 192,za2)::(nat_lit 193,za3)::(nat_lit 194,za4)::(nat_lit 195,za5 P)::(nat_lit 196,za6)::(nat_lit 199,za7)::(nat_lit 206,za8)::(nat_lit 208,za9)::(nat_lit 209,za_)::(nat_lit 211,zaA)::(nat_lit 212,zaB)::(nat_lit 213,zaC)::(nat_lit 214,zaD P)::(nat_lit 215,zaE)::(nat_lit 218,zaF)::(nat_lit 220,zaH)::(nat_lit 221,zaI)::(nat_lit 223,zaJ)::(nat_lit 224,zaK)::(nat_lit 225,zaL)::(nat_lit 227,zaM)::(nat_lit 228,zaN)::(nat_lit 230,zaP)::(nat_lit 231,zaQ)::(nat_lit 232,zaR)::(nat_lit 234,zaS)::(nat_lit 235,zaT)::(nat_lit 237,zaU)::(nat_lit 238,zaV)::(nat_lit 239,zaW)::(nat_lit 241,zaY)::(nat_lit 242,zaZ)::(nat_lit 244,zba)::(nat_lit 245,zbb)::(nat_lit 246,zbc)::(nat_lit 249,zbd)::(nat_lit 250,zbf)::(nat_lit 251,zbg)::(nat_lit 253,zbh)::(nat_lit 254,zbi)::(nat_lit 256,zbj)::(nat_lit 257,zbk)::(nat_lit 258,zbl)::(nat_lit 261,zbm)::(nat_lit 262,zbn)::(nat_lit 263,zbo)::(nat_lit 266,zbp)::(nat_lit 267,zbq)::(nat_lit 268,zbr P)::(nat_lit 269,zbs)::(nat_lit 270,zbt)::(nat_lit 271,zbu)::(nat_lit 272,zbv)::(nat_lit 273,zbw)::(nat_lit 274,zbx)::(nat_lit 275,zby P)::(nat_lit 276,zbz)::(nat_lit 277,zb0)::(nat_lit 278,zb1)::(nat_lit 279,zb2)::(nat_lit 281,zb4)::(nat_lit 282,zb5)::(nat_lit 284,zb6)::(nat_lit 285,zb7)::(nat_lit 286,zb8)::(nat_lit 288,zb9)::(nat_lit 289,zb_)::(nat_lit 291,zbA)::(nat_lit 292,zbB)::(nat_lit 293,zbC)::(nat_lit 296,zbD)::(nat_lit 297,zbE)::(nat_lit 298,zbF)::(nat_lit 300,zbG)::(nat_lit 301,zbH)::(nat_lit 303,zbI)::(nat_lit 304,zbJ)::(nat_lit 305,zbK)::(nat_lit 307,zbL)::(nat_lit 308,zbM)::(nat_lit 310,zbN)::(nat_lit 311,zbO)::(nat_lit 312,zbP)::(nat_lit 314,zbQ)::(nat_lit 315,zbR)::(nat_lit 317,zbS)::(nat_lit 318,zbT)::(nat_lit 319,zbU)::(nat_lit 321,zbV)::(nat_lit 322,zbW)::(nat_lit 324,zbX)::(nat_lit 325,zbY)::(nat_lit 326,zbZ)::(nat_lit 329,zca)::(nat_lit 330,zcb)::(nat_lit 331,zcc)::(nat_lit 333,zcd)::(nat_lit 334,zce)::(nat_lit 336,zcf)::(nat_lit 337,zcg)::(nat_lit 338,zch)::(nat_lit 340,zci)::(nat_lit 341,zcj)::(nat_lit 343,zck)::(nat_lit 344,zcl)::(nat_lit 345,zcm)::(nat_lit 347,zcn)::(nat_lit 348,zco)::(nat_lit 350,zcq)::(nat_lit 351,zcr)::(nat_lit 352,zcs)::(nat_lit 355,zct)::(nat_lit 356,zcu)::(nat_lit 357,zcv)::(nat_lit 360,zcw)::(nat_lit 361,zcx)::(nat_lit 362,zcy)::(nat_lit 364,zcz)::(nat_lit 365,zc0)::(nat_lit 367,zc1)::(nat_lit 368,zc2)::(nat_lit 369,zc3)::(nat_lit 371,zc5)::(nat_lit 372,zc6)::(nat_lit 374,zc7)::(nat_lit 375,zc8)::(nat_lit 376,zc9)::(nat_lit 379,zc_)::(nat_lit 380,zcB)::(nat_lit 381,zcC)::(nat_lit 383,zcD)::(nat_lit 384,zcE)::(nat_lit 386,zcF)::(nat_lit 387,zcG)::(nat_lit 388,zcH)::(nat_lit 390,zcI)::(nat_lit 391,zcJ)::(nat_lit 393,zcK)::(nat_lit 394,zcL)::(nat_lit 395,zcM)::(nat_lit 397,zcN)::(nat_lit 398,zcO)::(nat_lit 400,zcQ)::(nat_lit 401,zcR)::(nat_lit 402,zcS)::(nat_lit 404,zcT)::(nat_lit 405,zcU)::(nat_lit 407,zcV)::(nat_lit 408,zcW)::(nat_lit 409,zcX)::(nat_lit 412,zcZ)::(nat_lit 413,zda)::(nat_lit 414,zdb)::(nat_lit 416,zdc)::(nat_lit 417,zdd)::(nat_lit 419,zde)::(nat_lit 420,zdg)::(nat_lit 421,zdh)::(nat_lit 423,zdi)::(nat_lit 424,zdj)::(nat_lit 426,zdk)::(nat_lit 427,zdl)::(nat_lit 428,zdm)::(nat_lit 430,zdo)::(nat_lit 431,zdp)::(nat_lit 433,zdq)::(nat_lit 434,zdr)::(nat_lit 435,zds)::(nat_lit 437,zdt)::(nat_lit 438,zdu)::(nat_lit 440,zdw)::(nat_lit 441,zdx)::(nat_lit 442,zdy)::(nat_lit 444,zdz)::(nat_lit 445,zd0)::(nat_lit 447,zd1)::(nat_lit 448,zd2)::(nat_lit 449,zd3)::(nat_lit 452,zd4)::(nat_lit 453,zd5)::(nat_lit 454,zd6)::(nat_lit 456,zd7)::(nat_lit 457,zd8)::(nat_lit 459,zd9)::(nat_lit 460,zd_)::(nat_lit 461,zdA)::(nat_lit 464,zdB)::(nat_lit 465,zdC)::(nat_lit 466,zdD)::(nat_lit 469,zdE)::(nat_lit 470,zdG)::(nat_lit 471,zdH)::(nat_lit 473,zdI)::(nat_lit 474,zdJ)::(nat_lit 476,zdK)::(nat_lit 477,zdL)::(nat_lit 478,zdM)::(nat_lit 480,zdN)::(nat_lit 481,zdO)::(nat_lit 483,zdP)::(nat_lit 484,zdQ)::(nat_lit 485,zdR)::(nat_lit 487,zdS)::(nat_lit 488,zdT)::(nat_lit 490,zdU)::(nat_lit 491,zdV)::(nat_lit 492,zdW)::(nat_lit 494,zdX)::(nat_lit 495,zdY)::(nat_lit 497,zdZ)::(nat_lit 498,zea):: []
abbrev hk:Hook:=kmHook K [2,3,15,22,23,24,25,28,35,37,38,40,41,42,43,44,47,54,56,57,59,60,61,62,63,66,73,75,76,78,79,80,81,82,85,92,94,95,97,98,99,100,101,104,111,113,114,116,117,118,119,120,123,130,132,133,135,136,137,138,139,142,149,151,152,154,155,156,157,158,161,168,170,171,173,174,175,176,177,180,187,189,190,192,193,194,195,196,199,206,208,209,211,212,213,214,215,218,220,221,223,224,225,227,228,230,231,232,234,235,237,238,239,241,242,244,245,246,249,250,251,253,254,256,257,258,261,262,263,266,267,268,269,270,271,272,273,274,275,276,277,278,279,281,282,284,285,286,288,289,291,292,293,296,297,298,300,301,303,304,305,307,308,310,311,312,314,315,317,318,319,321,322,324,325,326,329,330,331,333,334,336,337,338,340,341,343,344,345,347,348,350,351,352,355,356,357,360,361,362,364,365,367,368,369,371,372,374,375,376,379,380,381,383,384,386,387,388,390,391,393,394,395,397,398,400,401,402,404,405,407,408,409,412,413,414,416,417,419,420,421,423,424,426,427,428,430,431,433,434,435,437,438,440,441,442,444,445,447,448,449,452,453,454,456,457,459,460,461,464,465,466,469,470,471,473,474,476,477,478,480,481,483,484,485,487,488,490,491,492,494,495,497,498] (λ_=>by kernel_rfl) []
def q:ce:= {pg with main:= {pg.main with body:= [tp 1,tp 2,tp 3,tp 4,tp 5,tp 6,tp 7,tp 8,tp 9,tp 10,tp 11,tp 13,tp 14,tp 15,tp 16,tp 18,tp 19,tp 20,tp 21,tp 23,tp 24,tp 25,tp 26,tp 27,tp 28,tp 29,tp 30,tp 31,tp 32,tp 33,tp 34,tp 35,tp 36,tp 38,tp 40,tp 41,tp 42,tp 43,tp 44,tp 45,tp 46,tp 47,tp 48,tp 49,tp 50,tp 51,tp 52,tp 53,tp 54,tp 55,tp 56,tp 57,tp 58,tp 59,tp 60]}}
abbrev Xt (s:ai):Bool:=xlAt q [] s&&recOk (RowW.records (OpenRow.toRowW (PySem.Challenge.rw_copiedhouse_k72_joins_exchanged).row)) s
theorem sz (w:ci):((boot_heap w.params).isNs dz&&gs.size==0,(boot_heap w.params).objs.size,(boot_heap w.params).nsMap dz "__annotations__")=(true,11,an):=by
 rw[PySem.W.Fast.te8920871248978507458];kernel_rfl
theorem lk1 (w:ci)(os:lz):(staticsOk (importedModules pg.main.body) (boot_heap w.params) (Hf w.params)&&namesBound pg (Hf w.params)&&gensDone ⟨Hf w.params,gs,boot_drawn,875,os⟩&&laidKept (boot_heap w.params) (Hf w.params))=true:=by
 rw[PySem.W.Fast.te5923862056798008813];kernel_rfl
theorem lk2 (w:ci)(os:lz):openSeen q [61#1,60#1] (importedModules pg.main.body) Xt true ⟨Hf w.params,gs,boot_drawn,875,os⟩=openGood q [61#1,60#1]:=by
 rw[PySem.W.Fast.te4187177175401517315,PySem.W.Fast.te5923862056798008813];kernel_rfl
theorem lk3 (w:ci)(os:lz):Hook.obs hk ⟨Hf w.params,gs,boot_drawn,875,os⟩=Hook.val hk w:=by kernel_rfl
theorem left:LeftO pg q [61#1,60#1] Xt (Hook.obs hk) (Hook.val hk) 8410:=LeftO.of_pieces (H₀:=boot_heap) (H₁:=Hf) (M:=12+(1+(4143+(2)))) (boot_open rfl rfl λ_=>rfl) sz run 2#0 λw=>funext λos=>looks_pair (lk1 w os) (looks_pair (lk2 w os) (lk3 w os))
theorem ws:(PySem.Challenge.rw_copiedhouse_k72_joins_exchanged).wellSaid=true:=by kernel_rfl
end
end Hd
set_option maxHeartbeats 4000000
namespace L3
open PySem PySem.Spec PyProof.Rows L2
abbrev St:=L2.St
structure o8 where
 f:ac
 o:af
 q:Str
 c:ac
 c':ac
 oz:af
 dd:ac
 kvs:List 3#9
inductive PV where
 | non | bl (b:Bool) | int (i:Int) | str (x:Str) | ty (n:String)
 | tup (xs:List PV) | lst (xs:List PV) | dct (kvs:List 2#3) | itb (kvs:List 3#9) | clo (D:o8) | obj (n:Nat)
def zgo (kvs:List 3#9):List (List z8×V):=kvs.map λp=>(p.1.map Sum.inl,V.int p.2)
inductive PO where
 | lst (xs:List PV) | dct (kvs:List 2#3) | tbl (T:ac) (pos:fe) (q:Str) | itb (kvs:List 3#9) | rcd (kvs:List 2#3) | fd (o:af) (kvs:List 2#3) | ros (xs:List PV)
abbrev z5:=List PO
abbrev zF:=List (Option PV)
abbrev K3:=PV->z5->Prop
def zp6 (K:Frag)(a:ac)(vs:List V):Prop:= ∃(o:af) (zf:Array aa) (n:Nat),K.lookup a=some o/\o.cls= .type 18#1 /\o.dict=none/\o.data= .seq zf n/\zf.size<=ak/\zJ vs zf.toList
def zp5 (K:Frag)(a:ac)(vs:List V):Prop:= ∃(o:af) (zf:Array aa) (n:Nat),K.lookup a=some o/\o.cls= .type 14#1 /\o.dict=none/\o.data= .seq zf n/\zf.size<=ak/\zJ vs zf.toList/\o.slots= #[]
def tK (K:Frag)(A:List ac)(H:Hp)(a:ac)(vs:List V):Prop:=(Rd H a (.tup vs)/\a∉A)∨zp6 K a vs
def rJ (K:Frag)(A:List ac)(H:Hp)(a:ac)(vs:List V):Prop:=(Rd H a (.lst vs)/\a∉A)∨zp5 K a vs
def zoW (A:List ac)(H:Hp)(a:ac)(us:List (z8×V)):Prop:=H a=some (.dK us)/\a∉A
structure zoU (A:List ac)(H:Hp)(D:o8):Prop where
 fn:H D.f=some (.ext (zgW D.f D.o))/\D.f∉A
 cd:H D.c'=some (.ext (zgA D.c' D.q))/\D.c'∉A
 cl:H D.c=some (.ext (zgW D.c D.oz))/\D.c∉A
 dt:H D.dd=some (.dT (zgo D.kvs))/\D.dd∉A
mutual
inductive RV (K:Frag)(A:List ac)(H:Hp):PV->V->Prop
 | non:RV K A H .non .non
 | bl (b:Bool):RV K A H (.bl b) (.bl b)
 | int (i:Int):RV K A H 1#6 1#6
 | str (x:Str):RV K A H (.str x) (.str x)
 | ty (n:String):RV K A H (.ty n) (.ty n)
 | tup {xs:List PV} {a:ac} {vs:List V} :tK K A H a vs->vs.length<=ak->RVs K A H xs vs->RV K A H 9#6 8#9
 | lst {xs:List PV} {a:ac} {vs:List V} :rJ K A H a vs->vs.length<=ak->RVs K A H xs vs->RV K A H 9#3 8#9
 | dct {kvs:List 2#3} {a:ac} {us:List (z8×V)} :zoW A H a us->us.length<=ak->RKs K A H kvs us->RV K A H 2#4 8#9
 | itb {kvs:List 3#9} {a:ac} :H a=some (.dT (zgo kvs))->a∉A->RV K A H (.itb kvs) 8#9
 | clo {D:o8} :zoU A H D->RV K A H (.clo D) (.ref D.f)
inductive RVs (K:Frag)(A:List ac)(H:Hp):List PV->List V->Prop
 | nil:RVs K A H [] []
 | cons {x:PV} {v:V} {xs:List PV} {vs:List V} :RV K A H x v->RVs K A H xs vs->RVs K A H (x::xs) (v::vs)
inductive RKs (K:Frag)(A:List ac)(H:Hp):List 2#3->List (z8×V)->Prop
 | nil:RKs K A H [] []
 | cons {k:z8} {x:PV} {v:V} {xs:List 2#3} {vs:List (z8×V)} :RV K A H x v->RKs K A H xs vs->RKs K A H ((k,x)::xs) ((k,v)::vs)
end
structure zU (A:List ac)(H:Hp)(A':List ac)(H':Hp):Prop where
 ext: ∃B,A'=A++B/\∀b∈B,H b=none
 keep: ∀b o,H b=some o->b∉A->H' b=some o
 live: ∀b,H b≠none->H' b≠none
theorem zU.refl (A:List ac)(H:Hp):zU A H A H:=⟨⟨[],3#0,3#0⟩,λ_ _ h _=>h,λ_ h=>h⟩
theorem zU.out {A A':List ac}{H H':Hp}(g:zU A H A' H'){b:ac}{o:HO}(h:H b=some o)(n:b∉A):b∉A':=by
 obtain⟨B,rfl,hB⟩:=g.ext;intro m;rcases aq.mp m with m | m
 ·exact n m
 ·rw[hB b m]at h;cases h
theorem zU.trans {A A1 A2:List ac}{H H1 H2:Hp}(g:zU A H A1 H1)(g':zU A1 H1 A2 H2):zU A H A2 H2:=by
 refine⟨?_,λb o h n=>g'.keep b o (g.keep b o h n) (g.out h n),λb h=>g'.live b (g.live b h)⟩;obtain⟨B,rfl,hB⟩:=g.ext;obtain⟨C,rfl,hC⟩:=g'.ext;refine⟨B++C,3#0,λb m=> ?_⟩;rcases aq.mp m with m | m
 ·exact hB b m
 ·by_cases h:H b=none
  ·exact h
  ·exact absurd (hC b m) (g.live b h)
theorem zU.sub {A A':List ac}{H H':Hp}(g:zU A H A' H'){i:Nat}{a:ac}(h:A[i]?=some a):A'[i]?=some a:=by
 obtain⟨B,rfl,_⟩:=g.ext;rw[bw (ah.mp h).1];exact h
theorem zU.new {A:List ac}{H:Hp}{p:ac}{o:HO}(h:H p=none):zU A H A (upd H p o):=by
 refine⟨⟨[],3#0,3#0⟩,λb u e _=>by rw[yD (u9 e h)];exact e,λb hb=> ?_⟩;by_cases e:b=p
 ·subst e;rw[yM];exact fc _
 ·rw[yD e];exact hb
theorem zU.newObj {A:List ac}{H:Hp}{p:ac}{o:HO}(h:H p=none):zU A H (A++ [p]) (upd H p o):=by
 refine⟨⟨[p],rfl,λb m=>by rw[ao.mp m];exact h⟩,(zU.new (A:=A) h).keep,(zU.new (A:=A) h).live⟩
theorem zU.put {A:List ac}{H:Hp}{p:ac}{o:HO}(h:p∈A):zU A H A (upd H p o):=by
 refine⟨⟨[],3#0,3#0⟩,λb u e n=>by rw[yD (λz=>n (by rw[z];exact h))];exact e,λb hb=> ?_⟩;by_cases e:b=p
 ·subst e;rw[yM];exact fc _
 ·rw[yD e];exact hb
section
variable {K:Frag} {A A':List ac} {H H':Hp}
theorem tK.sq {a:ac}{vs:List V}(h:tK K A H a vs):xT K H a vs:=h.imp And.left id
theorem rJ.sq {a:ac}{vs:List V}(h:rJ K A H a vs):x8 K H a vs:=h.imp And.left id
theorem Rd.grow {a:ac}{u:HO}(g:zU A H A' H')(h:Rd H a u/\a∉A):Rd H' a u/\a∉A':=by
 obtain⟨h | ⟨o,h⟩,n⟩:=h
 ·exact⟨.inl (g.keep _ _ h n),g.out h n⟩
 ·exact⟨.inr ⟨o,g.keep _ _ h n⟩,g.out h n⟩
theorem tK.grow {a:ac}{vs:List V}(g:zU A H A' H')(h:tK K A H a vs):tK K A' H' a vs:=h.imp (Rd.grow g) id
theorem rJ.grow {a:ac}{vs:List V}(g:zU A H A' H')(h:rJ K A H a vs):rJ K A' H' a vs:=h.imp (Rd.grow g) id
mutual
theorem RV.grow (g:zU A H A' H'){x:PV}{v:V} :RV K A H x v->RV K A' H' x v
 | .non=> .non
 | .bl b=> .bl b
 | .int i=> .int i
 | .str x=> .str x
 | .ty n=> .ty n
 | .tup t z r=> .tup (t.grow g) z (RVs.grow g r)
 | .lst t z r=> .lst (t.grow g) z (RVs.grow g r)
 | .dct t z r=> .dct ⟨g.keep _ _ t.1 t.2,g.out t.1 t.2⟩ z (RKs.grow g r)
 | .itb e n=> .itb (g.keep _ _ e n) (g.out e n)
 | .clo h=> .clo ⟨⟨g.keep _ _ h.fn.1 h.fn.2,g.out h.fn.1 h.fn.2⟩,⟨g.keep _ _ h.cd.1 h.cd.2,g.out h.cd.1 h.cd.2⟩,⟨g.keep _ _ h.cl.1 h.cl.2,g.out h.cl.1 h.cl.2⟩,⟨g.keep _ _ h.dt.1 h.dt.2,g.out h.dt.1 h.dt.2⟩⟩
theorem RVs.grow (g:zU A H A' H'){xs:List PV}{vs:List V} :RVs K A H xs vs->RVs K A' H' xs vs
 | .nil=> .nil
 | .cons r t=> .cons (RV.grow g r) (RVs.grow g t)
theorem RKs.grow (g:zU A H A' H'){xs:List 2#3}{vs:List (z8×V)} :RKs K A H xs vs->RKs K A' H' xs vs
 | .nil=> .nil
 | .cons r t=> .cons (RV.grow g r) (RKs.grow g t)
end
theorem RVs.len {xs:List PV}{vs:List V} :RVs K A H xs vs->xs.length=vs.length
 | .nil=>rfl
 | .cons _ t=>by rw[bv,bv,RVs.len t]
theorem RKs.len {xs:List 2#3}{vs:List (z8×V)} :RKs K A H xs vs->xs.length=vs.length
 | .nil=>rfl
 | .cons _ t=>by rw[bv,bv,RKs.len t]
theorem RVs.append {xs ys:List PV}{vs ws:List V} :RVs K A H xs vs->RVs K A H ys ws->RVs K A H (xs++ys) (vs++ws)
 | .nil,h=>h
 | .cons r t,h=> .cons r (RVs.append t h)
theorem RVs.get {xs:List PV}{vs:List V}{i:Nat}{x:PV}(h:RVs K A H xs vs)(e:xs[i]?=some x): ∃v,vs[i]?=some v/\RV K A H x v:=by
 induction i generalizing xs vs with
 | zero=>cases h with
  | nil=>cases e
  | cons r t=>simp at e;subst e;exact⟨_,rfl,r⟩
 | succ i ih=>cases h with
  | nil=>cases e
  | cons r t=>simpa using ih t (by simpa using e)
theorem RVs.get' {xs:List PV}{vs:List V}{i:Nat}{v:V}(h:RVs K A H xs vs)(e:vs[i]?=some v): ∃x,xs[i]?=some x/\RV K A H x v:=by
 induction i generalizing xs vs with
 | zero=>cases h with
  | nil=>cases e
  | cons r t=>simp at e;subst e;exact⟨_,rfl,r⟩
 | succ i ih=>cases h with
  | nil=>cases e
  | cons r t=>simpa using ih t (by simpa using e)
theorem RVs.drop {xs:List PV}{vs:List V}(h:RVs K A H xs vs)(n:Nat):RVs K A H (xs.drop n) (vs.drop n):=by
 induction n generalizing xs vs with
 | zero=>exact h
 | succ n ih=>cases h with
  | nil=>exact .nil
  | cons r t=>exact ih t
theorem RVs.take {xs:List PV}{vs:List V}(h:RVs K A H xs vs)(n:Nat):RVs K A H (xs.take n) (vs.take n):=by
 induction n generalizing xs vs with
 | zero=>exact .nil
 | succ n ih=>cases h with
  | nil=>exact .nil
  | cons r t=>exact .cons r (ih t)
theorem RVs.reverse {xs:List PV}{vs:List V}(h:RVs K A H xs vs):RVs K A H xs.reverse vs.reverse:=by
 induction xs generalizing vs with
 | nil=>cases h;exact .nil
 | cons x xs ih=>cases h with
  | cons r t=>rw[ng,ng];exact(ih t).append (.cons r .nil)
inductive RE (K:Frag)(A:List ac)(H:Hp):PV->V->Prop
 | val {x:PV} {v:V} :RV K A H x v->RE K A H x v
 | obj {i:Nat} {a:ac} :A[i]?=some a->RE K A H (.obj i) 8#9
theorem RE.grow (g:zU A H A' H'){x:PV}{v:V} :RE K A H x v->RE K A' H' x v
 | .val r=> .val (r.grow g)
 | .obj e=> .obj (g.sub e)
abbrev yT (K:Frag)(A:List ac)(H:Hp):List PV->List V->Prop:=Paired (RE K A H)
theorem yT.grow (g:zU A H A' H'){xs:List PV}{vs:List V} :yT K A H xs vs->yT K A' H' xs vs
 | .nil=> .nil
 | .cons r t=> .cons (r.grow g) (yT.grow g t)
inductive RR (K:Frag)(A:List ac)(H:Hp)(a:ac):PV->V->Prop
 | val {x:PV} {v:V} :RV K A H x v->RR K A H a x v
 | obj {i j:Nat} {p:ac} :A[i]?=some a->j < i->A[j]?=some p->RR K A H a (.obj j) 3#13
abbrev xS (K:Frag)(A:List ac)(H:Hp)(a:ac):List 2#3->List (z8×V)->Prop:=Paired λp q=>p.1=q.1/\RR K A H a p.2 q.2
theorem RR.grow (g:zU A H A' H'){a:ac}{x:PV}{v:V} :RR K A H a x v->RR K A' H' a x v
 | .val r=> .val (r.grow g)
 | .obj e l e'=> .obj (g.sub e) l (g.sub e')
theorem xS.grow (g:zU A H A' H'){a:ac}{xs:List 2#3}{vs:List (z8×V)} :xS K A H a xs vs->xS K A' H' a xs vs
 | .nil=> .nil
 | .cons r t=> .cons ⟨r.1,r.2.grow g⟩ (xS.grow g t)
abbrev sM (K:Frag)(A:List ac)(H:Hp)(a:ac):List PV->List V->Prop:=Paired (RR K A H a)
theorem sM.grow (g:zU A H A' H'){a:ac}{xs:List PV}{vs:List V} :sM K A H a xs vs->sM K A' H' a xs vs
 | .nil=> .nil
 | .cons r t=> .cons (r.grow g) (sM.grow g t)
def OA (K:Frag)(A:List ac)(H:Hp)(a:ac):PO->Prop
 | .lst xs=> ∃vs,H a=some (.lst vs)/\RVs K A H xs vs/\vs.length<=ak
 | .dct kvs=> ∃us,H a=some (.dK us)/\RKs K A H kvs us/\us.length<=ak
 | .tbl T pos q=>a=T/\∃ps,H a=some (.tbl ps)/\(ps= #[]∨∃c',ps= #[rawInt pos.line,rawInt pos.col,.ref c']/\H c'=some (.ext (zgA c' q))/\c'∉A)
 | .itb kvs=>H a=some (.dT (zgo kvs))
 | .rcd kvs=> ∃us,H a=some (.dK us)/\xS K A H a kvs us/\us.length<=ak
 | .fd ob kvs=> ∃us,H a=some (.frz ob (.dK us))/\RKs K A H kvs us/\us.length<=ak
 | .ros xs=> ∃vs,H a=some (.lst vs)/\sM K A H a xs vs/\vs.length<=ak
structure RS (K:Frag)(A:List ac)(H:Hp)(st:z5):Prop where
 nd:A.Nodup
 len:A.length=st.length
 at_: ∀(i:Nat) (a:ac) (o:PO),A[i]?=some a->st[i]?=some o->OA K A H a o
structure yY (K:Frag)(A:List ac)(H:Hp)(σ:St)(env:zF)(st:z5):Prop where
 rs:RS K A H st
 len:env.length=σ.length
 at_: ∀(i:Nat) (x:PV),env[i]?=some (some x)->∃v,σ[i]?=some (some v)/\RE K A H x v
theorem yY.grow {σ:St}{env:zF}{st zl:z5}(r:yY K A H σ env st)(g:zU A H A' H')(s:RS K A' H' zl):yY K A' H' σ env zl:=
 ⟨s,r.len,λi x e=>let⟨v,e1,r1⟩:=r.at_ i x e;⟨v,e1,r1.grow g⟩⟩
theorem OA.move {a:ac}{o:PO}(h:OA K A H a o)(g:zU A H A' H')(e:H' a=H a):OA K A' H' a o:=by
 cases o with
 | lst xs=>obtain⟨vs,h,r,z⟩:=h;exact⟨vs,by rw[e];exact h,r.grow g,z⟩
 | dct xs=>obtain⟨vs,h,r,z⟩:=h;exact⟨vs,by rw[e];exact h,r.grow g,z⟩
 | tbl T pos q=>
  obtain⟨ea,ps,h,r⟩:=h;refine⟨ea,ps,by rw[e];exact h,r.imp id ?_⟩;rintro⟨c',e1,e2,e3⟩;exact⟨c',e1,g.keep _ _ e2 e3,g.out e2 e3⟩
 | itb kvs=>exact e.trans h
 | rcd xs=>obtain⟨vs,h,r,z⟩:=h;exact⟨vs,by rw[e];exact h,xS.grow g r,z⟩
 | fd ob xs=>obtain⟨vs,h,r,z⟩:=h;exact⟨vs,by rw[e];exact h,r.grow g,z⟩
 | ros xs=>obtain⟨vs,h,r,z⟩:=h;exact⟨vs,by rw[e];exact h,sM.grow g r,z⟩
theorem OA.some {a:ac}{o:PO}(h:OA K A H a o):H a≠none:=by
 cases o with
 | lst xs=>obtain⟨vs,h,r⟩:=h;rw[h];exact fc _
 | dct xs=>obtain⟨vs,h,r⟩:=h;rw[h];exact fc _
 | tbl T pos q=>obtain⟨_,ps,h,r⟩:=h;rw[h];exact fc _
 | itb kvs=>rw[show H a=_ from h];exact fc _
 | rcd xs=>obtain⟨vs,h,r⟩:=h;rw[h];exact fc _
 | fd ob xs=>obtain⟨vs,h,r⟩:=h;rw[h];exact fc _
 | ros xs=>obtain⟨vs,h,r⟩:=h;rw[h];exact fc _
theorem RS.has {st:z5}(r:RS K A H st){a:ac}(h:a∈A): ∃(i:Nat) (o:PO),A[i]?=some a/\st[i]?=some o/\OA K A H a o:=by
 obtain⟨i,hi,e⟩:=qy h;have hs:i < st.length:=by rw[<- r.len];exact hi
 have e1:A[i]?=some a:=by rw[bz hi,e]
 have e2:st[i]?=some st[i]:=bz hs;exact⟨i,st[i],e1,e2,r.at_ i a _ e1 e2⟩
theorem RS.live {st:z5}(r:RS K A H st){a:ac}(h:a∈A):H a≠none:=let⟨_,_,_,_,o⟩:=r.has h;o.some
theorem RS.move {st:z5}(r:RS K A H st)(g:zU A H A H')(e: ∀a∈A,H' a=H a):RS K A H' st:=
 ⟨r.nd,r.len,λi a o h1 h2=>(r.at_ i a o h1 h2).move g (e a (dh h1))⟩
theorem RS.fresh {st:z5}(r:RS K A H st){p:ac}(h:H p=none):p∉A:=λm=>r.live m h
theorem RS.new {st:z5}(r:RS K A H st){p:ac}{o:HO}(h:H p=none):RS K A (upd H p o) st:=
 r.move (.new h) λa m=>yD λz=>r.fresh h (z▸m)
theorem RS.newObj {st:z5}(r:RS K A H st){p:ac}{o:HO}{q:PO}(h:H p=none)(hq:OA K (A++ [p]) (upd H p o) p q):RS K (A++ [p]) (upd H p o) (st++ [q]):=by
 refine⟨?_,by rw[am,am,r.len];rfl,λi a u h1 h2=> ?_⟩
 ·refine bj.mpr ⟨r.nd,3#0,λa ha b hb=> ?_⟩
  rw[ao.mp hb];exact λz=>r.fresh h (z▸ha)
 ·by_cases hi:i < A.length
  ·rw[bw hi]at h1
   rw[bw (by rw[<- r.len];exact hi)]at h2;exact(r.at_ i a u h1 h2).move (.newObj h) (yD λz=>r.fresh h (z▸dh h1))
  ·have hi':i=A.length:=by
    have:=(ah.mp h1).1;rw[am,cr]at this;grobner
   subst hi';rw[ba (ar _),ig]at h1;rw[r.len,ba (ar _),ig]at h2;cases h1;cases h2;exact hq
theorem RS.put {st:z5}(r:RS K A H st){i:Nat}{p:ac}{o:HO}{q:PO}(h:A[i]?=some p)(hq:OA K A (upd H p o) p q):RS K A (upd H p o) (st.set i q):=by
 have hp:=dh h;refine⟨r.nd,by rw[dq];exact r.len,λj a u h1 h2=> ?_⟩;by_cases Av:i=j
 ·subst Av
  rw[h]at h1;cases h1;rw[dv (by rw[<- r.len];exact(ah.mp h).1)]at h2;cases h2;exact hq
 ·rw[dw Av]at h2
  refine(r.at_ j a u h1 h2).move (.put hp) (yD λz=>Av ?_);subst z;exact(dg (ah.mp h).1 r.nd).mp (h.trans h1.symm)
end
abbrev zC:=zF->z5->K3->Prop
abbrev xE:=zF->z5->(Bool->z5->Prop)->Prop
abbrev yK:=zF->z5->(List PV->z5->Prop)->Prop
structure xK where
 nx:zF->z5->Prop
 rt:K3
 bk:zF->z5->Prop:=λ_ _=>False
 ct:zF->z5->Prop:=λ_ _=>False
abbrev yS:=xK->zF->z5->Prop
abbrev w4:=PV->zF->z5->(zF->z5->Prop)->Prop
abbrev tY:=List PV->zF->z5->(zF->z5->Prop)->Prop
abbrev xX:=Option (Nat×PO)
abbrev tJ:=zF->z5->(xX->List PV->z5->Prop)->Prop
abbrev R3:=PV->PV->z5->K3->Prop
abbrev zP:=List PV->z5->K3->Prop
def xR (K:Frag)(A:List ac)(H:Hp)(Q3:K3)(Q:VK):Prop:= ∀A' H' zl r v,zU A H A' H'->RS K A' H' zl->RE K A' H' r v->Q3 r zl->Q v H'
def iM (K:Frag)(A:List ac)(H:Hp)(Q3:Bool->z5->Prop)(Q:Bool->Hp->Prop):Prop:= ∀A' H' zl b,zU A H A' H'->RS K A' H' zl->Q3 b zl->Q b H'
def zpa (K:Frag)(A:List ac)(H:Hp)(Q3:List PV->z5->Prop)(Q:List V->Hp->Prop):Prop:= ∀A' H' zl rs vs,zU A H A' H'->RS K A' H' zl->yT K A' H' rs vs->Q3 rs zl->Q vs H'
def pG (K:Frag)(A:List ac)(H:Hp)(P3:zF->z5->Prop)(P:St->Hp->Prop):Prop:= ∀A' H' σ' zq zl,zU A H A' H'->yY K A' H' σ' zq zl->P3 zq zl->P σ' H'
structure iL (K:Frag)(A:List ac)(H:Hp)(D3:xK)(D:sK):Prop where
 nx:pG K A H D3.nx D.nx
 rt:xR K A H D3.rt D.rt
 bk:pG K A H D3.bk D.bk
 ct:pG K A H D3.ct D.ct
section
variable {K:Frag} {A A1:List ac} {H H1:Hp}
theorem xR.after {Q3:K3}{Q:VK}(f:xR K A H Q3 Q)(g:zU A H A1 H1):xR K A1 H1 Q3 Q:=λA' H' zl r v g'=>f A' H' zl r v (g.trans g')
theorem iM.after {Q3:Bool->z5->Prop}{Q:Bool->Hp->Prop}(f:iM K A H Q3 Q)(g:zU A H A1 H1):iM K A1 H1 Q3 Q:=λA' H' zl r g'=>f A' H' zl r (g.trans g')
theorem pG.after {Q3:zF->z5->Prop}{Q:St->Hp->Prop}(f:pG K A H Q3 Q)(g:zU A H A1 H1):pG K A1 H1 Q3 Q:=λA' H' σ' e' zl g'=>f A' H' σ' e' zl (g.trans g')
theorem iL.after {D3:xK}{D:sK}(f:iL K A H D3 D)(g:zU A H A1 H1):iL K A1 H1 D3 D:=⟨f.nx.after g,f.rt.after g,f.bk.after g,f.ct.after g⟩
theorem xR.now {Q3:K3}{Q:VK}(f:xR K A H Q3 Q){st:z5}{r:PV}{v:V}(s:RS K A H st)(e:RE K A H r v)(q:Q3 r st):Q v H:=f A H st r v (.refl _ _) s e q
end
def zK (K:Frag)(T:zC):TE:=λσ H Q=> ∃A env st Q3,yY K A H σ env st/\T env st Q3/\xR K A H Q3 Q
def x9 (K:Frag)(T:xE):TT:=λσ H Q=> ∃A env st Q3,yY K A H σ env st/\T env st Q3/\iM K A H Q3 Q
def wZ (K:Frag)(T:yK):TA:=λσ H Q=> ∃A env st Q3,yY K A H σ env st/\T env st Q3/\zpa K A H Q3 Q
def yZ (K:Frag)(T:yS):TS:=λD σ H=> ∃A env st D3,yY K A H σ env st/\T D3 env st/\iL K A H D3 D
def u5 (K:Frag)(G:w4):TG:=λv σ H Q=> ∃A env st x Q3,yY K A H σ env st/\RE K A H x v/\G x env st Q3/\pG K A H Q3 Q
def kH (K:Frag)(G:tY):uT:=λvs σ H Q=> ∃A env st xs Q3,yY K A H σ env st/\yT K A H xs vs/\G xs env st Q3/\pG K A H Q3 Q
def xV (K:Frag)(R:R3):R2:=λv w H Q=> ∃A st x y Q3,RS K A H st/\RE K A H x v/\RE K A H y w/\R x y st Q3/\xR K A H Q3 Q
def a9 (K:Frag)(R:PV->z5->K3->Prop):V->Hp->VK->Prop:=λv H Q=> ∃A st x Q3,RS K A H st/\RE K A H x v/\R x st Q3/\xR K A H Q3 Q
def sP (K:Frag)(R:zP):List V->Hp->VK->Prop:=λvs H Q=> ∃A st xs Q3,RS K A H st/\yT K A H xs vs/\R xs st Q3/\xR K A H Q3 Q
def zX (K:Frag)(S:zP):Sp:=λvs H Q _=>sP K S vs H Q
section
variable {X:Cx} {a b c e:Expr} {es:List Expr} {pos p p2:fe} {Ta Tb Tc:zC} {TA:yK} {tc td:xE}
theorem xP {t t':TE}(h:PE X e t)(w: ∀σ H Q,t' σ H Q->t σ H Q):PE X e t':=⟨λzc s σ H Q I q=>h zc s σ H Q I (w σ H Q q)⟩
theorem fP {t t':TT}(h:PT X e t)(w: ∀σ H Q,t' σ H Q->t σ H Q):PT X e t':=⟨λzc s σ H Q I q=>h zc s σ H Q I (w σ H Q q)⟩
theorem znf {t t':TT}(h:PW X e t)(w: ∀σ H Q,t' σ H Q->t σ H Q):PW X e t':=⟨λwh zc s σ H Q I q=>h wh zc s σ H Q I (w σ H Q q)⟩
theorem zmL {t t':L2.TA}(h:PA X es t)(w: ∀σ H Q,t' σ H Q->t σ H Q):PA X es t':=⟨λpos zc s σ H Q I q=>h pos zc s σ H Q I (w σ H Q q)⟩
theorem zu7 {t t':TT}(h:PF X es t)(w: ∀σ H Q,t' σ H Q->t σ H Q):PF X es t':=⟨λzc s σ H Q I q=>h zc s σ H Q I (w σ H Q q)⟩
theorem t8 {st:cu}{t t':TS}(h:PS X st t)(w: ∀D σ H,t' D σ H->t D σ H):PS X st t':=⟨λzc s σ H D I q=>h zc s σ H D I (w D σ H q)⟩
theorem fO {st:List cu}{t t':TS}(h:xC X st t)(w: ∀D σ H,t' D σ H->t D σ H):xC X st t':=⟨λzc s σ H D I q=>h zc s σ H D I (w D σ H q)⟩
theorem zfv {tg:Expr}{t t':TG}(h:PG X tg t)(w: ∀v σ H Q,t' v σ H Q->t v σ H Q):PG X tg t':=⟨λzc s σ H v u Q I r q=>h zc s σ H v u Q I r (w v σ H Q q)⟩
theorem zmX {tg:List Expr}{t t':uT}(h:uD X tg t)(w: ∀v σ H Q,t' v σ H Q->t v σ H Q):uD X tg t':=⟨λzc s σ H v u Q I r q=>h zc s σ H v u Q I r (w v σ H Q q)⟩
def uB (i:Nat):zC:=λenv st Q=>match env[i]? with | some (some x)=>Q x st | _=>False
theorem zq6 {K:Frag}{i:Nat}{σ:St}{H:Hp}{Q:VK} :zK K (uB i) σ H Q->pD i σ H Q:=by
 rintro⟨A,env,st,Q3,zg,h,k⟩;unfold uB at h
 split at h
 ·rename_i x e
  obtain⟨v,e1,r⟩:=zg.at_ i x e;exact⟨v,e1,k.now zg.rs r h⟩
 ·exact h.elim
theorem qv (i:Nat){x:Str}{pos:fe}(hN:X.N[i]?=some x:=by rfl)(hv:kC X.env.scope x:=by first | exact Or.inl rfl | exact Or.inr 9#16 | exact Or.inr (Or.inr rfl))(hd:8#3=false:=by decide)
  (hcd:(x==("__classdict__" :Str))=false:=by decide):PE X 3#16 (zK X.K (uB i)):=xP (fL hN hv hd hcd) λ_ _ _=>zq6
def vC (x:PV):zC:=λ_ st Q=>Q x st
theorem gC {K:Frag}{x:PV}{v:V}(hr: ∀A H,RE K A H x v){σ:St}{H:Hp}{Q:VK} :zK K (vC x) σ H Q->tC v σ H Q:=by
 rintro⟨A,env,st,Q3,zg,h,k⟩;exact k.now zg.rs (hr A H) h
theorem z6 {i j pos} :PE X (.Constant 1#6 j pos) (zK X.K (vC 1#6)):=xP zuu λ_ _ _=>gC λ_ _=> .val 1#6
theorem zG {x j pos} :PE X (.Constant (.str x) j pos) (zK X.K (vC (.str x))):=xP oR λ_ _ _=>gC λ_ _=> .val (.str x)
theorem tB {b j pos} :PE X (.Constant (.bool b) j pos) (zK X.K (vC (.bl b))):=xP zuk λ_ _ _=>gC λ_ _=> .val (.bl b)
theorem uK {j pos} :PE X (.Constant .none j pos) (zK X.K (vC .non)):=xP zuz λ_ _ _=>gC λ_ _=> .val .non
def rG (R:R3)(Ta Tb:zC):zC:=λenv st Q=>Ta env st λx zd=>Tb env zd λy zi=>R x y zi Q
theorem gE {K:Frag}{R:R3}{σ:St}{H:Hp}{Q:VK} :zK K (rG R Ta Tb) σ H Q->lN (xV K R) (zK K Ta) (zK K Tb) σ H Q:=by
 rintro⟨A,env,st,Q3,zg,h,k⟩;exact⟨A,env,st,_,zg,h,λA1 H1 zd x v g1 s1 e1 h1=>⟨A1,env,zd,_,zg.grow g1 s1,h1,λA2 H2 zi y w g2 s2 e2 h2=>⟨A2,zi,x,y,Q3,s2,e1.grow g2,e2,h2,k.after (g1.trans g2)⟩⟩⟩
theorem zN {op:Operator}{R:R3}(ho:yJ X (binaryOp op) (xV X.K R))(ha:PE X a 9#4)(hb:PE X b (zK X.K Tb)):PE X (.BinOp a op b pos) (zK X.K (rG R Ta Tb)):=xP (zu1 ho ha hb) λ_ _ _=>gE
theorem pY {op:CmpOp}{R:R3}(ho:yJ X (compareOp op) (xV X.K R))(ha:PE X a 9#4)(hb:PE X b (zK X.K Tb))(hm:behindInMarks op b=false):PE X 8#15 (zK X.K (rG R Ta Tb)):=xP (zup ho ha hb hm) λ_ _ _=>gE
theorem uA {R:R3}(hr:qH X (xV X.K R))(ha:PE X a 9#4)(hb:PE X b (zK X.K Tb))(hs:iW b):PE X (.Subscript a b pos) (zK X.K (rG R Ta Tb)):=xP (zmT hr ha hb hs) λ_ _ _=>gE
def lQ (R:PV->z5->K3->Prop)(Ta:zC):zC:=λenv st Q=>Ta env st λx zd=>R x zd Q
theorem zq5 {K:Frag}{R:PV->z5->K3->Prop}{σ:St}{H:Hp}{Q:VK} :zK K (lQ R Ta) σ H Q->tUn (a9 K R) (zK K Ta) σ H Q:=by
 rintro⟨A,env,st,Q3,zg,h,k⟩;exact⟨A,env,st,_,zg,h,λA1 H1 zd x v g1 s1 e1 h1=>⟨A1,zd,x,Q3,s1,e1,h1,k.after g1⟩⟩
theorem zni {op:UnaryOp}{R:PV->z5->K3->Prop}(ho:kB X (unaryOp op) (a9 X.K R))(ha:PE X a 9#4):PE X (.UnaryOp op a pos) (zK X.K (lQ R Ta)):=xP (zu4 ho ha) λ_ _ _=>zq5
def nJ (T:zC):xE:=λenv st Q=>T env st λx zd=>match x with | .bl k=>Q k zd | _=>False
theorem zhF {K:Frag}{T:zC}{σ:St}{H:Hp}{Q:Bool->Hp->Prop} :x9 K (nJ T) σ H Q->zok (zK K T) σ H Q:=by
 rintro⟨A,env,st,Q3,zg,h,k⟩;refine⟨A,env,st,_,zg,h,λA1 H1 zd x v g1 s1 e1 h1=> ?_⟩;cases x with
 | bl b=>
  cases e1 with
  | val e1=>cases e1;exact⟨b,rfl,k A1 H1 zd b g1 s1 h1⟩
 | _=>exact False.elim h1
theorem tF {op:CmpOp}{R:R3}(ho:yJ X (compareOp op) (xV X.K R))(ha:PE X a 9#4)(hb:PE X b (zK X.K Tb))(hm:behindInMarks op b=false):PT X 8#15 (x9 X.K (nJ (rG R Ta Tb))):=by
 refine fP (znc ho ha hb hm) λσ H Q h=> ?_;have:=zhF h;exact gE this
def sG:PV->z5->(Bool->Prop)->Prop
 | .non,_,k=>k false
 | .bl b,_,k=>k b
 | .int i,_,k=>k (i !=0)
 | .str x,_,k=>x.length<=ak/\k ((x.length:Int) !=0)
 | .tup xs,_,k=>k 4#16
 | .lst xs,_,k=>k 4#16
 | .dct xs,_,k=>k 4#16
 | .obj i,st,k=>match st[i]? with | some 9#3=>k 4#16 | some (.dct xs)=>k 4#16 | _=>False
 | _,_,_=>False
def zoH (T:zC):xE:=λenv st Q=>T env st λx zd=>sG x zd λk=>Q k zd
theorem RVs.empty {K:Frag}{A:List ac}{H:Hp}{xs:List PV}{vs:List V}(h:RVs K A H xs vs):vs.isEmpty=xs.isEmpty:=by
 cases h <;> rfl
theorem RKs.empty {K:Frag}{A:List ac}{H:Hp}{xs:List 2#3}{vs:List (z8×V)}(h:RKs K A H xs vs):vs.isEmpty=xs.isEmpty:=by
 cases h <;> rfl
theorem zxy {K:Frag}{A:List ac}{H:Hp}{st:z5}{x:PV}{v:V}{P:Bool->Prop}(s:RS K A H st)(e:RE K A H x v)(h:sG x st P): ∃k,bN K v H k/\P k:=by
 cases e with
 | obj e=>
  dsimp only[sG]at h
  split at h
  ·rename_i xs q
   obtain⟨vs,h1,h2,_⟩:=s.at_ _ _ _ e q;exact⟨_,.inl ⟨vs,.of h1,by rw[h2.empty]⟩,h⟩
  ·rename_i xs q
   obtain⟨vs,h1,h2,_⟩:=s.at_ _ _ _ e q;exact⟨_,.inr (.inr ⟨vs,h1,by rw[h2.empty]⟩),h⟩
  ·exact h.elim
 | val e=>
  cases e with
  | non=>exact⟨_,rfl,h⟩
  | bl b=>exact⟨_,rfl,h⟩
  | int i=>exact⟨_,rfl,h⟩
  | str y=>exact⟨_,⟨h.1,rfl⟩,h.2⟩
  | ty n=>exact False.elim h
  | tup t z r=>exact⟨_,.inr (.inl ⟨_,t.sq,by rw[r.empty]⟩),h⟩
  | lst t z r=>exact⟨_,.inl ⟨_,t.sq,by rw[r.empty]⟩,h⟩
  | dct t z r=>exact⟨_,.inr (.inr ⟨_,t.1,by rw[r.empty]⟩),h⟩
  | itb e n=>exact False.elim h
  | clo e=>exact False.elim h
theorem mY (ha:PE X a 9#4)(he: ∀whole,isTrue a X.env whole=(do let v <- whole;standAt a.pos;holding [v] (truthy v)):=by intro _;rfl):PT X a (x9 X.K (zoH Ta)):=by
 refine fP (zvd ha he) λσ H Q ⟨A,env,st,Q3,zg,h,k⟩=> ?_;refine⟨A,env,st,_,zg,h,λA1 H1 zd x v g1 s1 e1 h1=> ?_⟩;obtain⟨b,hb,q⟩:=zxy s1 e1 h1;exact⟨b,hb,k A1 H1 zd b g1 s1 q⟩
def cI (t u:xE):xE:=λenv st Q=>t env st λc zd=>if c=true then u env zd Q else Q false zd
def vOr (t u:xE):xE:=λenv st Q=>t env st λc zd=>if c=true then Q true zd else u env zd Q
def zoA (t:xE):xE:=λenv st Q=>t env st λc zd=>Q (!c) zd
theorem zq2 {K:Frag}{t u:xE}{σ:St}{H:Hp}{Q:Bool->Hp->Prop} :x9 K (cI t u) σ H Q->zoe (x9 K t) (x9 K u) σ H Q:=by
 rintro⟨A,env,st,Q3,zg,h,k⟩;refine⟨A,env,st,_,zg,h,λA1 H1 zd c g1 s1 h1=> ?_⟩;cases c with
 | true=>exact⟨A1,env,zd,Q3,zg.grow g1 s1,h1,k.after g1⟩
 | false=>exact k A1 H1 zd false g1 s1 h1
theorem zq4 {K:Frag}{t u:xE}{σ:St}{H:Hp}{Q:Bool->Hp->Prop} :x9 K (vOr t u) σ H Q->tOr (x9 K t) (x9 K u) σ H Q:=by
 rintro⟨A,env,st,Q3,zg,h,k⟩;refine⟨A,env,st,_,zg,h,λA1 H1 zd c g1 s1 h1=> ?_⟩;cases c with
 | false=>exact⟨A1,env,zd,Q3,zg.grow g1 s1,h1,k.after g1⟩
 | true=>exact k A1 H1 zd true g1 s1 h1
variable {zR:List Expr}
theorem sF (ha:PT X a 9#17):PW X (.BoolOp .And [a] pos) 9#17:=zvh ha
theorem jA (ha:PT X a 9#17):PW X (.BoolOp .Or [a] pos) 9#17:=zvj ha
theorem sE (ha:PT X a 9#17)(hb:PW X (.BoolOp .And (b::zR) pos) (x9 X.K td)):PW X 0#19 (x9 X.K (cI tc td)):=znf (zvg ha hb) λ_ _ _=>zq2
theorem pZ (ha:PT X a 9#17)(hb:PW X (.BoolOp .Or (b::zR) pos) (x9 X.K td)):PW X (.BoolOp .Or (a::b::zR) pos) (x9 X.K (vOr tc td)):=znf (zvi ha hb) λ_ _ _=>zq4
theorem zv4 (ha:PT X a 9#17):PT X (.UnaryOp .Not a pos) (x9 X.K (zoA tc)):=fP (zvc ha) λσ H Q ⟨A,env,st,Q3,zg,h,k⟩=>⟨A,env,st,_,zg,h,λA1 H1 zd c g1 s1 h1=>k A1 H1 zd (!c) g1 s1 h1⟩
def zoz (Ta Tb:zC):zC:=λenv st Q=>Ta env st λx zd=>match x with | .bl c=>if c=true then Tb env zd Q else Q (.bl false) zd | _=>False
def zxK (Ta Tb:zC):zC:=λenv st Q=>Ta env st λx zd=>match x with | .bl c=>if c=true then Q 6#8 zd else Tb env zd Q | _=>False
def zxJ (Ta:zC):zC:=λenv st Q=>Ta env st λx zd=>match x with | .bl c=>Q (.bl (!c)) zd | _=>False
theorem zvr {op}(h:PE X a 9#4):PE X (.BoolOp op [a] pos) 9#4:=zfs h
theorem zvk (ha:PE X a 9#4)(hb:PE X (.BoolOp .And (b::zR) pos) (zK X.K Tb)):PE X 0#19 (zK X.K (zoz Ta Tb)):=by
 refine xP (zfp ha hb) λσ H Q ⟨A,env,st,Q3,zg,h,k⟩=>⟨A,env,st,_,zg,h,λA1 H1 zd x v g1 s1 e1 h1=> ?_⟩;cases x with
 | bl c=>
  cases e1 with
  | val e1=>
   cases e1;refine⟨c,rfl,?_⟩;cases c with
   | true=>exact⟨A1,env,zd,Q3,zg.grow g1 s1,h1,k.after g1⟩
   | false=>exact k A1 H1 zd _ _ g1 s1 7#7 h1
 | _=>exact False.elim h1
def vIf (t:xE)(Ta Tb:zC):zC:=λenv st Q=>t env st λc zd=>if c=true then Ta env zd Q else Tb env zd Q
theorem zvn (hc:PT X c 9#17)(ha:PE X a 9#4)(hb:PE X b (zK X.K Tb)):PE X (.IfExp c a b pos) (zK X.K (vIf tc Ta Tb)):=by
 refine xP (zut hc ha hb) λσ H Q ⟨A,env,st,Q3,zg,h,k⟩=>⟨A,env,st,_,zg,h,λA1 H1 zd c g1 s1 h1=> ?_⟩;cases c with
 | true=>exact⟨A1,env,zd,Q3,zg.grow g1 s1,h1,k.after g1⟩
 | false=>exact⟨A1,env,zd,Q3,zg.grow g1 s1,h1,k.after g1⟩
def nI:yK:=λ_ st Q=>Q [] st
def tU (Ta:zC)(Tr:yK):yK:=λenv st Q=>Ta env st λx zd=>Tr env zd λxs zi=>Q (x::xs) zi
theorem z7:PA X [] (wZ X.K nI):=zmL rZ λσ H Q ⟨A,env,st,Q3,zg,h,k⟩=>k A H st [] [] (.refl _ _) zg.rs .nil h
theorem z3 (ha:PE X e 9#4)(hr:PA X es 1#11)(hs:starEach (e::es) X.env=5#3::starEach es X.env:=by rfl):PA X (e::es) (wZ X.K (tU Ta TA)):=
 zmL (vJ ha hr hs) λσ H Q ⟨A,env,st,Q3,zg,h,k⟩=>⟨A,env,st,_,zg,h,λA1 H1 zd x v g1 s1 e1 h1=>⟨A1,env,zd,_,zg.grow g1 s1,h1,λA2 H2 zi xs vs g2 s2 e2 h2=>k A2 H2 zi _ _ (g1.trans g2) s2 (.cons (e1.grow g2) e2) h2⟩⟩
def yU:PV->Bool
 | .obj _=>false
 | _=>true
def t6 (xs:List PV):Bool:=xs.all yU&&Nat.ble xs.length 1000
theorem RE.rv {K:Frag}{A:List ac}{H:Hp}{x:PV}{v:V}(e:RE K A H x v)(h:yU x=true):RV K A H x v:=by
 cases e with
 | val e=>exact e
 | obj e=>cases h
theorem yT.rvs {K:Frag}{A:List ac}{H:Hp} : ∀{xs:List PV} {vs:List V},yT K A H xs vs->xs.all yU=true->RVs K A H xs vs
 | _,_,.nil,_=> .nil
 | _,_,.cons r t,h=>by
  rw[mr,im]at h;exact .cons (r.rv h.1) (yT.rvs t h.2)
theorem t6.both {xs:List PV}(h:t6 xs=true):xs.all yU=true/\xs.length<=ak:=by
 unfold t6 at h;rw[im]at h;exact⟨h.1,bh (Nat.le_of_ble_eq_true h.2) 2#0⟩
def zoK (T:yK):zC:=λenv st Q=>T env st λxs zd=>t6 xs=true/\Q 9#6 zd
def zo5 (T:yK):zC:=λenv st Q=>T env st λxs zd=>t6 xs=true/\Q 9#3 zd
def zo6 (T:yK):zC:=λenv st Q=>T env st λxs zd=>t6 xs=true/\Q (.obj zd.length) (zd++ [.lst xs])
theorem yN {x1}(h:PA X es 1#11):PE X (.Tuple es x1 pos) (zK X.K (zoK TA)):=by
 refine xP (zft h) λσ H Q ⟨A,env,st,Q3,zg,h,k⟩=>⟨A,env,st,_,zg,h,λA1 H1 zd xs vs g1 s1 e1 h1=> ?_⟩;obtain⟨o1,o2⟩:=t6.both h1.1;have hr:=e1.rvs o1;have hl:=hr.len;refine⟨by rw[<- hl];exact o2,λp hp=>k A1 _ zd _ _ (g1.trans (.new hp)) (s1.new hp) (.val (.tup (.inl ⟨.inl yM,s1.fresh hp⟩) (by rw[<- hl];exact o2) (hr.grow (.new hp)))) h1.2⟩
theorem tD (h:PA X es 1#11):PE X (.List es pos) (zK X.K (zo5 TA)):=by
 refine xP (zmU h) λσ H Q ⟨A,env,st,Q3,zg,h,k⟩=>⟨A,env,st,_,zg,h,λA1 H1 zd xs vs g1 s1 e1 h1=> ?_⟩;obtain⟨o1,o2⟩:=t6.both h1.1;have hr:=e1.rvs o1;have hl:=hr.len;refine⟨by rw[<- hl];exact o2,λp hp=>k A1 _ zd _ _ (g1.trans (.new hp)) (s1.new hp) (.val (.lst (.inl ⟨.inl yM,s1.fresh hp⟩) (by rw[<- hl];exact o2) (hr.grow (.new hp)))) h1.2⟩
theorem j3 {A:List ac}{n:Nat}{p:ac}(h:A.length=n):(A++ [p])[n]?=some p:=by
 subst h;rw[ba (ar _),ig];rfl
theorem qB (h:PA X es 1#11):PE X (.List es pos) (zK X.K (zo6 TA)):=by
 refine xP (zmU h) λσ H Q ⟨A,env,st,Q3,zg,h,k⟩=>⟨A,env,st,_,zg,h,λA1 H1 zd xs vs g1 s1 e1 h1=> ?_⟩;obtain⟨o1,o2⟩:=t6.both h1.1;have hr:=e1.rvs o1;have hl:=hr.len;refine⟨by rw[<- hl];exact o2,λp hp=>k (A1++ [p]) _ _ _ _ (g1.trans (.newObj hp)) (s1.newObj (q:= .lst xs) hp ⟨vs,yM,hr.grow (.newObj hp),by rw[<- hl];exact o2⟩) (.obj (j3 s1.len)) h1.2⟩
def qF (R:zP)(T:yK):zC:=λenv st Q=>T env st λxs zd=>R xs zd Q
theorem aA {K:Frag}{R:zP}{σ:St}{H:Hp}{Q:VK} :zK K (qF R TA) σ H Q->lK (sP K R) (wZ K TA) σ H Q:=by
 rintro⟨A,env,st,Q3,zg,h,k⟩;exact⟨A,env,st,_,zg,h,λA1 H1 zd xs vs g1 s1 e1 h1=>⟨A1,zd,xs,Q3,s1,e1,h1,k.after g1⟩⟩
theorem wG {x:Str}{id:String}{R:zP}(hc:wA X 5#14 (sP X.K R))(hg:Gl X x)(hm:X.mg x=none)(hv:bootBuiltins x=some 5#14)(ha:PA X (e::es) 1#11)(hn:x≠ "__name__" :=by decide)(hdb:8#3=false:=by decide)
  (he:starEach (e::es) X.env=5#3::starEach es X.env:=by rfl) (Al:(backTo pos 1#4).any (·.1)=false:=by rfl):PE X 3#4 (zK X.K (qF R TA)):=
 xP (fK hc hg hm hv ha hn hdb he Al) λ_ _ _=>aA
theorem wV {x:Str}{T:String}{R:zP}(hc:wA X (.type T) (sP X.K R))(hg:Gl X x)(hm:X.mg x=none)(hv:bootBuiltins x=some (.type T))(ha:PA X (e::es) 1#11)(hn:x≠ "__name__" :=by decide)(hdb:8#3=false:=by decide)
  (he:starEach (e::es) X.env=5#3::starEach es X.env:=by rfl) (Al:(backTo pos 1#4).any (·.1)=false:=by rfl):PE X 3#4 (zK X.K (qF R TA)):=
 xP (zuo hc hg hm hv ha hn hdb he Al) λ_ _ _=>aA
theorem zvm {x:Str}{S:zP}{k:Nat}{f:ac}{fd:bu}{ps:List Str}(F:zM X.prog X.w X.K X.mg X.base zY k f fd ps (zX X.K S))(hr:zI k X.A)(hg:Gl X x)(hm:X.mg x=some 2#8)(hk:keepIn X.K 2#8=true)(hb:xI X.K fd ps [])
  (ha:PA X (e::es) 1#11) (hdb:8#3=false:=by decide) (he:starEach (e::es) X.env=5#3::starEach es X.env:=by rfl) (Al:(backTo pos 1#4).any (·.1)=false:=by rfl):
  PE X 3#4 (zK X.K (qF S TA)):=by
 refine xP (zmS F hr hg hm hk hb .nil fJ ha hdb he Al) λσ H Q h=> ?_;obtain⟨A,env,st,Q3,zg,h,k⟩:=aA h;refine⟨A,env,st,Q3,zg,h,λA1 H1 zd rs vs g1 s1 e1 h1=> ?_⟩;show zX X.K S (vs++ []) H1 Q E0;rw[da];exact k A1 H1 zd rs vs g1 s1 e1 h1
variable {sts rst:List cu} {stm:cu} {Ts Tu:yS}
def zg2:yS:=λD env st=>D.nx env st
def uP (t u:yS):yS:=λD env st=>t {D with nx:=u D} env st
theorem yC:xC X [] (yZ X.K zg2):=fO zvb λD σ H ⟨A,env,st,D3,zg,h,k⟩=>k.nx A H σ env st (.refl _ _) zg h
theorem zD (h:PS X stm (yZ X.K Ts)):xC X [stm] (yZ X.K Ts):=j7 h
theorem z9 (h1:PS X stm (yZ X.K Ts))(h2:xC X rst (yZ X.K Tu)):xC X (stm::rst) (yZ X.K (uP Ts Tu)):=
 fO (oS h1 h2) λD σ H ⟨A,env,st,D3,zg,h,k⟩=>⟨A,env,st,_,zg,h,λA1 H1 σ1 env1 zd g1 r1 h1=>⟨A1,env1,zd,D3,r1,h1,k.after g1⟩,k.rt,k.bk,k.ct⟩
def zxD:yS:=λD env st=>D.bk env st
def zxG:yS:=λD env st=>D.ct env st
def cK (T:zC):yS:=λD env st=>T env st λ_ zd=>D.nx env zd
theorem xH (he:PE X e 9#4)(hs:swapsWith e none pos.line X.env=pure false:=by rfl):PS X (.Expr e pos) (yZ X.K (cK Ta)):=
 t8 (fM he hs) λD σ H ⟨A,env,st,D3,zg,h,k⟩=>⟨A,env,st,_,zg,h,λA1 H1 zd x v g1 s1 e1 h1=>k.nx A1 H1 σ env zd g1 (zg.grow g1 s1) h1⟩
def zoE (T:zC):yS:=λD env st=>T env st D.rt
theorem y2 (he:PE X e 9#4):PS X (.Return (some e) pos) (yZ X.K (zoE Ta)):=t8 (zuX he) λD σ H ⟨A,env,st,D3,zg,h,k⟩=>⟨A,env,st,_,zg,h,k.rt⟩
def zxN:yS:=λD _ st=>D.rt .non st
def cL (c:xE)(t u:yS):yS:=λD env st=>c env st λb zd=>if b=true then t D env zd else u D env zd
theorem zZ (hc:PT X c 9#17)(ha:xC X sts (yZ X.K Ts))(hb:xC X rst (yZ X.K Tu)):PS X (.If c sts rst pos) (yZ X.K (cL tc Ts Tu)):=by
 refine t8 (zuS hc ha hb) λD σ H ⟨A,env,st,D3,zg,h,k⟩=>⟨A,env,st,_,zg,h,λA1 H1 zd b g1 s1 h1=> ?_⟩;cases b with
 | true=>exact⟨A1,env,zd,D3,zg.grow g1 s1,h1,k.after g1⟩
 | false=>exact⟨A1,env,zd,D3,zg.grow g1 s1,h1,k.after g1⟩
variable {Tg:w4} {Tgs:tY}
def gN (i:Nat):w4:=λx env st Q=>Q (env.set i (some x)) st
theorem yY.set {K:Frag}{A:List ac}{H:Hp}{σ:St}{env:zF}{st:z5}(r:yY K A H σ env st)(i:Nat){x:PV}{v:V}(e:RE K A H x v):yY K A H (σ.set i (some v)) (env.set i (some x)) st:=by
 refine⟨r.rs,by rw[dq,dq];exact r.len,λj y h=> ?_⟩;by_cases Av:i=j
 ·subst Av
  have hl:i < env.length:=by have:=(ah.mp h).1;simpa using this
  rw[dv hl]at h;cases h;exact⟨v,dv (by rw[<- r.len];exact hl),e⟩
 ·rw[dw Av]at h
  rw[dw Av];exact r.at_ j y h
theorem gD {K:Frag}{i:Nat}{v:V}{σ:St}{H:Hp}{Q:St->Hp->Prop} :u5 K (gN i) v σ H Q->mE i v σ H Q:=by
 rintro⟨A,env,st,x,Q3,zg,e,h,k⟩;exact k A H _ _ st (.refl _ _) (zg.set i e) h
theorem znj {i:Nat}{x:Str}(hN:X.N.Nodup)(hi:X.N[i]?=some x)(hx:tW X.env.scope x)(hf:X.fn x=true∨X.env.scope.names.lookup x=some .local:=by first | exact .inl rfl | exact .inr rfl | assumption):PG X 3#16 (u5 X.K (gN i)):=
 zfv (zu_ hN hi hx hf) λ_ _ _ _=>gD
def gsN:tY:=λxs env st Q=>match xs with | []=>Q env st | _=>False
def gsC (g:w4)(gs:tY):tY:=λxs env st Q=>match xs with | x::r=>g x env st λenv1 zd=>gs r env1 zd Q | []=>False
theorem oU:uD X [] (kH X.K gsN):=by
 refine zmX zmW λvs σ H Q ⟨A,env,st,xs,Q3,zg,e,h,k⟩=> ?_;cases e with
 | nil=>exact⟨rfl,k A H σ env st (.refl _ _) zg h⟩
 | cons r t=>exact False.elim h
theorem vR (h1:PG X e (u5 X.K Tg))(h2:uD X es (kH X.K Tgs))(hs:(assignEach (e::es) X.env).map (·.2)=assign e X.env::(assignEach es X.env).map (·.2):=by rfl):uD X (e::es) (kH X.K (gsC Tg Tgs)):=by
 refine zmX (zfw h1 h2 hs) λvs σ H Q ⟨A,env,st,xs,Q3,zg,e,h,k⟩=> ?_;cases e with
 | nil=>exact False.elim h
 | cons r t=>exact⟨_,_,rfl,A,env,st,_,_,zg,r,h,λA1 H1 σ1 env1 zd g1 r1 h1=>⟨A1,env1,zd,_,Q3,r1,yT.grow g1 t,h1,k.after g1⟩⟩
def gT (n:Nat)(gs:tY):w4:=λx env st Q=>match x with | .tup xs=>xs.length=n/\gs xs env st Q | .lst xs=>xs.length=n/\gs xs env st Q | _=>False
theorem RVs.res {K:Frag}{A:List ac}{H:Hp}{xs:List PV}{vs:List V} :RVs K A H xs vs->yT K A H xs vs
 | .nil=> .nil
 | .cons r t=> .cons (.val r) (RVs.res t)
theorem mW {k:Nat}{n:Nat}(hc:X.calm=true)(h:uD X es (kH X.K Tgs))(hn:(assignEach es X.env).length=n:=by rfl)(Ag:(assignEach es X.env).findIdx? (·.1)=none:=by rfl)
  (hn2:(assignEach es X.env).length=n:=by rfl) (hst2:(assignEach es X.env).findIdx? (·.1)=none:=by rfl):PG X (.Tuple es k pos) (u5 X.K (gT n Tgs)):=by
 refine⟨λzc s σ H v u Q I r ⟨A,env,st,x,Q3,zg,e,q,k⟩=> ?_⟩;cases e with
 | obj e=>exact False.elim q
 | val e=>
  cases e with
  | tup t z rs=>exact(zmV hc h hn Ag) zc s σ H _ u Q I r ⟨_,_,rfl,t.sq,by rw[<- rs.len];exact q.1,A,env,st,_,Q3,zg,rs.res,q.2,k⟩
  | lst t z rs=>exact(zu9 hc h hn Ag) zc s σ H _ u Q I r ⟨_,_,rfl,t.sq,by rw[<- rs.len];exact q.1,A,env,st,_,Q3,zg,rs.res,q.2,k⟩
  | _=>exact False.elim q
def nH (T:zC)(g:w4):yS:=λD env st=>T env st λx zd=>g x env zd D.nx
theorem gB {K:Frag}{D:sK}{σ:St}{H:Hp} :yZ K (nH Ta Tg) D σ H->nB (zK K Ta) (u5 K Tg) D σ H:=by
 rintro⟨A,env,st,D3,zg,h,k⟩;exact⟨A,env,st,_,zg,h,λA1 H1 zd x v g1 s1 e1 h1=>⟨A1,env,zd,x,D3.nx,zg.grow g1 s1,e1,h1,k.nx.after g1⟩⟩
theorem uL {tg:Expr}(he:PE X e 9#4)(hg:PG X tg (u5 X.K Tg))(hs:swapsWithSole [tg] e pos.line X.env=pure false:=by rfl)(hw:swappedStores [tg] e X.env=pure none:=by rfl)
  (h1:(assignEach [tg] X.env).map (·.2)= [assign tg X.env]:=by rfl):PS X (.Assign [tg] e pos) (yZ X.K (nH Ta Tg)):=t8 (zna he hg hs hw h1) λ_ _ _=>gB
theorem fU {i:Nat}{x:Str}{pos':fe}(hN:X.N.Nodup)(hi:X.N[i]?=some x)(hx:tW X.env.scope x)(he:PE X e 9#4)(hs:swapsWith e 4#12 pos.line X.env=pure false:=by rfl)(hf:X.fn x=true∨X.env.scope.names.lookup x=some .local:=by first | exact .inl rfl | exact .inr rfl | assumption):
  PS X (.Assign [.Name x pos'] e pos) (yZ X.K (nH Ta (gN i))):=by
 refine t8 (fN hN hi hx he hs hf) λD σ H h=> ?_;obtain⟨A,env,st,Q3,zg,h,k⟩:=gB h;exact⟨A,env,st,Q3,zg,h,λA1 H1 zd r v g s e q=>gD (k A1 H1 zd r v g s e q)⟩
def zoB (i j:Nat)(T:yK):yS:=λD env st=>T env st λxs zd=>match xs with | [x,y]=>D.nx ((env.set i (some x)).set j (some y)) zd | _=>False
theorem zvx {i j:Nat}{x y:Str}{px py pt:fe}{kt k2 pt2}(hc:X.calm=true)(hN:X.N.Nodup)(hi:X.N[i]?=some x)(hj:X.N[j]?=some y)(Av:i≠j)
  (hx:X.env.scope.names.lookup x=some .local) (hy:X.env.scope.names.lookup y=some .local) (ha:PA X [a,b] 1#11)
  (hw:swappedStores 5#6 3#15 X.env=pure (some [x,y]))
  (hs:swapsWithSole 5#6 3#15 pos.line X.env=pure false:=by rfl):
  PS X (.Assign 5#6 3#15 pos) (yZ X.K (zoB i j TA)):=by
 refine t8 (zuU hc hN hi hj Av hx hy ha hw hs) λD σ H ⟨A,env,st,D3,zg,h,k⟩=>⟨A,env,st,_,zg,h,λA1 H1 zd xs vs g1 s1 e1 h1=> ?_⟩
 split at h1
 ·rename_i x y
  cases e1 with
  | cons r1 t=>
   cases t with
   | cons r2 t2=>
    cases t2;exact⟨_,_,rfl,k.nx A1 H1 _ _ zd g1 (((zg.grow g1 s1).set i r1).set j r2) h1⟩
 ·exact h1.elim
end
def sJ:xX->z5->Prop->Prop
 | none,_,P=>P
 | some (i,o),st,P=>st[i]?=some o/\P
theorem sJ.of {Ad:xX}{st:z5}{P:Prop}(h:sJ Ad st P):P:=by
 cases Ad with
 | none=>exact h
 | some q=>exact h.2
def mT:xX->z5->Prop
 | none,_=>True
 | some (i,o),st=>st[i]?=some o
theorem sJ.ok {Ad:xX}{st:z5}{P:Prop}(h:sJ Ad st P):mT Ad st:=by
 cases Ad with
 | none=>exact trivial
 | some q=>exact h.1
structure oB (K:Frag)(A:List ac)(H:Hp)(Ad:xX)(J:It)(xs:List PV):Prop where
 go: ∀(i:Nat) A' H' st,zU A H A' H'->RS K A' H' st->mT Ad st->i < xs.length->J.go i H'
 yld: ∀(i:Nat) (x:PV) A' H' st v H2,xs[i]?=some x->zU A H A' H'->RS K A' H' st->mT Ad st->J.yld i H' v H2->zU A' H' A' H2/\RS K A' H2 st/\RE K A' H2 x v
 stop: ∀A' H' st,zU A H A' H'->RS K A' H' st->mT Ad st->J.stop xs.length H'
 small:xs.length<=ak
def qL (K:Frag)(I:tJ):TI:=λσ H R=> ∃A env st Q3,yY K A H σ env st/\I env st Q3/\∀A' H' zl Ad xs J,zU A H A' H'->RS K A' H' zl->oB K A' H' Ad J xs->Q3 Ad xs zl->R J H'
def cU (g:w4)(b:yS)(Ad:xX)(xs:List PV)(D:xK)(env:zF)(st:z5):Prop:= ∃P:Nat->zF->z5->Prop,P 0 env st/\
 (∀i x env st,xs[i]?=some x->P i env st->sJ Ad st (g x env st λe s=>b {D with nx:=P (i+1),ct:=P (i+1),bk:=D.nx} e s))/\(∀env st,P xs.length env st->sJ Ad st (D.nx env st))
def zo2 (I:tJ)(g:w4)(b:yS):yS:=λD env st=>I env st λAd xs zd=>cU g b Ad xs D env zd
def zxQ (c:xE)(b:yS):yS:=λD env st=> ∃W:Nat->zF->z5->Prop,(∃m,W m env st)/\∀m env st,W m env st->
 c env st λt zd=>if t=true then ∃N:zF->z5->Prop,(∀e s,N e s->∃m',m' < m/\W m' e s)/\b {D with nx:=N,ct:=N,bk:=D.nx} env zd else D.nx env zd
section
variable {X:Cx} {a b c e tg zo:Expr} {es:List Expr} {pos p:fe} {Ta Tb:zC} {TA:yK} {tc:xE} {Ti:tJ} {Tg:w4} {Ts:yS} {body:List cu}
theorem zfx {wi wi':TI}(h:PI X tg zo wi)(w: ∀σ H R,wi' σ H R->wi σ H R):PI X tg zo wi':=⟨λzc s σ H R I q=>h zc s σ H R I (w σ H R q)⟩
theorem u0 (hp:PassesOwn 1#2 X.A X.env X.xe)(hc:X.calm=true)(hi:PI X tg zo (qL X.K Ti))(hg:PG X tg (u5 X.K Tg))(hb:xC X body (yZ X.K Ts))
  (hs: ∀x,foldedSetIterable zo X.env x=pure x:=by intro _;rfl):PS X (.For tg zo body [] pos) (yZ X.K (zo2 Ti Tg Ts)):=by
 refine t8 (zuR hp hc hi hg hb hs) λD σ H ⟨A,env,st,D3,zg,h,k⟩=>⟨A,env,st,_,zg,h,λA1 H1 zd Ad xs J g1 s1 it h1=> ?_⟩;obtain⟨P,p0,hP,hE⟩:=h1;refine⟨λi m σ' H'=>m=xs.length - i/\i<=xs.length/\∃A' zq zl,zU A1 H1 A' H'/\yY X.K A' H' σ' zq zl/\P i zq zl,⟨_,rfl,fv _,A1,env,zd,.refl _ _,zg.grow g1 s1,p0⟩,?_⟩;rintro i m σ' H' ⟨rfl,hi,A',zq,zl,g',Aj,p'⟩;by_cases Au:i < xs.length
 ·have hx:xs[i]?=some xs[i]:=bz Au
  have hw:=hP i _ zq zl hx p';refine .inr ⟨it.go i A' H' zl g' Aj.rs hw.ok Au,λσ2 H2=>i+1<=xs.length/\∃A' zq zl,zU A1 H1 A' H2/\yY X.K A' H2 σ2 zq zl/\P (i+1) zq zl,λσ2 H2 q=>⟨_,0#0,rfl,q⟩,λv H2 y=> ?_⟩;obtain⟨g2,s2,e2⟩:=it.yld i _ A' H' zl v H2 hx g' Aj.rs hw.ok y;refine⟨A',zq,zl,_,_,Aj.grow g2 s2,e2,hw.of,λA3 H3 σ3 env3 Ab g3 r3 h3=> ?_⟩;have gg:=g'.trans (g2.trans g3);have k3:=k.after (g1.trans gg);exact⟨A3,env3,Ab,_,r3,h3,λA4 H4 σ4 env4 st4 g4 r4 h4=>⟨Au,A4,env4,st4,gg.trans g4,r4,h4⟩,k3.rt,k3.nx,λA4 H4 σ4 env4 st4 g4 r4 h4=>⟨Au,A4,env4,st4,gg.trans g4,r4,h4⟩⟩
 ·have e:i=xs.length:=0#0
  subst e;have hw:=hE zq zl p';exact .inl ⟨it.stop A' H' zl g' Aj.rs hw.ok,k.nx A' H' σ' zq zl (g1.trans g') Aj hw.of⟩
theorem znm (hp:PassesOwn 1#2 X.A X.env X.xe)(hc:PT X c 9#17)(hb:xC X body (yZ X.K Ts)):PS X (.While c body [] pos) (yZ X.K (zxQ tc Ts)):=by
 refine t8 (zva hp hc hb) λD σ H ⟨A,env,st,D3,zg,h,k⟩=> ?_;obtain⟨W,⟨m0,w0⟩,hW⟩:=h;refine⟨λm σ' H'=> ∃A' zq zl,zU A H A' H'/\yY X.K A' H' σ' zq zl/\W m zq zl,⟨m0,A,env,st,.refl _ _,zg,w0⟩,?_⟩;rintro m σ' H' ⟨A',zq,zl,g',Aj,w'⟩;refine⟨A',zq,zl,_,Aj,hW m zq zl w',λA1 H1 zd t g1 s1 h1=> ?_⟩;have gg:=g'.trans g1;have kk:=k.after gg;cases t with
 | false=>exact k.nx A1 H1 σ' zq zd gg (Aj.grow g1 s1) h1
 | true=>
  obtain⟨N,hN,hb1⟩:=h1;refine⟨λσ2 H2=> ∃A2 env2 zi,zU A H A2 H2/\yY X.K A2 H2 σ2 env2 zi/\N env2 zi,?_,?_⟩
  ·rintro σ2 H2 ⟨A2,env2,zi,g2,r2,n2⟩
   obtain⟨m',hm,w2⟩:=hN env2 zi n2;exact⟨m',hm,A2,env2,zi,g2,r2,w2⟩
  ·exact⟨A1,zq,zd,_,Aj.grow g1 s1,hb1,λA4 H4 σ4 env4 st4 g4 r4 h4=>⟨A4,env4,st4,gg.trans g4,r4,h4⟩,kk.rt,kk.nx,λA4 H4 σ4 env4 st4 g4 r4 h4=>⟨A4,env4,st4,gg.trans g4,r4,h4⟩⟩
def o9 (own:Nat)(g:w4)(tt:xE)(el:zC)(Ad:xX)(xs:List PV)(Q:List PV->z5->Prop)(env:zF)(st:z5):Prop:= ∃P:Nat->List PV->zF->z5->Prop,P 0 [] (env++List.replicate own none) st/\
 (∀i x ys env st,xs[i]?=some x->P i ys env st->sJ Ad st (g x env st λe s=>tt e s λb s2=>if b=true then el e s2 λy s3=>yU y=true/\P (i+1) (ys++ [y]) e s3 else P (i+1) ys e s2))/\
 (∀ys env st,P xs.length ys env st->sJ Ad st (Q ys st))
def cJ (own:Nat)(I:tJ)(g:w4)(tt:xE)(el:zC):zC:=λenv st Q=>I env st λAd xs zd=>o9 own g tt el Ad xs (λys zi=>Q 0#17 zi) env zd
def zg1 (own:Nat)(I:tJ)(g:w4)(tt:xE)(el:zC):zC:=λenv st Q=>I env st λAd xs zd=>o9 own g tt el Ad xs (λys zi=>Q (.obj zi.length) (zi++ [.lst ys])) env zd
def zoL:xE:=λ_ st Q=>Q true st
theorem p7:PF X [] (x9 X.K zoL):=zu7 zu5 λσ H Q ⟨A,env,st,Q3,zg,h,k⟩=>k A H st true (.refl _ _) zg.rs h
theorem j9 (h:PT X c 9#17):PF X [c] 9#17:=zu6 h
theorem yY.more {K:Frag}{A:List ac}{H:Hp}{σ:St}{env:zF}{st:z5}(r:yY K A H σ env st)(n:Nat):yY K A H (σ++List.replicate n none) (env++List.replicate n none) st:=by
 refine⟨r.rs,by rw[am,am,r.len,jv,jv],λi x h=> ?_⟩;by_cases hi:i < env.length
 ·rw[bw hi]at h
  rw[bw (by rw[<- r.len];exact hi)];exact r.at_ i x h
 ·rw[ba 0#0,kj]at h
  split at h <;> cases h
theorem zhE {K:Frag}{own:Nat}{g:w4}{tt:xE}{el:zC}{Ad:xX}{xs:List PV}{Q3:List PV->z5->Prop}{Q:VK}{A:List ac}{H:Hp}{σ:St}{env:zF}{st:z5}{J:It}(zg:yY K A H σ env st)(it:oB K A H Ad J xs)
  (h:o9 own g tt el Ad xs Q3 env st) (k: ∀A' H' zl ys vs,zU A H A' H'->RS K A' H' zl->RVs K A' H' ys vs->vs.length<=ak->Q3 ys zl->∀D,H' D=none->Q 7#15 (upd H' D (.lst vs))):zgB own J (u5 K g) (x9 K tt) (zK K el) Q σ H:=by
 obtain⟨P,p0,hP,hE⟩:=h;refine⟨λi m vs σ' H'=>m=xs.length - i/\i<=xs.length/\vs.length<=i/\∃A' zq zl ys,zU A H A' H'/\yY K A' H' σ' zq zl/\RVs K A' H' ys vs/\P i ys zq zl,⟨_,rfl,fv _,ar _,A,_,st,[],.refl _ _,zg.more own,.nil,p0⟩,?_⟩;rintro i m vs σ' H' ⟨rfl,hi,hv,A',zq,zl,ys,g',Aj,rv,p'⟩;by_cases Au:i < xs.length
 ·have hx:xs[i]?=some xs[i]:=bz Au
  have hw:=hP i _ ys zq zl hx p';refine .inr ⟨it.go i A' H' zl g' Aj.rs hw.ok Au,bp (mz hv Au) it.small,λvs σ2 H2=>i+1<=xs.length/\vs.length<=i+1/\∃A' zq zl ys,zU A H A' H2/\yY K A' H2 σ2 zq zl/\RVs K A' H2 ys vs/\P (i+1) ys zq zl,λvs σ2 H2 q=>⟨_,0#0,rfl,q⟩,λv H2 y=> ?_⟩;obtain⟨g2,s2,e2⟩:=it.yld i _ A' H' zl v H2 hx g' Aj.rs hw.ok y;refine⟨A',zq,zl,_,_,Aj.grow g2 s2,e2,hw.of,λA3 H3 σ3 env3 Ab g3 r3 h3=>⟨A3,env3,Ab,_,r3,h3,λA4 H4 st4 b g4 s4 h4=> ?_⟩⟩;have gg:=g2.trans (g3.trans g4);cases b with
  | false=>exact⟨Au,0#0,A4,env3,st4,ys,g'.trans gg,r3.grow g4 s4,rv.grow gg,h4⟩
  | true=>
   refine⟨A4,env3,st4,_,r3.grow g4 s4,h4,λA5 H5 st5 y v5 g5 s5 e5 h5=>⟨Au,by rw[am,cr];grobner,A5,env3,st5,ys++ [y],g'.trans (gg.trans g5),(r3.grow g4 s4).grow g5 s5,?_,h5.2⟩⟩;exact(rv.grow (gg.trans g5)).append (.cons (e5.rv h5.1) .nil)
 ·have e:i=xs.length:=0#0
  subst e;have hw:=hE ys zq zl p';have hz:=bh hv it.small;exact .inl ⟨it.stop A' H' zl g' Aj.rs hw.ok,hz,k A' H' zl ys vs g' Aj.rs rv hz hw.of⟩
variable {N' own:List Str} {scope:ll} {Ak:List Expr} {zh:Expr} {te:zC} {tt:xE}
theorem zhD {K:Frag}{own:Nat}{σ:St}{H:Hp}{Q:VK} :zK K (cJ own Ti Tg tt te) σ H Q->c8 own (qL K Ti) (u5 K Tg) (x9 K tt) (zK K te) σ H Q:=by
 rintro⟨A,env,st,Q3,zg,h,k⟩;refine⟨A,env,st,_,zg,h,λA1 H1 zd Ad xs J g1 s1 it h1=>zhE (zg.grow g1 s1) it h1 λA2 H2 zi ys vs g2 s2 r2 hz q D hD=> ?_⟩;exact k A2 _ zi _ _ (g1.trans (g2.trans (.new hD))) (s2.new hD) (.val (.lst (.inl ⟨.inl yM,s2.fresh hD⟩) hz (r2.grow (.new hD)))) q
theorem zq1 {K:Frag}{own:Nat}{σ:St}{H:Hp}{Q:VK} :zK K (zg1 own Ti Tg tt te) σ H Q->c8 own (qL K Ti) (u5 K Tg) (x9 K tt) (zK K te) σ H Q:=by
 rintro⟨A,env,st,Q3,zg,h,k⟩;refine⟨A,env,st,_,zg,h,λA1 H1 zd Ad xs J g1 s1 it h1=>zhE (zg.grow g1 s1) it h1 λA2 H2 zi ys vs g2 s2 r2 hz q D hD=> ?_⟩;exact k (A2++ [D]) _ _ _ _ (g1.trans (g2.trans (.newObj hD))) (s2.newObj (q:= .lst ys) hD ⟨vs,yM,r2.grow (.newObj hD),hz⟩) (.obj (j3 s2.len)) q
theorem qZ {pos:fe}(S:rH X scope N' own)(hc:X.calm=true)(hi:PI X zh zo (qL X.K Ti))
  (hg: ∀C s H fp zc,PG 7#2 zh (u5 X.K Tg)) (ht: ∀C s H fp zc,PF 7#2 Ak (x9 X.K tt)) (he: ∀C s H fp zc,PE 7#2 a (zK X.K te))
  (hs: ∀x,foldedSetIterable zo X.env x=pure x:=by intro _;rfl):PE X (.ListComp a [⟨zh,zo,Ak,0⟩] scope pos) (zK X.K (cJ own.length Ti Tg tt te)):=xP (zuq S hc hi hg ht he hs) λ_ _ _=>zhD
theorem zrE {K:Frag}{A:List ac}{H:Hp}{a:ac}{xs:List PV}{vs:List V}(t:rJ K A H a vs)(hz:vs.length<=ak)(r:RVs K A H xs vs):oB K A H none (iP K a) xs where
 go:=λi A' H' st g s _ hi=>by
  rw[r.len]at hi;exact⟨vs,vs[i],(t.grow g).sq,by simp[hi]⟩
 yld:=λi x A' H' st v H2 hx g s _ y=>by
  obtain⟨rfl,y⟩:=y;obtain⟨w,ew,rw'⟩:=r.get hx;have:=y vs (t.grow g).sq;rw[ew]at this;cases this;exact⟨.refl _ _,s,.val (rw'.grow g)⟩
 stop:=λA' H' st g s _=>⟨vs,(t.grow g).sq,by rw[r.len];exact ar _⟩
 small:=by rw[r.len];exact hz
theorem zrH {K:Frag}{A:List ac}{H:Hp}{a:ac}{xs:List PV}{vs:List V}(t:tK K A H a vs)(hz:vs.length<=ak)(r:RVs K A H xs vs):oB K A H none (bD K a) xs where
 go:=λi A' H' st g s _ hi=>by
  rw[r.len]at hi;exact⟨vs,vs[i],(t.grow g).sq,by simp[hi]⟩
 yld:=λi x A' H' st v H2 hx g s _ y=>by
  obtain⟨rfl,y⟩:=y;obtain⟨w,ew,rw'⟩:=r.get hx;have:=y vs (t.grow g).sq;rw[ew]at this;cases this;exact⟨.refl _ _,s,.val (rw'.grow g)⟩
 stop:=λA' H' st g s _=>⟨vs,(t.grow g).sq,by rw[r.len];exact ar _⟩
 small:=by rw[r.len];exact hz
theorem zrF {K:Frag}{A:List ac}{H:Hp}{i:Nat}{a:ac}{xs:List PV}(e:A[i]?=some a)(hz:xs.length<=ak):oB K A H (some (i,.lst xs)) (iP K a) xs where
 go:=λj A' H' st g s ok hi=>by
  obtain⟨vs,h,r,_⟩:=s.at_ i a _ (g.sub e) ok;rw[r.len]at hi;exact⟨vs,vs[j],.of h,by simp[hi]⟩
 yld:=λj x A' H' st v H2 hx g s ok y=>by
  obtain⟨rfl,y⟩:=y;obtain⟨vs,h,r,_⟩:=s.at_ i a _ (g.sub e) ok;obtain⟨w,ew,rw'⟩:=r.get hx;have:=y vs (.of h);rw[ew]at this;cases this;exact⟨.refl _ _,s,.val rw'⟩
 stop:=λA' H' st g s ok=>by
  obtain⟨vs,h,r,_⟩:=s.at_ i a _ (g.sub e) ok;exact⟨vs,.of h,by rw[r.len];exact ar _⟩
 small:=hz
def uM (lo:Int)(n:Nat):List PV:=(List.range n).map λi:Nat=> .int (lo+(i:Int))
theorem p9 (lo:Int)(n:Nat):(uM lo n).length=n:=by unfold uM;rw[ae,pf]
theorem o4 {lo:Int}{n i:Nat}{x:PV}(h:(uM lo n)[i]?=some x):i < n/\x= .int (lo+i):=by
 have hi:=(ah.mp h).1;rw[p9]at hi;unfold uM at h;rw[br,List.getElem?_range hi]at h;exact⟨hi,(cf h).symm⟩
theorem zlJ {K:Frag}{A:List ac}{H:Hp}{lo:Int}{n:Nat}(hz:n<=ak):oB K A H none (lZ lo n) (uM lo n) where
 go:=λi A' H' st g s _ hi=>by rw[p9]at hi;exact hi
 yld:=λi x A' H' st v H2 hx g s _ y=>by
  obtain⟨rfl,rfl⟩:=y;obtain⟨_,rfl⟩:=o4 hx;exact⟨.refl _ _,s,.val (.int _)⟩
 stop:=λA' H' st g s _=>by rw[p9];exact ar n
 small:=by rw[p9];exact hz
def zl8 (T:yK):tJ:=λenv st Q=>T env st λxs zd=>match xs with
 | [.int j]=>(-1000000<=j/\j<=1000000)/\Q none (uM 0 j.toNat) zd
 | _=>False
def zl9 (T:yK):tJ:=λenv st Q=>T env st λxs zd=>match xs with
 | 8#17=>5#13/\Q none (uM i (j - i).toNat) zd
 | _=>False
end
section
variable {X:Cx}
theorem uJ {f:aa->aa->Sem aa}{R:R3}
  (h: ∀zc s σ H A st x y v w vv ww Q3 Q,z4 X zc σ H s->RS X.K A H st->RE X.K A H x v->RE X.K A H y w->zO v vv->zO w ww->R x y st Q3->xR X.K A H Q3 Q->ay 1#2 X.A (f vv ww) 7#4 X.xe s):yJ X f (xV X.K R):=by
 rintro zc s σ H v w vv ww Q I rv rw ⟨A,st,x,y,Q3,rs,ex,ey,hR,k⟩;exact h zc s σ H A st x y v w vv ww Q3 Q I rs ex ey rv rw hR k
def zfI:R3:=λx y st Q=>match x,y with | .int i,.int j=>Q (.int (i - j)) st | _,_=>False
def eJ:R3:=λx y st Q=>match x,y with
 | .int i,.int j=>((-(2 ^ 64) < i/\i < 2 ^ 64)∨(-(2 ^ 64) < j/\j < 2 ^ 64))/\Q (.int (i * j)) st
 | .str z,.int n=>if n=0 then Q (.str Str.empty) st else n=1/\Q (.str z) st
 | _,_=>False
def zf_:R3:=λx y st Q=>match x,y with | .int i,.int j=>0 < j/\Q (.int (i % j)) st | _,_=>False
def zf4:R3:=λx y st Q=>match x,y with | .int i,.int j=>(0 < j/\j < 1099511627776)/\Q (.int (i / j)) st | _,_=>False
def zfF:R3:=λx y st Q=>match x,y with | .int i,.int j=>iE i j/\Q (.int (i ^ j.toNat)) st | _,_=>False
theorem ztR {X:Cx} :yJ X (binaryOp .FloorDiv) (rI (λ_ j=>0 < j/\j < 1099511627776) λi j=> .int (i / j)):=fD λi j _ _ _ _ _ hc q=>by
 have e:i.fdiv j=i / j:=Int.fdiv_eq_ediv_of_nonneg _ 0#0;rw[<- e]at q;refine PyProof.Rows.floordiv_int 0#0 q (.inl (PyProof.noPylong_of_log2 ?_));by_cases z:j.natAbs=0
 ·rw[z];decide
 ·have:=(Nat.log2_lt z).mpr (show j.natAbs < 2 ^ 40 by grobner)
  grobner
theorem xO {K:Frag}{A:List ac}{H:Hp}{i:Int}{v:V}(e:RE K A H 1#6 v):v= .int i:=by
 cases e with | val e=>cases e;rfl
theorem rD {K:Frag}{A:List ac}{H:Hp}{i:Str}{v:V}(e:RE K A H (.str i) v):v= .str i:=by
 cases e with | val e=>cases e;rfl
theorem zh5 {K:Frag}{A:List ac}{H:Hp}{i:Bool}{v:V}(e:RE K A H (.bl i) v):v= .bl i:=by
 cases e with | val e=>cases e;rfl
theorem qX:yJ X (binaryOp .Sub) (xV X.K zfI):=uJ λzc s σ H A st x y v w vv ww Q3 Q I rs ex ey rv rw h k=>by
 unfold zfI at h
 split at h
 ·cases xO ex;cases xO ey
  exact zue zc s σ H _ _ vv ww Q I rv rw ⟨_,_,rfl,rfl,k.now rs 1#13 h⟩
 ·exact h.elim
theorem rY:yJ X (binaryOp .Mult) (xV X.K eJ):=uJ λzc s σ H A st x y v w vv ww Q3 Q I rs ex ey rv rw h k=>by
 unfold eJ at h
 split at h
 ·cases xO ex;cases xO ey
  exact ztZ zc s σ H _ _ vv ww Q I rv rw ⟨_,_,rfl,rfl,h.1,k.now rs 1#13 h.2⟩
 ·cases rD ex;cases xO ey
  rename_i z n;by_cases hn:n=0
  ·rw[if_pos hn]at h
   exact zmJ zc s σ H _ _ vv ww Q I rv rw ⟨_,_,rfl,rfl,.inl ⟨hn,k.now rs (.val (.str _)) h⟩⟩
  ·rw[if_neg hn]at h
   exact zmJ zc s σ H _ _ vv ww Q I rv rw ⟨_,_,rfl,rfl,.inr ⟨h.1,k.now rs (.val (.str _)) h.2⟩⟩
 ·exact h.elim
theorem rX:yJ X (binaryOp .Mod) (xV X.K zf_):=uJ λzc s σ H A st x y v w vv ww Q3 Q I rs ex ey rv rw h k=>by
 unfold zf_ at h
 split at h
 ·cases xO ex;cases xO ey
  exact ztY zc s σ H _ _ vv ww Q I rv rw ⟨_,_,rfl,rfl,h.1,k.now rs 1#13 h.2⟩
 ·exact h.elim
theorem fC:yJ X (binaryOp .FloorDiv) (xV X.K zf4):=uJ λzc s σ H A st x y v w vv ww Q3 Q I rs ex ey rv rw h k=>by
 unfold zf4 at h
 split at h
 ·cases xO ex;cases xO ey
  exact ztR zc s σ H _ _ vv ww Q I rv rw ⟨_,_,rfl,rfl,h.1,k.now rs 1#13 h.2⟩
 ·exact h.elim
theorem ztn:yJ X (binaryOp .Pow) (xV X.K zfF):=uJ λzc s σ H A st x y v w vv ww Q3 Q I rs ex ey rv rw h k=>by
 unfold zfF at h
 split at h
 ·cases xO ex;cases xO ey
  exact zud zc s σ H _ _ vv ww Q I rv rw ⟨_,_,rfl,rfl,h.1,k.now rs 1#13 h.2⟩
 ·exact h.elim
def zfB:PV->z5->K3->Prop:=λx st Q=>match x with | .int i=>Q (.int (-i)) st | _=>False
theorem zm5:kB X (unaryOp .USub) (a9 X.K zfB):=by
 rintro zc s σ H v vv Q I rv ⟨A,st,x,Q3,rs,ex,h,k⟩;unfold zfB at h
 split at h
 ·cases xO ex
  exact zxA zc s σ H _ vv Q I rv ⟨_,rfl,k.now rs 1#13 h⟩
 ·exact h.elim
def oV (f:Int->Int->Bool):R3:=λx y st Q=>match x,y with | .int i,.int j=>Q (.bl (f i j)) st | _,_=>False
theorem zfg {op:CmpOp}{f:Int->Int->Bool}(ho:yJ X (compareOp op) (o0 λi j=> .bl (f i j))):yJ X (compareOp op) (xV X.K (oV f)):=uJ λzc s σ H A st x y v w vv ww Q3 Q I rs ex ey rv rw h k=>by
 unfold oV at h
 split at h
 ·cases xO ex;cases xO ey
  exact ho zc s σ H _ _ vv ww Q I rv rw ⟨_,_,rfl,rfl,k.now rs 7#7 h⟩
 ·exact h.elim
theorem pW:yJ X (compareOp .Lt) (xV X.K (oV λi j=>decide (i < j))):=zfg ztX
theorem sD:yJ X (compareOp .Gt) (xV X.K (oV λi j=>decide (j < i))):=zfg ztT
theorem zfi:yJ X (compareOp .GtE) (xV X.K (oV λi j=>decide (j<=i))):=zfg ztS
def u7:PV->Bool
 | .non=>true
 | _=>false
def zf7:R3:=λx y st Q=>match y with | .non=>Q (.bl (u7 x)) st | _=>False
def zfC:R3:=λx y st Q=>match y with | .non=>Q (.bl (!u7 x)) st | _=>False
theorem zlI {K:Frag}{A:List ac}{H:Hp}{x:PV}{v:V}(e:RE K A H x v):decide (v= .non)=u7 x:=by
 cases e with
 | obj e=>rfl
 | val e=>cases e <;> rfl
theorem zth:yJ X (compareOp .Is) (xV X.K zf7):=uJ λzc s σ H A st x y v w vv ww Q3 Q I rs ex ey rv rw h k=>by
 unfold zf7 at h
 split at h
 ·have hw:w= .non:=by cases ey with | val e=>cases e;rfl
  exact ztW zc s σ H _ _ vv ww Q I rv rw ⟨hw,by rw[zlI ex];exact k.now rs 7#7 h⟩
 ·exact h.elim
theorem j0:yJ X (compareOp .IsNot) (xV X.K zfC):=uJ λzc s σ H A st x y v w vv ww Q3 Q I rs ex ey rv rw h k=>by
 unfold zfC at h
 split at h
 ·have hw:w= .non:=by cases ey with | val e=>cases e;rfl
  exact zuc zc s σ H _ _ vv ww Q I rv rw ⟨hw,by rw[zlI ex];exact k.now rs 7#7 h⟩
 ·exact h.elim
theorem ztP:yJ X (binaryOp .Add) (λx y H Q=> ∃a b xs ys,x= .ref a/\y= .ref b/\xT X.K H a xs/\xT X.K H b ys/\xs.length+ys.length<=ak/\
  (xs= []->Q (.ref b) H)/\(ys= []->Q 8#9 H)/\∀p,H p=none->Q 3#13 (upd H p (.tup (xs++ys)))):=by
 intro zc s σ H x y v u Q I rx ry h;obtain⟨a,b,xs,ys,rfl,rfl,ha,hb,hz,q1,q2,q3⟩:=h;by_cases hx:xs= []
 ·cases rx;cases ry
  subst hx;obtain⟨zf,r1,p1,_⟩:=I.tuple ha;obtain⟨zx,r2,p2,_⟩:=I.tuple hb;have hv:zf= []:=r1.nil_iff.mpr rfl;subst hv;obtain⟨⟨cls,dd,data,sl⟩,ho,hc,n,hd⟩:=id p1;obtain⟨⟨cls2,dd2,data2,sl2⟩,ho2,hc2,n2,hd2⟩:=id p2;simp only at hc hd hc2 hd2;subst hc hd hc2 hd2;exact xr ⟨_,ho,rfl⟩ ⟨_,ho2,rfl⟩ um xf pi pb (oj _ _)
   (tuple_addW0 a b _ zx.toArray n n2 dd dd2 sl sl2 3#0) ⟨ho,ho2,⟨.ref b,H,I,rfl,q1 rfl⟩⟩
 ·exact ztQ zc s σ H _ _ v u Q I rx ry ⟨a,b,_,_,rfl,rfl,ha,hb,hx,hz,q2,λ_=>q3⟩
def mZ:R3:=λx y st Q=>match x,y with
 | .int i,.int j=>Q (.int (i+j)) st
 | .str i,.str j=>i.length+j.length<=ak/\Q (.str (i++j)) st
 | .tup xs,.tup ys=>xs.length+ys.length<=ak/\Q (.tup (xs++ys)) st
 | .lst xs,.lst ys=>xs.length+ys.length<=ak/\Q (.lst (xs++ys)) st
 | _,_=>False
theorem RVs.nil_iff {K:Frag}{A:List ac}{H:Hp}{xs:List PV}{vs:List V}(h:RVs K A H xs vs):vs= []->xs= []:=by
 cases h with
 | nil=>exact λ_=>rfl
 | cons r t=>exact λz=>nomatch z
theorem xR.tup {K:Frag}{A:List ac}{H:Hp}{Q3:K3}{Q:VK}{st:z5}{xs:List PV}{vs:List V}(k:xR K A H Q3 Q)(rs:RS K A H st)(r:RVs K A H xs vs)(hz:vs.length<=ak)(q:Q3 9#6 st): ∀p,H p=none->Q 3#13 (upd H p (.tup vs)):=
 λp hp=>k A _ st _ _ (.new hp) (rs.new hp) (.val (.tup (.inl ⟨.inl yM,rs.fresh hp⟩) hz (r.grow (.new hp)))) q
theorem xR.lst {K:Frag}{A:List ac}{H:Hp}{Q3:K3}{Q:VK}{st:z5}{xs:List PV}{vs:List V}(k:xR K A H Q3 Q)(rs:RS K A H st)(r:RVs K A H xs vs)(hz:vs.length<=ak)(q:Q3 9#3 st): ∀p,H p=none->Q 3#13 (upd H p (.lst vs)):=
 λp hp=>k A _ st _ _ (.new hp) (rs.new hp) (.val (.lst (.inl ⟨.inl yM,rs.fresh hp⟩) hz (r.grow (.new hp)))) q
theorem xR.lstO {K:Frag}{A:List ac}{H:Hp}{Q3:K3}{Q:VK}{st:z5}{xs:List PV}{vs:List V}(k:xR K A H Q3 Q)(rs:RS K A H st)(r:RVs K A H xs vs)(hz:vs.length<=ak)(q:Q3 5#2 (st++ [.lst xs])): ∀p,H p=none->Q 3#13 (upd H p (.lst vs)):=
 λp hp=>k (A++ [p]) _ _ _ _ (.newObj hp) (rs.newObj (q:= .lst xs) hp ⟨vs,yM,r.grow (.newObj hp),hz⟩) (.obj (j3 rs.len)) q
theorem xR.dctO {K:Frag}{A:List ac}{H:Hp}{Q3:K3}{Q:VK}{st:z5}{xs:List 2#3}{vs:List (z8×V)}(k:xR K A H Q3 Q)(rs:RS K A H st)(r:RKs K A H xs vs)(hz:vs.length<=ak)(q:Q3 5#2 (st++ [.dct xs])): ∀p,H p=none->Q 3#13 (upd H p (.dK vs)):=
 λp hp=>k (A++ [p]) _ _ _ _ (.newObj hp) (rs.newObj (q:= .dct xs) hp ⟨vs,yM,r.grow (.newObj hp),hz⟩) (.obj (j3 rs.len)) q
theorem xR.dct {K:Frag}{A:List ac}{H:Hp}{Q3:K3}{Q:VK}{st:z5}{xs:List 2#3}{vs:List (z8×V)}(k:xR K A H Q3 Q)(rs:RS K A H st)(r:RKs K A H xs vs)(hz:vs.length<=ak)(q:Q3 (.dct xs) st): ∀p,H p=none->Q 3#13 (upd H p (.dK vs)):=
 λp hp=>k A _ st _ _ (.new hp) (rs.new hp) (.val (.dct ⟨yM,rs.fresh hp⟩ hz (r.grow (.new hp)))) q
theorem zmI:yJ X (binaryOp .Add) (λx y H Q=> ∃a b xs ys,x= .ref a/\y= .ref b/\x8 X.K H a xs/\x8 X.K H b ys/\xs.length+ys.length<=ak/\∀p,H p=none->Q 3#13 (upd H p (.lst (xs++ys)))):=by
 intro zc s σ H x y v u Q I rx ry h;obtain⟨a,b,xs,ys,rfl,rfl,ha,hb,hz,q⟩:=h;cases rx;cases ry;obtain⟨zf,n,r1,e,_⟩:=I.listX ha;obtain⟨zx,n2,r2,e2,_⟩:=I.listX hb;have l1:=r1.length;have l2:=r2.length;refine PySem.P.add_list e e2 ?_ (by rw[bq,bq];grobner);have ea:zf.toArray++zx.toArray=(zf++zx).toArray:=3#0
 rw[ea];exact⟨.ref _,_,I.lnew (t':=s.toks) (r1.append r2) (by rw[am];grobner),rfl,q _ I.fresh⟩
theorem yO:yJ X (binaryOp .Add) (xV X.K mZ):=uJ λzc s σ H A st x y v w vv ww Q3 Q I rs ex ey rv rw h k=>by
 unfold mZ at h
 split at h
 ·cases xO ex;cases xO ey
  exact ztN zc s σ H _ _ vv ww Q I rv rw ⟨_,_,rfl,rfl,k.now rs 1#13 h⟩
 ·cases rD ex;cases rD ey
  exact ztO zc s σ H _ _ vv ww Q I rv rw ⟨_,_,rfl,rfl,h.1,k.now rs (.val (.str _)) h.2⟩
 ·cases ex with | val ex=>cases ey with | val ey=>cases ex with | tup t z r=>cases ey with | tup t2 z2 r2=>
   have hl:_:=h.1;rw[r.len,r2.len]at hl;refine ztP zc s σ H _ _ vv ww Q I rv rw ⟨_,_,_,_,rfl,rfl,t.sq,t2.sq,hl,λe=> ?_,λe=> ?_,k.tup rs (r.append r2) (by rw[am];exact hl) h.2⟩
   ·have e2:=r.nil_iff e
    subst e2;exact k.now rs (.val (.tup t2 z2 r2)) h.2
   ·have e2:=r2.nil_iff e
    subst e2;refine k.now rs (.val (.tup t z r)) ?_;have:=h.2;rw[da]at this;exact this
 ·cases ex with | val ex=>cases ey with | val ey=>cases ex with | lst t z r=>cases ey with | lst t2 z2 r2=>
   have hl:_:=h.1;rw[r.len,r2.len]at hl;exact zmI zc s σ H _ _ vv ww Q I rv rw ⟨_,_,_,_,rfl,rfl,t.sq,t2.sq,hl,k.lst rs (r.append r2) (by rw[am];exact hl) h.2⟩
 ·exact h.elim
end
mutual
def yB:PV->PV->Bool
 | .non,.non=>true
 | .bl a,.bl b=>a==b
 | .bl a,.int b=>(if a then 1 else 0)==b
 | .int a,.bl b=>a==(if b then 1 else 0)
 | .int a,.int b=>a==b
 | .str a,.str b=>a==b
 | .tup xs,.tup ys=>eqPs xs ys
 | .lst xs,.lst ys=>eqPs xs ys
 | _,_=>false
def eqPs:List PV->List PV->Bool
 | [],[]=>true
 | x::xs,y::ys=>yB x y&&eqPs xs ys
 | _,_=>false
end
mutual
def zE:PV->Nat
 | .tup xs=>dpts xs+1
 | .lst xs=>dpts xs+1
 | .dct _=>1000
 | .itb _=>1000
 | .clo _=>1000
 | .ty _=>1000
 | .obj _=>1000
 | _=>0
def dpts:List PV->Nat
 | []=>0
 | x::xs=>max (zE x) (dpts xs)
end
theorem aG: ∀{xs:List PV} {i:Nat} {x:PV},xs[i]?=some x->zE x<=dpts xs
 | y::ys,0,x,h=>by simp at h;subst h;unfold dpts;exact Nat.le_max_left _ _
 | y::ys,i+1,x,h=>by
  have:=aG (xs:=ys) (i:=i) (x:=x) (by simpa using h);unfold dpts;exact bh this (Nat.le_max_right _ _)
mutual
theorem mB: ∀(x:PV),zE x < 1000->yB x x=true
 | .non,_=>by unfold yB;rfl
 | .bl b,_=>by unfold yB;simp
 | .int i,_=>by unfold yB;simp
 | .str s,_=>by unfold yB;simp
 | .tup xs,h=>by unfold yB;exact eqPs_refl xs (by unfold zE at h;grobner)
 | .lst xs,h=>by unfold yB;exact eqPs_refl xs (by unfold zE at h;grobner)
 | .dct _,h=>by unfold zE at h;grobner
 | .itb _,h=>by unfold zE at h;grobner
 | .clo _,h=>by unfold zE at h;grobner
 | .ty _,h=>by unfold zE at h;grobner
 | .obj _,h=>by unfold zE at h;grobner
theorem eqPs_refl: ∀(xs:List PV),dpts xs < 1000->eqPs xs xs=true
 | [],_=>by unfold eqPs;rfl
 | x::xs,h=>by
  unfold dpts at h;unfold eqPs;rw[mB x 0#0,eqPs_refl xs 0#0];rfl
end
theorem gJ: ∀(xs ys:List PV),eqPs xs ys=((List.range (min xs.length ys.length)).all (λj=>match xs[j]?,ys[j]? with | some x,some y=>yB x y | _,_=>true)&&xs.length==ys.length)
 | [],[]=>by unfold eqPs;rfl
 | [],y::ys=>by unfold eqPs;simp
 | x::xs,[]=>by unfold eqPs;simp
 | x::xs,y::ys=>by
  unfold eqPs;rw[gJ xs ys];rw[bv,bv,Nat.succ_min_succ,vo,mr,xy];simp only[pc,Bool.and_assoc]
  congr 1
  have e:((λj=>match(x::xs)[j]?,(y::ys)[j]? with | some x,some y=>yB x y | _,_=>true) ∘ Nat.succ)=λj=>match xs[j]?,ys[j]? with | some x,some y=>yB x y | _,_=>true:=by
   funext j;simp
  rw[e]
  congr 1
  rw[yq];simp
section
variable {X:Cx} {zc:List (ac×af)} {σ:St} {H:Hp} {s:ai} {A:List ac}
theorem z4.lst_tup (I:z4 X zc σ H s){a:ac}{xs ys:List V}(h1:x8 X.K H a xs)(h2:xT X.K H a ys):False:=by
 obtain⟨zf,_,p,_⟩:=I.list h1;obtain⟨zx,_,p2,_⟩:=I.tuple h2;exact SeqAt.ne_of_list_tuple p.isList p2 rfl
mutual
theorem RV.inj (I:z4 X zc σ H s){x y:PV}{v:V}(a:RV X.K A H x v)(b:RV X.K A H y v)(h1:zE x < 1000)(h2:zE y < 1000):x=y:=by
 cases a with
 | non=>cases b;rfl
 | bl _=>cases b;rfl
 | int _=>cases b;rfl
 | str _=>cases b;rfl
 | ty _=>cases b;rfl
 | tup t z r=>
  cases b with
  | tup t2 z2 r2=>
   have e:=I.tuple_inj t.sq t2.sq;subst e;rw[RVs.inj2 I r r2 (by unfold zE at h1;grobner) (by unfold zE at h2;grobner)]
  | lst t2 z2 r2=>exact(z4.lst_tup I t2.sq t.sq).elim
  | dct _ _ _=>unfold zE at h2;grobner
  | itb _ _=>unfold zE at h2;grobner
  | clo _=>unfold zE at h2;grobner
 | lst t z r=>
  cases b with
  | lst t2 z2 r2=>
   have e:=I.list_inj t.sq t2.sq;subst e;rw[RVs.inj2 I r r2 (by unfold zE at h1;grobner) (by unfold zE at h2;grobner)]
  | tup t2 z2 r2=>exact(z4.lst_tup I t.sq t2.sq).elim
  | dct _ _ _=>unfold zE at h2;grobner
  | itb _ _=>unfold zE at h2;grobner
  | clo _=>unfold zE at h2;grobner
 | dct _ _ _=>unfold zE at h1;grobner
 | itb _ _=>unfold zE at h1;grobner
 | clo _=>unfold zE at h1;grobner
theorem RVs.inj2 (I:z4 X zc σ H s){xs ys:List PV}{vs:List V}(a:RVs X.K A H xs vs)(b:RVs X.K A H ys vs)(h1:dpts xs < 1000)(h2:dpts ys < 1000):xs=ys:=by
 cases a with
 | nil=>cases b;rfl
 | cons r t=>
  cases b with
  | cons r2 t2=>
   unfold dpts at h1 h2;rw[RV.inj I r r2 0#0 0#0,RVs.inj2 I t t2 0#0 0#0]
end
theorem mF {n:Nat}{B:cw}{xs ys:List PV}{vs ws:List V}{zf zx:List aa}(rx:RVs X.K A H xs vs)(ry:RVs X.K A H ys ws)(r1:zJ vs zf)(r2:zJ ws zx)
  (ih: ∀x y v w vv ww,zE x<=n->zE y < 1000->RV X.K A H x v->RV X.K A H y w->zO v vv->zO w ww->SeqAt.EqAt B s vv ww (yB x y)) (hx:dpts xs<=n) (hy:dpts ys < 1000):
  ∀j (h1:j < zf.toArray.size) (h2:j < zx.toArray.size),SeqAt.EqAt B s zf.toArray[j] zx.toArray[j] ((λj=>match xs[j]?,ys[j]? with | some x,some y=>yB x y | _,_=>true) j):=λj h1 h2=>by
 obtain⟨v,ev,rv⟩:=zoP r1 h1;obtain⟨w,ew,rw'⟩:=zoP r2 h2;obtain⟨x,ex,rx'⟩:=rx.get' ev;obtain⟨y,ey,ry'⟩:=ry.get' ew;show SeqAt.EqAt B s _ _ (match xs[j]?,ys[j]? with | some x,some y=>yB x y | _,_=>true);rw[ex,ey];exact ih x y v w _ _ (bh (aG ex) hx) (mz (aG ey) hy) rx' ry' rv rw'
def dG:PV->PV->Bool
 | .tup _,.tup _=>true
 | .lst _,.lst _=>true
 | _,_=>false
inductive Kd (s:ai):PV->aa->Prop
 | non:Kd s .non .none
 | bl (b:Bool):Kd s (.bl b) (.bool b)
 | int (i:Int) (t:nv):Kd s 1#6 (.int i t)
 | str (z:Str) (t:nv):Kd s (.str z) (.str z t)
 | tup {xs:List PV} {a:ac} {zf:Array aa} :IsTup s.heap a zf->Kd s 9#6 8#9
 | lst {xs:List PV} {a:ac} {zf:Array aa} :s.heap.IsList a zf->Kd s 9#3 8#9
theorem pU (I:z4 X zc σ H s){x:PV}{v:V}{vv:aa}(rx:RV X.K A H x v)(rv:zO v vv)(h:zE x < 1000):Kd s x vv:=by
 cases rx with
 | non=>cases rv;exact .non
 | bl b=>cases rv;exact .bl b
 | int i=>obtain⟨t,rfl⟩:=rv;exact .int i t
 | str z=>obtain⟨t,rfl⟩:=rv;exact .str z t
 | ty n=>unfold zE at h;grobner
 | tup t z r=>cases rv;obtain⟨zf,_,p,_⟩:=I.tuple t.sq;exact .tup p
 | lst t z r=>cases rv;obtain⟨zf,_,p,_⟩:=I.list t.sq;exact .lst p.isList
 | dct t z r=>unfold zE at h;grobner
 | itb _ _=>unfold zE at h;grobner
 | clo _=>unfold zE at h;grobner
local macro_rules | `(tactic| exact?)=> `(tactic| simp only[yB,Bool.not_false,Bool.not_true])
open SeqAt in
theorem zif {B:cw}(hu:B.units < cLine): ∀{x y:PV} {vv ww:aa},Kd s x vv->Kd s y ww->dG x y=false->EqAt B s vv ww (yB x y)
 | _,_,_,_,.non,.non,_=>by exact?;exact EqAt.same _
 | _,_,_,_,.non,.bl b,_=>by exact?;exact EqAt.none_bool _
 | _,_,_,_,.non,.int b b2,_=>by exact?;exact EqAt.none_int _ _
 | _,_,_,_,.non,.str b b2,_=>by exact?;exact EqAt.none_str _ _
 | _,_,_,_,.non,.tup b,_=>by exact?;exact EqAt.none_tuple b hu
 | _,_,_,_,.non,.lst b,_=>by exact?;exact EqAt.none_list b hu
 | _,_,_,_,.bl a,.non,_=>by exact?;exact EqAt.bool_none _
 | _,_,_,_,.bl a,.bl b,_=>by exact?;exact EqAt.bool_bool _ _
 | _,_,_,_,.bl a,.int b b2,_=>by exact?;exact EqAt.bool_int _ _ _
 | _,_,_,_,.bl a,.str b b2,_=>by exact?;exact EqAt.bool_str _ _ _
 | _,_,_,_,.bl a,.tup b,_=>by exact?;exact EqAt.bool_tuple _ b hu
 | _,_,_,_,.bl a,.lst b,_=>by exact?;exact EqAt.bool_list _ b hu
 | _,_,_,_,.int a a2,.non,_=>by exact?;exact EqAt.int_none _ _
 | _,_,_,_,.int a a2,.bl b,_=>by exact?;exact EqAt.int_bool _ _ _
 | _,_,_,_,.int a a2,.int b b2,_=>by exact?;exact EqAt.int_int _ _ _ _
 | _,_,_,_,.int a a2,.str b b2,_=>by exact?;exact EqAt.int_str _ _ _ _
 | _,_,_,_,.int a a2,.tup b,_=>by exact?;exact EqAt.int_tuple _ _ b hu
 | _,_,_,_,.int a a2,.lst b,_=>by exact?;exact EqAt.int_list _ _ b hu
 | _,_,_,_,.str a a2,.non,_=>by exact?;exact EqAt.str_none _ _
 | _,_,_,_,.str a a2,.bl b,_=>by exact?;exact EqAt.str_bool _ _ _
 | _,_,_,_,.str a a2,.int b b2,_=>by exact?;exact EqAt.str_int _ _ _ _
 | _,_,_,_,.str a a2,.str b b2,_=>by exact?;exact EqAt.str_str _ _ _ _
 | _,_,_,_,.str a a2,.tup b,_=>by exact?;exact EqAt.str_tuple _ _ b hu
 | _,_,_,_,.str a a2,.lst b,_=>by exact?;exact EqAt.str_list _ _ b hu
 | _,_,_,_,.tup a,.non,_=>by exact?;exact EqAt.tuple_none a hu
 | _,_,_,_,.tup a,.bl b,_=>by exact?;exact EqAt.tuple_bool _ a hu
 | _,_,_,_,.tup a,.int b b2,_=>by exact?;exact EqAt.tuple_int _ _ a hu
 | _,_,_,_,.tup a,.str b b2,_=>by exact?;exact EqAt.tuple_str _ _ a hu
 | _,_,_,_,.tup _,.tup _,h=>Bool.noConfusion h
 | _,_,_,_,.tup a,.lst b,_=>by exact?;exact EqAt.tuple_list a b hu
 | _,_,_,_,.lst a,.non,_=>by exact?;exact EqAt.list_none a hu
 | _,_,_,_,.lst a,.bl b,_=>by exact?;exact EqAt.list_bool _ a hu
 | _,_,_,_,.lst a,.int b b2,_=>by exact?;exact EqAt.list_int _ _ a hu
 | _,_,_,_,.lst a,.str b b2,_=>by exact?;exact EqAt.list_str _ _ a hu
 | _,_,_,_,.lst a,.tup b,_=>by exact?;exact EqAt.list_tuple a b hu
 | _,_,_,_,.lst _,.lst _,h=>Bool.noConfusion h
open SeqAt in
theorem zvS {B:cw}(hu:B.units < cLine): ∀{x y:PV} {vv ww:aa},Kd s x vv->Kd s y ww->dG x y=false->RcAt B s vv ww (yB x y)
 | _,_,_,_,.non,.non,_=>by exact?;exact RcAt.none_none
 | _,_,_,_,.non,.bl b,_=>by exact?;exact RcAt.none_bool _
 | _,_,_,_,.non,.int b b2,_=>by exact?;exact RcAt.none_int _ _
 | _,_,_,_,.non,.str b b2,_=>by exact?;exact RcAt.none_str _ _
 | _,_,_,_,.non,.tup b,_=>by exact?;exact RcAt.none_tuple b hu
 | _,_,_,_,.non,.lst b,_=>by exact?;exact RcAt.none_list b hu
 | _,_,_,_,.bl a,.non,_=>by exact?;exact RcAt.bool_none _
 | _,_,_,_,.bl a,.bl b,_=>by exact?;exact RcAt.bool_bool _ _
 | _,_,_,_,.bl a,.int b b2,_=>by exact?;exact RcAt.bool_int _ _ _
 | _,_,_,_,.bl a,.str b b2,_=>by exact?;exact RcAt.bool_str _ _ _
 | _,_,_,_,.bl a,.tup b,_=>by exact?;exact RcAt.bool_tuple _ b hu
 | _,_,_,_,.bl a,.lst b,_=>by exact?;exact RcAt.bool_list _ b hu
 | _,_,_,_,.int a a2,.non,_=>by exact?;exact RcAt.int_none _ _
 | _,_,_,_,.int a a2,.bl b,_=>by exact?;exact RcAt.int_bool _ _ _
 | _,_,_,_,.int a a2,.int b b2,_=>by exact?;exact RcAt.int_int _ _ _ _
 | _,_,_,_,.int a a2,.str b b2,_=>by exact?;exact RcAt.int_str _ _ _ _
 | _,_,_,_,.int a a2,.tup b,_=>by exact?;exact RcAt.int_tuple _ _ b hu
 | _,_,_,_,.int a a2,.lst b,_=>by exact?;exact RcAt.int_list _ _ b hu
 | _,_,_,_,.str a a2,.non,_=>by exact?;exact RcAt.str_none _ _
 | _,_,_,_,.str a a2,.bl b,_=>by exact?;exact RcAt.str_bool _ _ _
 | _,_,_,_,.str a a2,.int b b2,_=>by exact?;exact RcAt.str_int _ _ _ _
 | _,_,_,_,.str a a2,.str b b2,_=>by exact?;exact RcAt.str_str _ _ _ _
 | _,_,_,_,.str a a2,.tup b,_=>by exact?;exact RcAt.str_tuple _ _ b hu
 | _,_,_,_,.str a a2,.lst b,_=>by exact?;exact RcAt.str_list _ _ b hu
 | _,_,_,_,.tup a,.non,_=>by exact?;exact RcAt.tuple_none a hu
 | _,_,_,_,.tup a,.bl b,_=>by exact?;exact RcAt.tuple_bool _ a hu
 | _,_,_,_,.tup a,.int b b2,_=>by exact?;exact RcAt.tuple_int _ _ a hu
 | _,_,_,_,.tup a,.str b b2,_=>by exact?;exact RcAt.tuple_str _ _ a hu
 | _,_,_,_,.tup _,.tup _,h=>Bool.noConfusion h
 | _,_,_,_,.tup a,.lst b,_=>by exact?;exact RcAt.tuple_list a b hu
 | _,_,_,_,.lst a,.non,_=>by exact?;exact RcAt.list_none a hu
 | _,_,_,_,.lst a,.bl b,_=>by exact?;exact RcAt.list_bool _ a hu
 | _,_,_,_,.lst a,.int b b2,_=>by exact?;exact RcAt.list_int _ _ a hu
 | _,_,_,_,.lst a,.str b b2,_=>by exact?;exact RcAt.list_str _ _ a hu
 | _,_,_,_,.lst a,.tup b,_=>by exact?;exact RcAt.list_tuple a b hu
 | _,_,_,_,.lst _,.lst _,h=>Bool.noConfusion h
open SeqAt in
theorem zvU {B:cw}(hu:B.units < cLine): ∀{x y:PV} {vv ww:aa},Kd s x vv->Kd s y ww->dG x y=false->RcNeAt B s vv ww (!yB x y)
 | _,_,_,_,.non,.non,_=>by exact?;exact RcNeAt.none_none
 | _,_,_,_,.non,.bl b,_=>by exact?;exact RcNeAt.none_bool _
 | _,_,_,_,.non,.int b b2,_=>by exact?;exact RcNeAt.none_int _ _
 | _,_,_,_,.non,.str b b2,_=>by exact?;exact RcNeAt.none_str _ _
 | _,_,_,_,.non,.tup b,_=>by exact?;exact RcNeAt.none_tuple b hu
 | _,_,_,_,.non,.lst b,_=>by exact?;exact RcNeAt.none_list b hu
 | _,_,_,_,.bl a,.non,_=>by exact?;exact RcNeAt.bool_none _
 | _,_,_,_,.bl a,.bl b,_=>by exact?;exact RcNeAt.bool_bool _ _
 | _,_,_,_,.bl a,.int b b2,_=>by exact?;exact RcNeAt.bool_int _ _ _
 | _,_,_,_,.bl a,.str b b2,_=>by exact?;exact RcNeAt.bool_str _ _ _
 | _,_,_,_,.bl a,.tup b,_=>by exact?;exact RcNeAt.bool_tuple _ b hu
 | _,_,_,_,.bl a,.lst b,_=>by exact?;exact RcNeAt.bool_list _ b hu
 | _,_,_,_,.int a a2,.non,_=>by exact?;exact RcNeAt.int_none _ _
 | _,_,_,_,.int a a2,.bl b,_=>by exact?;exact RcNeAt.int_bool _ _ _
 | _,_,_,_,.int a a2,.int b b2,_=>by exact?;exact RcNeAt.int_int _ _ _ _
 | _,_,_,_,.int a a2,.str b b2,_=>by exact?;exact RcNeAt.int_str _ _ _ _
 | _,_,_,_,.int a a2,.tup b,_=>by exact?;exact RcNeAt.int_tuple _ _ b hu
 | _,_,_,_,.int a a2,.lst b,_=>by exact?;exact RcNeAt.int_list _ _ b hu
 | _,_,_,_,.str a a2,.non,_=>by exact?;exact RcNeAt.str_none _ _
 | _,_,_,_,.str a a2,.bl b,_=>by exact?;exact RcNeAt.str_bool _ _ _
 | _,_,_,_,.str a a2,.int b b2,_=>by exact?;exact RcNeAt.str_int _ _ _ _
 | _,_,_,_,.str a a2,.str b b2,_=>by exact?;exact RcNeAt.str_str _ _ _ _
 | _,_,_,_,.str a a2,.tup b,_=>by exact?;exact RcNeAt.str_tuple _ _ b hu
 | _,_,_,_,.str a a2,.lst b,_=>by exact?;exact RcNeAt.str_list _ _ b hu
 | _,_,_,_,.tup a,.non,_=>by exact?;exact RcNeAt.tuple_none a hu
 | _,_,_,_,.tup a,.bl b,_=>by exact?;exact RcNeAt.tuple_bool _ a hu
 | _,_,_,_,.tup a,.int b b2,_=>by exact?;exact RcNeAt.tuple_int _ _ a hu
 | _,_,_,_,.tup a,.str b b2,_=>by exact?;exact RcNeAt.tuple_str _ _ a hu
 | _,_,_,_,.tup _,.tup _,h=>Bool.noConfusion h
 | _,_,_,_,.tup a,.lst b,_=>by exact?;exact RcNeAt.tuple_list a b hu
 | _,_,_,_,.lst a,.non,_=>by exact?;exact RcNeAt.list_none a hu
 | _,_,_,_,.lst a,.bl b,_=>by exact?;exact RcNeAt.list_bool _ a hu
 | _,_,_,_,.lst a,.int b b2,_=>by exact?;exact RcNeAt.list_int _ _ a hu
 | _,_,_,_,.lst a,.str b b2,_=>by exact?;exact RcNeAt.list_str _ _ a hu
 | _,_,_,_,.lst a,.tup b,_=>by exact?;exact RcNeAt.list_tuple a b hu
 | _,_,_,_,.lst _,.lst _,h=>Bool.noConfusion h
theorem zfX (x y:PV):dG x y=false∨(∃xs ys,x= .tup xs/\y= .tup ys)∨∃xs ys,x= .lst xs/\y= .lst ys:=by
 cases x <;> cases y <;> first | exact .inl rfl | exact .inr (.inl ⟨_,_,rfl,rfl⟩) | exact .inr (.inr ⟨_,_,rfl,rfl⟩)
theorem zfK {xs ys:List PV}{n m:Nat}(h1:xs.length=n)(h2:ys.length=m):((List.range (min n m)).all (λj=>match xs[j]?,ys[j]? with | some x,some y=>yB x y | _,_=>true)&&n==m)=eqPs xs ys:=by
 subst h1 h2;exact(gJ xs ys).symm
theorem zfL {xs ys:List PV}{n m:Nat}(h1:xs.length=n)(h2:ys.length=m)(h:n=m):(List.range n).all (λj=>match xs[j]?,ys[j]? with | some x,some y=>yB x y | _,_=>true)=eqPs xs ys:=by
 rw[gJ,h1,h2,<- h,Nat.min_self];simp
theorem aJ {xs ys:List PV}(h:xs.length≠ys.length):eqPs xs ys=false:=by
 rw[gJ];simp[h]
theorem gK (I:z4 X zc σ H s): ∀(n:Nat) (B:cw) (x y:PV) (v w:V) (vv ww:aa),B.units+n < cLine->zE x<=n->n < 1000->zE y < 1000->RV X.K A H x v->RV X.K A H y w->zO v vv->zO w ww->SeqAt.EqAt B s vv ww (yB x y):=by
 intro n
 induction n with
 | zero=>
  intro B x y v w vv ww hu hx hn hy rx ry rv rw;refine zif 0#0 (pU I rx rv 0#0) (pU I ry rw hy) ?_;cases x <;> first | (unfold zE at hx;grobner) | rfl
 | succ n ih=>
  intro B x y v w vv ww hu hx hn hy rx ry rv rw;rcases zfX x y with h | ⟨xs,ys,rfl,rfl⟩ | ⟨xs,ys,rfl,rfl⟩
  ·exact zif 0#0 (pU I rx rv 0#0) (pU I ry rw hy) h
  ·cases rx with | tup t z r=>cases ry with | tup t2 z2 r2=>
    rename_i a vs b ws;cases rv;cases rw;by_cases hab:a=b
    ·subst hab
     have e:=RV.inj I (.tup t z r) (.tup t2 z2 r2) 0#0 hy;rw[e,mB _ hy];exact vd _
    ·obtain⟨zf,r3,p,_⟩:=I.tuple t.sq
     obtain⟨zx,r4,p2,_⟩:=I.tuple t2.sq;have hh:=SeqAt.RcAt.tuples (A:=B) (show s.heap.IsTuple a zf.toArray from p) (show s.heap.IsTuple b zx.toArray from p2) 0#0 (mF r r2 r3 r4 (λx y v w vv ww h1 h2=>ih B.in1 x y v w vv ww (by show B.units+1+n < cLine;grobner) h1 0#0 h2) (by unfold zE at hx;grobner) (by unfold zE at hy;grobner));rw[zfK (by rw[r.len,r3.length];simp) (by rw[r2.len,r4.length];simp)]at hh;unfold yB;exact xz hab hh
  ·cases rx with | lst t z r=>cases ry with | lst t2 z2 r2=>
    rename_i a vs b ws;cases rv;cases rw;by_cases hab:a=b
    ·subst hab
     have e:=RV.inj I (.lst t z r) (.lst t2 z2 r2) 0#0 hy;rw[e,mB _ hy];exact vd _
    ·obtain⟨zf,r3,p,_⟩:=I.list t.sq
     obtain⟨zx,r4,p2,_⟩:=I.list t2.sq;have l1:xs.length=zf.toArray.size:=by rw[r.len,r3.length];simp
     have l2:ys.length=zx.toArray.size:=by rw[r2.len,r4.length];simp
     unfold yB;refine xz hab ?_;by_cases hl:zf.toArray.size=zx.toArray.size
     ·have hh:=SeqAt.RcAt.lists (A:=B) p.isList p2.isList hl 0#0 (mF r r2 r3 r4 (λx y v w vv ww h1 h2=>ih B.in1 x y v w vv ww (by show B.units+1+n < cLine;grobner) h1 0#0 h2) (by unfold zE at hx;grobner) (by unfold zE at hy;grobner))
      rw[zfL l1 l2 hl]at hh;exact hh
     ·rw[aJ 0#0]
      exact uw p.isList p2.isList (by simpa using hl) 0#0
def fX:R3:=λx y st Q=>(zE x<=50/\zE y < 1000)/\Q (.bl (yB x y)) st
def zfA:R3:=λx y st Q=>(zE x<=50/\zE y < 1000)/\Q (.bl (!yB x y)) st
theorem kZ {x:PV}(h:zE x < 1000):yU x=true:=by
 cases x <;> first | rfl | (unfold zE at h;grobner)
theorem yV {k:Nat}(hr:zI k X.A):yJ X (compareOp .Eq) (xV X.K fX):=uJ λzc s σ H A st x y v w vv ww Q3 Q I rs ex ey rv rw h k=>by
 obtain⟨⟨h1,h2⟩,h⟩:=h;have hu:=hr.units;have rx:=ex.rv (kZ 0#0);have ry:=ey.rv (kZ h2);have fin: ∀b,b=yB x y->EP X zc σ Q (.bool b) s:=λb e=>⟨.bl b,H,I,rfl,by rw[e];exact k.now rs 7#7 h⟩;rcases zfX x y with hn | ⟨xs,ys,rfl,rfl⟩ | ⟨xs,ys,rfl,rfl⟩
 ·exact zvS 0#0 (pU I rx rv 0#0) (pU I ry rw h2) hn _ _ _ _ (fin _ rfl)
 ·cases rx with | tup t z r=>cases ry with | tup t2 z2 r2=>
   cases rv;cases rw;obtain⟨zf,r3,p,_⟩:=I.tuple t.sq;obtain⟨zx,r4,p2,_⟩:=I.tuple t2.sq;refine SeqAt.RcAt.tuples (show s.heap.IsTuple _ zf.toArray from p) (show s.heap.IsTuple _ zx.toArray from p2) 0#0 4#2 _ _ _ _ (fin _ ?_);rw[zfK (by rw[r.len,r3.length];simp) (by rw[r2.len,r4.length];simp)];unfold yB;rfl
 ·cases rx with | lst t z r=>cases ry with | lst t2 z2 r2=>
   cases rv;cases rw;obtain⟨zf,r3,p,_⟩:=I.list t.sq;obtain⟨zx,r4,p2,_⟩:=I.list t2.sq;have l1:xs.length=zf.toArray.size:=by rw[r.len,r3.length];simp
   have l2:ys.length=zx.toArray.size:=by rw[r2.len,r4.length];simp
   by_cases hl:zf.toArray.size=zx.toArray.size
   ·refine SeqAt.RcAt.lists p.isList p2.isList hl 0#0 4#2 _ _ _ _ (fin _ ?_)
    rw[zfL l1 l2 hl];unfold yB;rfl
   ·refine uw p.isList p2.isList (by simpa using hl) 0#0 _ _ _ _ (fin _ ?_)
    unfold yB;rw[aJ 0#0]
theorem qW {k:Nat}(hr:zI k X.A):yJ X (compareOp .NotEq) (xV X.K zfA):=uJ λzc s σ H A st x y v w vv ww Q3 Q I rs ex ey rv rw h k=>by
 obtain⟨⟨h1,h2⟩,h⟩:=h;have hu:=hr.units;have rx:=ex.rv (kZ 0#0);have ry:=ey.rv (kZ h2);have fin: ∀b,b= !yB x y->EP X zc σ Q (.bool b) s:=λb e=>⟨.bl b,H,I,rfl,by rw[e];exact k.now rs 7#7 h⟩;rcases zfX x y with hn | ⟨xs,ys,rfl,rfl⟩ | ⟨xs,ys,rfl,rfl⟩
 ·exact zvU 0#0 (pU I rx rv 0#0) (pU I ry rw h2) hn _ _ _ _ (fin _ rfl)
 ·cases rx with | tup t z r=>cases ry with | tup t2 z2 r2=>
   cases rv;cases rw;obtain⟨zf,r3,p,_⟩:=I.tuple t.sq;obtain⟨zx,r4,p2,_⟩:=I.tuple t2.sq;refine(SeqAt.RcNeAt.tuples (show s.heap.IsTuple _ zf.toArray from p) (show s.heap.IsTuple _ zx.toArray from p2) 0#0 4#2) _ _ _ _ (fin _ ?_);rw[zfK (by rw[r.len,r3.length];simp) (by rw[r2.len,r4.length];simp)];unfold yB;rfl
 ·cases rx with | lst t z r=>cases ry with | lst t2 z2 r2=>
   cases rv;cases rw;obtain⟨zf,r3,p,_⟩:=I.list t.sq;obtain⟨zx,r4,p2,_⟩:=I.list t2.sq;have l1:xs.length=zf.toArray.size:=by rw[r.len,r3.length];simp
   have l2:ys.length=zx.toArray.size:=by rw[r2.len,r4.length];simp
   by_cases hl:zf.toArray.size=zx.toArray.size
   ·refine(SeqAt.RcNeAt.lists p.isList p2.isList hl 0#0 4#2) _ _ _ _ (fin _ ?_)
    rw[zfL l1 l2 hl];unfold yB;rfl
   ·refine(SeqAt.RcNeAt.lists_lengths p.isList p2.isList (by simpa using hl) 0#0) _ _ _ _ (fin _ ?_)
    unfold yB;rw[aJ 0#0];rfl
end
def zH (kvs:List 2#3)(k:z8):Option PV:=(kvs.find? λkv=>decide (kv.1=k)).map (·.2)
def xY (kvs:List 2#3)(k:z8)(v:PV):List 2#3:=
 if 4#5=true then kvs.map (λkv=>if kv.1=k then(kv.1,v)else kv)else kvs++ [(k,v)]
def vI:PV->Option z8
 | .int i=>some (.inl i)
 | .str x=>some (.inr x)
 | _=>none
section
variable {K:Frag} {A:List ac} {H:Hp}
theorem RKs.val {k:z8} : ∀{kvs:List 2#3} {us:List (z8×V)},RKs K A H kvs us->(∃x v,zH kvs k=some x/\vF us k=some v/\RV K A H x v)∨(zH kvs k=none/\vF us k=none)
 | _,_,.nil=> .inr ⟨rfl,rfl⟩
 | _,_,.cons (k:=k') (x:=x) (v:=v) (xs:=xs) (vs:=vs) r t=>by
  by_cases e:k'=k
  ·refine .inl ⟨x,v,?_,?_,r⟩
   ·unfold zH;rw[db,decide_eq_true e];rfl
   ·exact iC e
  ·have e1:zH ((k',x)::xs) k=zH xs k:=by unfold zH;rw[db,decide_eq_false e]
   have e2:vF ((k',v)::vs) k=vF vs k:=iB e;rw[e1,e2];exact RKs.val t
theorem RKs.any {k:z8} : ∀{kvs:List 2#3} {us:List (z8×V)},RKs K A H kvs us->(us.any λkv=>decide (kv.1=k))=4#5
 | _,_,.nil=>rfl
 | _,_,.cons r t=>by rw[ji,ji,RKs.any t]
theorem RKs.map {k:z8}{x:PV}{v:V}(r:RV K A H x v): ∀{kvs:List 2#3} {us:List (z8×V)},RKs K A H kvs us->RKs K A H (kvs.map λkv=>if kv.1=k then(kv.1,x)else kv) (us.map λkv=>if kv.1=k then(kv.1,v)else kv)
 | _,_,.nil=> .nil
 | _,_,.cons (k:=k') r' t=>by
  rw[av,av];by_cases e:k'=k
  ·rw[if_pos e,if_pos e];exact .cons r (RKs.map r t)
  ·rw[if_neg e,if_neg e];exact .cons r' (RKs.map r t)
theorem RKs.append: ∀{a b:List 2#3} {c d:List (z8×V)},RKs K A H a c->RKs K A H b d->RKs K A H (a++b) (c++d)
 | _,_,_,_,.nil,h=>h
 | _,_,_,_,.cons r t,h=> .cons r (RKs.append t h)
theorem RKs.put {k:z8}{x:PV}{v:V}(r:RV K A H x v){kvs:List 2#3}{us:List (z8×V)}(h:RKs K A H kvs us):RKs K A H (xY kvs k x) (wU us k v):=by
 unfold xY wU;rw[h.any]
 split
 ·exact h.map r
 ·exact h.append (.cons r .nil)
theorem sX {y:PV}{w:V}{k:z8}(e:RE K A H y w)(h:vI y=some k):w=kV k:=by
 cases e with
 | obj e=>cases h
 | val e=>cases e <;> first | cases h;rfl | cases h
end
section
variable {X:Cx} {a b e:Expr} {es:List Expr} {pos p2:fe} {Ta Tb:zC} {TA:yK}
def r6:R3:=λx y st Q=>match x with
 | .tup xs=>match y with | .int i=>(match atI xs i with | some z=>Q z st | none=>False) | _=>False
 | .lst xs=>match y with | .int i=>(match atI xs i with | some z=>Q z st | none=>False) | _=>False
 | .str z=>match y with | .int i=>z.length<=ak/\(match atI z.cps.toList i with | some c=>Q (.str ⟨#[c]⟩) st | none=>False) | _=>False
 | .dct kvs=>(match vI y with | some k=>(match zH kvs k with | some z=>Q z st | none=>False) | none=>False)
 | .obj n=>(match st[n]? with
  | some 9#3=>(match y with | .int i=>(match atI xs i with | some z=>Q z st | none=>False) | _=>False)
  | some 2#4=>(match vI y with | some k=>(match zH kvs k with | some z=>Q z st | none=>False) | none=>False)
  | _=>False)
 | _=>False
theorem RVs.atI {K:Frag}{A:List ac}{H:Hp}{xs:List PV}{vs:List V}{i:Int}{x:PV}(r:RVs K A H xs vs)(h:L2.atI xs i=some x): ∃v,L2.atI vs i=some v/\RV K A H x v:=by
 unfold L2.atI at h⊢
 rw[<- r.len];cases e:wS xs.length i with
 | none=>rw[e]at h;cases h
 | some j=>rw[e]at h;exact r.get h
theorem zeR {k:Nat}(hr:zI k X.A):qH X (λx y H Q=> ∃a v,x= .ref a/\lR H a y (some v)/\Q v H):=by
 intro value slice zc s σ H x y vv ww Q I rx ry h hs;obtain⟨a,v,rfl,g,q⟩:=h;cases rx;have hT:=zqI I g;unfold subscriptTail;refine ad ?_;rw[wa hT.not_modules];refine ad (ja hT ue.lookup ?_);have fin:ay 1#2 X.A (subscripted slice false 8#9 ww) (λr s₃=>ay 1#2 X.A (letTemporaryGo value 8#9 r >>= λ_=>pure r) 7#4 X.xe s₃) X.xe s:=by
  rw[hs];exact wpAny_operating (zqB (by have:=hr.units;grobner) I g ry λw' s3 I3 rw'=>ad (wz (az ⟨v,H,I3,rw',q⟩)))
 first
  | exact az (ad fin)
  | exact ad (az (ad fin))
  | exact ad fin
theorem zti {k:Nat}(hr:zI k X.A):qH X (xV X.K r6):=by
 intro value slice zc s σ H v w vv ww Q I rv rw ⟨A,st,x,y,Q3,rs,ex,ey,h,k⟩ hs;unfold r6 at h
 split at h
 ·-- tuples
  cases ex with | val ex=>cases ex with | tup t z r=>
   split at h
   ·cases xO ey
    split at h
    ·rename_i i q z' e
     obtain⟨v',e',r'⟩:=r.atI e;exact zrM value slice zc s σ H _ _ vv ww Q I rv rw ⟨_,_,_,_,rfl,rfl,t.sq,e',k.now rs (.val r') h⟩ hs
    ·exact h.elim
   ·exact h.elim
 ·cases ex with | val ex=>cases ex with | lst t z r=>
   split at h
   ·cases xO ey
    split at h
    ·rename_i i q z' e
     obtain⟨v',e',r'⟩:=r.atI e;exact zlO value slice zc s σ H _ _ vv ww Q I rv rw ⟨_,_,_,_,rfl,rfl,t.sq,e',k.now rs (.val r') h⟩ hs
    ·exact h.elim
   ·exact h.elim
 ·cases rD ex
  split at h
  ·cases xO ey
   obtain⟨hz,h⟩:=h
   split at h
   ·rename_i i q c e
    exact zrL value slice zc s σ H _ _ vv ww Q I rv rw ⟨_,_,_,rfl,rfl,hz,e,k.now rs (.val (.str _)) h⟩ hs
   ·exact h.elim
  ·exact h.elim
 ·cases ex with | val ex=>cases ex with | dct t z r=>
   split at h
   ·rename_i kk ek
    split at h
    ·rename_i z' e
     rcases r.val (k:=kk)with⟨x',v',e1,e2,r'⟩ | ⟨e1,e2⟩
     ·rw[e]at e1;cases e1
      exact zeR hr value slice zc s σ H _ _ vv ww Q I rv rw ⟨_,v',rfl,.inl ⟨_,kk,.inl t.1,sX ey ek,e2.symm⟩,k.now rs (.val r') h⟩ hs
     ·rw[e]at e1;cases e1
    ·exact h.elim
   ·exact h.elim
 ·cases ex with
  | val ex=>cases ex
  | obj eo=>
   split at h
   ·rename_i n xs q
    obtain⟨vs,h1,r,hzz⟩:=rs.at_ _ _ _ eo q
    split at h
    ·cases xO ey
     split at h
     ·rename_i i q z' e
      obtain⟨v',e',r'⟩:=r.atI e;exact zlO value slice zc s σ H _ _ vv ww Q I rv rw ⟨_,_,_,_,rfl,rfl,.of h1,e',k.now rs (.val r') h⟩ hs
     ·exact h.elim
    ·exact h.elim
   ·rename_i n kvs q
    obtain⟨us,h1,r,hzz⟩:=rs.at_ _ _ _ eo q
    split at h
    ·rename_i kk ek
     split at h
     ·rename_i z' e
      rcases r.val (k:=kk)with⟨x',v',e1,e2,r'⟩ | ⟨e1,e2⟩
      ·rw[e]at e1;cases e1
       exact zeR hr value slice zc s σ H _ _ vv ww Q I rv rw ⟨_,v',rfl,.inl ⟨_,kk,.inl h1,sX ey ek,e2.symm⟩,k.now rs (.val r') h⟩ hs
      ·rw[e]at e1;cases e1
     ·exact h.elim
    ·exact h.elim
   ·exact h.elim
 ·exact h.elim
def jC:PV->PV->PV->z5->(z5->Prop)->Prop:=λo i v st Q=>match o with
 | .obj n=>(match st[n]? with
  | some 9#3=>(match i with | .int k=>yU v=true/\(match wS xs.length k with | some j=>Q (st.set n (.lst (xs.set j v))) | none=>False) | _=>False)
  | some 2#4=>(match vI i with | some k=>yU v=true/\kvs.length < ak/\Q (st.set n (.dct (xY kvs k v))) | none=>False)
  | _=>False)
 | _=>False
def zqz (K:Frag):V->V->V->Hp->(Hp->Prop)->Prop:=λo i v H Q=> ∃A st x y z Q3,RS K A H st/\RE K A H x o/\RE K A H y i/\RE K A H z v/\jC x y z st Q3/\∀A' H' zl,zU A H A' H'->RS K A' H' zl->Q3 zl->Q H'
theorem RVs.set {K:Frag}{A:List ac}{H:Hp}{x:PV}{v:V}(rx:RV K A H x v): ∀{xs:List PV} {vs:List V} (j:Nat),RVs K A H xs vs->RVs K A H (xs.set j x) (vs.set j v)
 | _,_,_,.nil=> .nil
 | _,_,0,.cons _ t=> .cons rx t
 | _,_,j+1,.cons r t=> .cons r (RVs.set rx j t)
theorem zwf {k:Nat}(hr:zI k X.A):iT X (zqz X.K):=by
 intro zc s σ H o i v ov iv u Q I ro ri rv ⟨A,st,x,y,z,Q3,rs,ex,ey,ez,h,k⟩;unfold jC at h
 split at h
 ·cases ex with
  | val ex=>cases ex
  | obj eo=>
   have hm:=dh eo
   split at h
   ·rename_i n xs q
    obtain⟨vs,h1,r,hzz⟩:=rs.at_ _ _ _ eo q
    split at h
    ·cases xO ey
     obtain⟨hz,h⟩:=h
     split at h
     ·rename_i kk q2 j e
      rw[r.len]at e;exact zws zc s σ H _ _ _ ov iv u Q I ro ri rv ⟨_,vs,_,j,rfl,rfl,h1,e,k A _ _ 9#10 (rs.put (q:= .lst (xs.set j z)) eo ⟨_,yM,RVs.set ((ez.rv hz).grow 9#10) j (r.grow 9#10),by rw[dq];exact hzz⟩) h⟩
     ·exact h.elim
    ·exact h.elim
   ·rename_i n kvs q
    obtain⟨us,h1,r,hzz⟩:=rs.at_ _ _ _ eo q
    split at h
    ·rename_i kk ek
     obtain⟨hz,hl,h⟩:=h;cases ro;refine zhT (by have:=hr.units;grobner) I (.inl ⟨us,kk,h1,sX ey ek,by rw[<- r.len];exact hl,rfl⟩) ri rv λs' I'=>⟨_,I',k A _ _ 9#10 (rs.put (q:= .dct (xY kvs kk z)) eo ⟨_,yM,RKs.put ((ez.rv hz).grow 9#10) (r.grow 9#10),bh (gZ us kk v) (by rw[<- r.len];exact hl)⟩) h⟩
    ·exact h.elim
   ·exact h.elim
 ·exact h.elim
def gS (To Ti:zC):w4:=λv env st Q=>To env st λo zd=>Ti env zd λi zi=>jC o i v zi λAb=>Q env Ab
theorem sZ {k:Nat}(hr:zI k X.A)(ho:PE X a 9#4)(hi:PE X b (zK X.K Tb))
  (ha: ∀v,assign (.Subscript a b pos) X.env v=(do
   let ov <- holding [v] (eval a X.env)
   let iv <- holding [v,ov] (eval b X.env)
   standAt pos
   holding [v,ov,iv] (setItem ov iv v)
   release [v,ov,iv] []):=by intro _;rfl):PG X (.Subscript a b pos) (u5 X.K (gS Ta Tb)):=
 zfv (zfu ho hi (zwf hr) ha) λv σ H Q ⟨A,env,st,x,Q3,zg,e,h,k⟩=>⟨A,env,st,_,zg,h,λA1 H1 zd o v1 g1 s1 e1 h1=>⟨A1,env,zd,_,zg.grow g1 s1,h1,λA2 H2 zi i v2 g2 s2 e2 h2=>
  ⟨A2,zi,o,i,x,_,s2,e1.grow g2,e2,e.grow (g1.trans g2),h2,λA3 H3 Ab g3 s3 h3=>k A3 H3 σ env Ab ((g1.trans g2).trans g3) (zg.grow ((g1.trans g2).trans g3) s3) h3⟩⟩⟩
theorem yT.one {K:Frag}{A:List ac}{H:Hp}{x:PV}{vs:List V}(h:yT K A H [x] vs): ∃v,vs= [v]/\RE K A H x v:=by
 cases h with
 | cons r t=>cases t;exact⟨_,rfl,r⟩
theorem yT.two {K:Frag}{A:List ac}{H:Hp}{x y:PV}{vs:List V}(h:yT K A H [x,y] vs): ∃v w,vs= [v,w]/\RE K A H x v/\RE K A H y w:=by
 cases h with
 | cons r t=>obtain⟨w,rfl,e⟩:=yT.one t;exact⟨_,w,rfl,r,e⟩
def oP:PV->z5->(Nat->Prop)->Prop
 | .tup xs,_,k=>k xs.length
 | .lst xs,_,k=>k xs.length
 | .dct xs,_,k=>False
 | .str z,_,k=>z.length<=ak/\k z.length
 | .obj i,st,k=>match st[i]? with | some 9#3=>k xs.length | some 2#4=>k kvs.length | _=>False
 | _,_,_=>False
def eI:zP:=λxs st Q=>match xs with | [x]=>oP x st λn=>Q (.int n) st | _=>False
theorem wL:wA X (.builtin "len") (sP X.K eI):=by
 intro zc s σ H vs us Q I rv ⟨A,st,xs,Q3,rs,ex,h,k⟩;unfold eI at h
 split at h
 ·rename_i x
  obtain⟨v,rfl,ex1⟩:=yT.one ex;have fin: ∀{n:Nat},Q3 (.int n) st->Q (.int n) H:=λq=>k.now rs 1#13 q;cases ex1 with
  | obj eo=>
   dsimp only[oP]at h
   split at h
   ·rename_i q
    obtain⟨vs,h1,r,hzz⟩:=rs.at_ _ _ _ eo q;exact hZ zc s σ H _ us Q I rv ⟨_,_,rfl,.inl ⟨_,.of h1,rfl⟩,by rw[<- r.len];exact fin h⟩
   ·rename_i q
    obtain⟨vs,h1,r,hzz⟩:=rs.at_ _ _ _ eo q;exact zqu zc s σ H _ us Q I rv ⟨_,_,rfl,h1,by rw[<- r.len];exact fin h⟩
   ·exact h.elim
  | val e=>
   cases e with
   | str z=>exact hZ zc s σ H _ us Q I rv ⟨_,_,rfl,⟨h.1,rfl⟩,fin h.2⟩
   | tup t z r=>exact hZ zc s σ H _ us Q I rv ⟨_,_,rfl,.inr ⟨_,t.sq,rfl⟩,by rw[<- r.len];exact fin h⟩
   | lst t z r=>exact hZ zc s σ H _ us Q I rv ⟨_,_,rfl,.inl ⟨_,t.sq,rfl⟩,by rw[<- r.len];exact fin h⟩
   | _=>exact False.elim h
 ·exact h.elim
def zfJ:zP:=λxs st Q=>match xs with
 | [.lst ys]=>Q 4#14 st
 | [.tup ys]=>Q 4#14 st
 | [.obj i]=>(match st[i]? with | some 0#17=>Q 4#14 st | some 2#4=>Q 9#8 st | _=>False)
 | _=>False
def jD:zP:=λxs st Q=>match xs with
 | [.lst ys]=>Q 4#14 st
 | [.tup ys]=>Q 4#14 st
 | [.obj i]=>(match st[i]? with | some 0#17=>Q 4#14 st | _=>False)
 | _=>False
theorem qY:wA X (.type 18#1) (sP X.K jD):=by
 intro zc s σ H vs us Q I rv ⟨A,st,xs,Q3,rs,ex,h,k⟩;unfold jD at h
 split at h
 ·cases ex with | cons ex et=>cases et;cases ex with | val e=>cases e with | lst t z r=>
   exact a8 zc s σ H _ us Q I rv ⟨_,_,rfl,.inl ⟨t.sq,k.tup rs r z h⟩⟩
 ·cases ex with | cons ex et=>cases et;cases ex with | val e=>cases e with | tup t z r=>
   exact a8 zc s σ H _ us Q I rv ⟨_,_,rfl,.inr ⟨t.sq,k.now rs (.val (.tup t z r)) h⟩⟩
 ·cases ex with | cons ex et=>cases et;cases ex with
  | val e=>cases e
  | obj eo=>
   split at h
   ·rename_i q
    obtain⟨vs,h1,r,hz⟩:=rs.at_ _ _ _ eo q;exact a8 zc s σ H _ us Q I rv ⟨_,_,rfl,.inl ⟨.of h1,k.tup rs r hz h⟩⟩
   ·exact h.elim
 ·exact h.elim
def xW (xs:List PV)(lo hi:Option Int):List PV:=(xs.drop (HT.sIx xs.length 0 lo)).take 5#7
def oW:PV->Option Int->Option Int->z5->K3->Prop:=λx lo hi st Q=>match x with
 | .tup xs=>Q (.tup (xW xs lo hi)) st
 | .lst xs=>Q (.lst (xW xs lo hi)) st
 | .str z=>z.length<=ak/\((Txt.slice z lo hi).length<=z.length->Q (.str (Txt.slice z lo hi)) st)
 | _=>False
def zq0 (K:Frag):V->Option Int->Option Int->Hp->VK->Prop:=λv lo hi H Q=> ∃A st x Q3,RS K A H st/\RE K A H x v/\oW x lo hi st Q3/\xR K A H Q3 Q
theorem RVs.cut {K:Frag}{A:List ac}{H:Hp}{xs:List PV}{vs:List V}(r:RVs K A H xs vs)(lo hi:Option Int):RVs K A H (xW xs lo hi) (pN vs lo hi):=by
 unfold xW pN;rw[r.len];exact(r.drop _).take _
theorem zto:kA X (zq0 X.K):=by
 intro zc s σ H v vv vl vu lo hi sl Q I rx hs pl pu ⟨A,st,x,Q3,rs,ex,h,k⟩;unfold oW at h
 split at h
 ·cases ex with | val e=>cases e with | tup t z r=>
   rename_i xs a vs;by_cases hw:HT.sIx vs.length 0 lo=0/\HT.sIx vs.length vs.length hi=vs.length
   ·cases rx
    obtain⟨zf,r',ht,hz⟩:=I.tuple t.sq;refine⟨18#1,_,gy.lookup,ht.typeIs,?_⟩;have hl:zf.toArray.size=vs.length:=by rw[bq,<- r'.length]
    refine zrx ht hs pl pu (by rw[hl];exact hw) ⟨.ref a,H,I,rfl,k.now rs (.val (.tup t z r)) ?_⟩;rw[<- r.len]at hw;have e:xW xs lo hi=xs:=by
     unfold xW;rw[hw.1,hw.2,yy,Nat.sub_zero,ck (ar _)]
    rw[e]at h;exact h
   ·refine zwy zc s σ H _ vv vl vu lo hi sl Q I rx hs pl pu ⟨_,_,rfl,t.sq,?_,k.tup rs (r.cut lo hi) (bh (gG _ lo hi) z) h⟩
    exact hw
 ·cases ex with | val e=>cases e with | lst t z r=>
   exact zww zc s σ H _ vv vl vu lo hi sl Q I rx hs pl pu ⟨_,_,rfl,t.sq,k.lst rs (r.cut lo hi) (bh (gG _ lo hi) z) h⟩
 ·cases rD ex
  exact zwx zc s σ H _ vv vl vu lo hi sl Q I rx hs pl pu ⟨_,rfl,h.1,λhl=>k.now rs (.val (.str _)) (h.2 hl)⟩
 ·exact h.elim
abbrev qI:=zF->z5->(Option Int->z5->Prop)->Prop
def kI (K:Frag)(T:qI):TO:=λσ H Q=> ∃A env st Q3,yY K A H σ env st/\T env st Q3/\∀A' H' zl i,zU A H A' H'->RS K A' H' zl->Q3 i zl->Q i H'
def zm1:qI:=λ_ st Q=>Q none st
def zm2 (T:zC):qI:=λenv st Q=>T env st λx zd=>match x with | .int i=>Q (some i) zd | _=>False
theorem zmY {o:Option Expr}{t t':TO}(h:L2.PO X o t)(w: ∀σ H Q,t' σ H Q->t σ H Q):L2.PO X o t':=⟨λzc s σ H Q I q=>h zc s σ H Q I (w σ H Q q)⟩
theorem vK:L2.PO X none (kI X.K zm1):=zmY zuL λσ H Q ⟨A,env,st,Q3,zg,h,k⟩=>k A H st none (.refl _ _) zg.rs h
theorem wM (h:PE X e 9#4):L2.PO X (some e) (kI X.K (zm2 Ta)):=by
 refine zmY (zuM h) λσ H Q ⟨A,env,st,Q3,zg,h,k⟩=>⟨A,env,st,_,zg,h,λA1 H1 zd x v g1 s1 e1 h1=> ?_⟩;cases x with
 | int i=>cases xO e1;exact⟨i,rfl,k A1 H1 zd _ g1 s1 h1⟩
 | _=>exact False.elim h1
def vSl (T:zC)(Tl Th:qI):zC:=λenv st Q=>T env st λx zd=>Tl env zd λl zi=>Th env zi λu Ab=>oW x l u Ab Q
theorem vB {lo hi:Option Expr}{Tl Th:qI}(he:PE X e 9#4)(hl:L2.PO X lo (kI X.K Tl))(hu:L2.PO X hi (kI X.K Th)):PE X (.Subscript e (.Slice lo hi none p2) pos) (zK X.K (vSl Ta Tl Th)):=
 xP (zu3 zto he hl hu) λσ H Q ⟨A,env,st,Q3,zg,h,k⟩=>⟨A,env,st,_,zg,h,λA1 H1 zd x v g1 s1 e1 h1=>⟨A1,env,zd,_,zg.grow g1 s1,h1,λA2 H2 zi l g2 s2 h2=>⟨A2,env,zi,_,(zg.grow g1 s1).grow g2 s2,h2,λA3 H3 Ab u g3 s3 h3=>
  ⟨A3,Ab,x,Q3,s3,e1.grow (g2.trans g3),h3,k.after (g1.trans (g2.trans g3))⟩⟩⟩⟩
end
section
variable {X:Cx} {tg zo a b e:Expr} {es:List Expr} {pos p:fe} {Ta:zC} {TA:yK}
def zr6 (K:Frag)(tl:TE):TI:=λσ H R=>tl σ H λx H1=>(∃a,x= .ref a/\(∃xs,x8 K H1 a xs)/\R (iP K a) H1)∨(∃a,x= .ref a/\(∃xs,xT K H1 a xs)/\R (bD K a) H1)∨∃z,x= .str z/\R (iQ z) H1
theorem zuD {tl:TE}(hl:PE X zo tl):PI X tg zo (zr6 X.K tl):=by
 refine⟨λzc s σ H R I h=> ?_⟩;refine zL (hl zc s σ H _ I h) λv s1 ⟨x,H1,I1,r1,q1⟩=> ?_;rcases q1 with⟨a,rfl,⟨xs,hq⟩,q⟩ | ⟨a,rfl,⟨xs,hq⟩,q⟩ | ⟨x,rfl,q⟩
 ·cases r1
  obtain⟨zf,rv,p,hz⟩:=I1.list hq;refine wpAny_pyIter_list p.isList ?_;refine⟨s1.heap.objs.size,[s1.heap.objs.size],_,_,H1,rfl,I1.kept (t':=s1.toks) λb o e=>ap _ e,zx4 a _,⟨_,cm _ rfl,rfl,rfl⟩,λb hb=> ?_,q⟩;have e:b=s1.heap.objs.size:=by simpa using hb
  subst e;exact I1.fpOk (ar _) (I1.hok.fresh (ar _))
 ·cases r1
  obtain⟨zf,rv,p,hz⟩:=I1.tuple hq;refine wpAny_pyIter_tuple (show s1.heap.IsTuple a zf.toArray from p) ?_;refine⟨s1.heap.objs.size,[s1.heap.objs.size],_,_,H1,rfl,I1.kept (t':=s1.toks) λb o e=>ap _ e,zx6 a _,⟨_,cm _ rfl,rfl,rfl⟩,λb hb=> ?_,q⟩;have e:b=s1.heap.objs.size:=by simpa using hb
  subst e;exact I1.fpOk (ar _) (I1.hok.fresh (ar _))
 ·obtain⟨t,rfl⟩:=r1
  have fin: ∀(n:String) (o:af),nQ X.prog X.w X.K tg (iQ x) [s1.heap.objs.size] s1.heap.objs.size (λi h=>h.IsStrIter s1.heap.objs.size n x t i)->(s1.heap.push o).IsStrIter s1.heap.objs.size n x t 0->iS X zc σ tg R (.ref s1.heap.objs.size) {s1 with heap:=s1.heap.push o} :=λn o T st=>
   ⟨s1.heap.objs.size,[s1.heap.objs.size],_,_,H1,rfl,I1.kept (t':=s1.toks) λb u e=>ap _ e,T,st,λb hb=>by
    have e:b=s1.heap.objs.size:=by simpa using hb
    subst e;exact I1.fpOk (ar _) (I1.hok.fresh (ar _)),q⟩
  cases ha:x.cps.all (· < 128)
  ·exact wpAny_pyIter_wide ha (fin "str_iterator" _ (zov _ x t 2#0 (λA hA=>Walks.strWide hA _ x t) λ_ _ _ _ _ st hQ=>wpAny_pyIter_striter_wide st hQ) ⟨_,cm _ rfl,rfl,rfl⟩)
  ·exact wpAny_pyIter_ascii ha (fin "str_ascii_iterator" _ (zov _ x t 2#0 (λA hA=>Walks.strAscii hA _ x t) λ_ _ _ _ _ st hQ=>wpAny_pyIter_striter_ascii st hQ) ⟨_,cm _ rfl,rfl,rfl⟩)
def o6 (z:Str):List PV:=z.cps.toList.map λc=> .str ⟨#[c]⟩
theorem zrG {K:Frag}{A:List ac}{H:Hp}{z:Str}(hz:z.length<=ak):oB K A H none (iQ z) (o6 z) where
 go:=λi A' H' st g s _ hi=>by
  unfold o6 at hi;have hi':i < z.cps.size:=by simpa using hi
  exact hi'
 yld:=λi x A' H' st v H2 hx g s _ y=>by
  obtain⟨rfl,c,hc,rfl⟩:=y;unfold o6 at hx;rw[br]at hx;have hc':z.cps.toList[i]?=some c:=by simpa using hc
  rw[hc']at hx;cases hx;exact⟨.refl _ _,s,.val (.str _)⟩
 stop:=λA' H' st g s _=>by
  unfold o6;show _=z.cps.size;simp
 small:=by
  unfold o6;rw[ae];have:z.cps.toList.length=z.length:=by simp[Str.length]
  grobner
def zl7 (T:zC):tJ:=λenv st Q=>T env st λx zd=>match x with
 | .lst xs=>Q none xs zd
 | .tup xs=>Q none xs zd
 | .str z=>z.length<=ak/\Q none (o6 z) zd
 | .obj i=>(match zd[i]? with | some 9#3=>Q (some (i,.lst xs)) xs zd | _=>False)
 | _=>False
theorem wH (h:PE X zo 9#4):PI X tg zo (qL X.K (zl7 Ta)):=by
 refine zfx (zuD h) λσ H R ⟨A,env,st,Q3,zg,h,k⟩=>⟨A,env,st,_,zg,h,λA1 H1 zd x v g1 s1 e1 h1=> ?_⟩;cases e1 with
 | obj eo=>
  dsimp only at h1
  split at h1
  ·rename_i q
   obtain⟨vs,h2,r,hz⟩:=s1.at_ _ _ _ eo q;exact .inl ⟨_,rfl,⟨_,.of h2⟩,k A1 H1 zd _ _ _ g1 s1 (zrF eo (by rw[r.len];exact hz)) h1⟩
  ·exact h1.elim
 | val e=>
  cases e with
  | tup t z r=>exact .inr (.inl ⟨_,rfl,⟨_,t.sq⟩,k A1 H1 zd none _ _ g1 s1 (zrH t z r) h1⟩)
  | lst t z r=>exact .inl ⟨_,rfl,⟨_,t.sq⟩,k A1 H1 zd none _ _ g1 s1 (zrE t z r) h1⟩
  | str z=>exact .inr (.inr ⟨z,rfl,k A1 H1 zd none _ _ g1 s1 (zrG h1.1) h1.2⟩)
  | _=>exact False.elim h1
theorem mX (hg:Gl X 53#1)(hm:X.mg 53#1 =none)(ha:PA X [a] 1#11)(hs:starEach [a] X.env= [0#6]:=by rfl):PI X tg (.Call (.Name 53#1 p) [a] [] pos) (qL X.K (zl8 TA)):=by
 refine zfx (zuE hg hm ha hs) λσ H R ⟨A,env,st,Q3,zg,h,k⟩=>⟨A,env,st,_,zg,h,λA1 H1 zd xs vs g1 s1 e1 h1=> ?_⟩
 split at h1
 ·rename_i j
  obtain⟨v,rfl,e⟩:=yT.one e1;cases xO e;have hb:(2000000:Nat)<=ak:=by rw[di];decide
  exact⟨j,rfl,0#0,0#0,k A1 H1 zd none _ _ g1 s1 (zlJ 0#0) h1.2⟩
 ·exact h1.elim
theorem znk (hg:Gl X 53#1)(hm:X.mg 53#1 =none)(ha:PA X [a,b] 1#11)(hs:starEach [a,b] X.env= [0#6,3#11]:=by rfl)(An:starEach [b] X.env= [3#11]:=by rfl):
  PI X tg (.Call (.Name 53#1 p) [a,b] [] pos) (qL X.K (zl9 TA)):=by
 refine zfx (zuF hg hm ha hs An) λσ H R ⟨A,env,st,Q3,zg,h,k⟩=>⟨A,env,st,_,zg,h,λA1 H1 zd xs vs g1 s1 e1 h1=> ?_⟩
 split at h1
 ·rename_i i j
  obtain⟨v,v',rfl,e,e2⟩:=yT.two e1;cases xO e;cases xO e2;have hb:(2000000:Nat)<=ak:=by rw[di];decide
  exact⟨i,j,rfl,0#0,k A1 H1 zd none _ _ g1 s1 (zlJ 0#0) h1.2⟩
 ·exact h1.elim
end
def qC (N:List Str)(xs:List PV):zF:=xs.map some++List.replicate (N.length - xs.length) none
def xB (m:Nat)(Q:K3):K3:=λr st=>match r with
 | .obj i=>if i < m then Q (.obj i) (st.take m)else(match st[i]? with | some 9#3=>Q 9#3 2#11 | some (.dct xs)=>Q (.dct xs) 2#11 | some (.itb xs)=>Q (.itb xs) 2#11 | _=>False)
 | r=>Q r 2#11
section
variable {K:Frag} {A B:List ac} {H H':Hp}
theorem yY.begin {st:z5}{xs:List PV}{vs:List V}{N:List Str}(s:RS K A H st)(e:yT K A H xs vs):yY K A H (L2.start N vs) (qC N xs) st:=by
 have hl:xs.length=vs.length:=jh e;refine⟨s,by unfold L2.start qC;rw[am,am,ae,ae,jv,jv,hl],λi x h=> ?_⟩;unfold qC at h;by_cases hi:i < xs.length
 ·rw[bw (by rw[ae];exact hi),br]at h
  cases ex:xs[i]? with
  | none=>rw[ex]at h;cases h
  | some y=>
   rw[ex]at h;cases h;have hv:i < vs.length:=0#0
   refine⟨vs[i],?_,zmN e ex (bz hv)⟩;unfold L2.start;rw[bw (by rw[ae];exact hv),br,bz hv];rfl
 ·rw[ba (by rw[ae];grobner),kj]at h
  split at h <;> cases h
theorem tK.less {A A':List ac}(h: ∀b,b∈A'->b∈A){a:ac}{vs:List V}(t:tK K A H a vs):tK K A' H a vs:=t.imp (λt=>⟨t.1,λm=>t.2 (h _ m)⟩) id
theorem rJ.less {A A':List ac}(h: ∀b,b∈A'->b∈A){a:ac}{vs:List V}(t:rJ K A H a vs):rJ K A' H a vs:=t.imp (λt=>⟨t.1,λm=>t.2 (h _ m)⟩) id
mutual
theorem RV.less {A A':List ac}(h: ∀b,b∈A'->b∈A){x:PV}{v:V} :RV K A H x v->RV K A' H x v
 | .non=> .non
 | .bl b=> .bl b
 | .int i=> .int i
 | .str x=> .str x
 | .ty n=> .ty n
 | .tup t z r=> .tup (t.less h) z (RVs.less h r)
 | .lst t z r=> .lst (t.less h) z (RVs.less h r)
 | .dct t z r=> .dct ⟨t.1,λm=>t.2 (h _ m)⟩ z (RKs.less h r)
 | .itb e n=> .itb e λm=>n (h _ m)
 | .clo e=> .clo ⟨⟨e.fn.1,λm=>e.fn.2 (h _ m)⟩,⟨e.cd.1,λm=>e.cd.2 (h _ m)⟩,⟨e.cl.1,λm=>e.cl.2 (h _ m)⟩,⟨e.dt.1,λm=>e.dt.2 (h _ m)⟩⟩
theorem RVs.less {A A':List ac}(h: ∀b,b∈A'->b∈A){xs:List PV}{vs:List V} :RVs K A H xs vs->RVs K A' H xs vs
 | .nil=> .nil
 | .cons r t=> .cons (RV.less h r) (RVs.less h t)
theorem RKs.less {A A':List ac}(h: ∀b,b∈A'->b∈A){xs:List 2#3}{vs:List (z8×V)} :RKs K A H xs vs->RKs K A' H xs vs
 | .nil=> .nil
 | .cons r t=> .cons (RV.less h r) (RKs.less h t)
end
def iX (A A':List ac)(a:ac):Prop:= ∀(i j:Nat) (p:ac),A[i]?=some a->j < i->A[j]?=some p->∃i',A'[i']?=some a/\j < i'/\A'[j]?=some p
theorem RR.less {A A':List ac}(h: ∀b,b∈A'->b∈A){a:ac}(hp:iX A A' a){x:PV}{v:V}(r:RR K A H a x v):RR K A' H a x v:=by
 cases r with
 | val r=>exact .val (r.less h)
 | obj e l e'=>obtain⟨_,x,y,z⟩:=hp _ _ _ e l e';exact .obj x y z
theorem xS.less {A A':List ac}(h: ∀b,b∈A'->b∈A){a:ac}(hp:iX A A' a){xs:List 2#3}{vs:List (z8×V)} :xS K A H a xs vs->xS K A' H a xs vs
 | .nil=> .nil
 | .cons r t=> .cons ⟨r.1,r.2.less h hp⟩ (xS.less h hp t)
theorem sM.less {A A':List ac}(h: ∀b,b∈A'->b∈A){a:ac}(hp:iX A A' a){xs:List PV}{vs:List V} :sM K A H a xs vs->sM K A' H a xs vs
 | .nil=> .nil
 | .cons r t=> .cons (r.less h hp) (sM.less h hp t)
theorem OA.less {A A':List ac}(h: ∀b,b∈A'->b∈A){a:ac}{o:PO}(hp:iX A A' a)(x:OA K A H a o):OA K A' H a o:=by
 cases o with
 | lst xs=>obtain⟨vs,e,r,z⟩:=x;exact⟨vs,e,r.less h,z⟩
 | dct xs=>obtain⟨vs,e,r,z⟩:=x;exact⟨vs,e,r.less h,z⟩
 | tbl T pos q=>obtain⟨ea,ps,e,r⟩:=x;exact⟨ea,ps,e,r.imp id λ⟨c',e1,e2,e3⟩=>⟨c',e1,e2,λm=>e3 (h _ m)⟩⟩
 | itb kvs=>exact x
 | rcd xs=>obtain⟨vs,e,r,z⟩:=x;exact⟨vs,e,xS.less h hp r,z⟩
 | fd ob xs=>obtain⟨vs,e,r,z⟩:=x;exact⟨vs,e,r.less h,z⟩
 | ros xs=>obtain⟨vs,e,r,z⟩:=x;exact⟨vs,e,sM.less h hp r,z⟩
theorem mL {α:Type}{l:List α}{m:Nat} : ∀b,b∈l.take m->b∈l:=λb h=>kb h
theorem RS.take {st:z5}(s:RS K A H st)(m:Nat):RS K (A.take m) H 2#11:=by
 refine⟨List.Nodup.sublist (jk _ _) s.nd,by rw[cz,cz,s.len],λi a o h1 h2=> ?_⟩;have hi:i < m:=by
  have:=(ah.mp h1).1;rw[cz]at this;grobner
 rw[gc hi]at h1 h2;refine(s.at_ i a o h1 h2).less mL λi' j p e l e'=> ?_;have hii:i'=i:=(dg (ah.mp e).1 s.nd).mp (e.trans h1.symm);subst hii;exact⟨i',by rw[gc hi];exact e,l,by rw[gc 0#0];exact e'⟩
theorem zU.take {B':List ac}(g:zU A H B' H'){m:Nat}(h:A.length<=m):zU A H (B'.take m) H':=by
 obtain⟨⟨C,rfl,hC⟩,k,l⟩:=g;refine⟨⟨C.take (m - A.length),?_,λb hb=>hC b (kb hb)⟩,k,l⟩;rw[List.take_append,ck h]
theorem xR.exit {Q3:K3}{Q:VK}{m:Nat}(k:xR K A H Q3 Q)(hm:A.length<=m):xR K A H (xB m Q3) Q:=by
 intro A' H' zl r v g s e q;have g':=g.take hm;have s':=s.take m;cases e with
 | val e=>
  refine k _ H' _ r v g' s' (.val (e.less mL)) ?_;cases r with
  | obj i=>cases e
  | _=>exact q
 | obj eo=>
  rename_i i a;unfold xB at q;dsimp only at q;by_cases hi:i < m
  ·rw[if_pos hi]at q
   exact k _ H' _ _ _ g' s' (.obj (by rw[gc hi];exact eo)) q
  ·rw[if_neg hi]at q
   have na:a∉A'.take m:=λhm'=>by
    obtain⟨j,hj,e⟩:=qy hm';rw[cz]at hj;have e2:A'[j]?=some a:=by
     rw[<- gc (show j < m by grobner),bz (by rw[cz];grobner),e]
    have:=(dg (ah.mp e2).1 s.nd).mp (e2.trans eo.symm);grobner
   split at q
   ·rename_i xs e
    obtain⟨vs,h1,r,z⟩:=s.at_ _ _ _ eo e;exact k _ H' _ _ _ g' s' (.val (.lst (.inl ⟨.inl h1,na⟩) z (r.less mL))) q
   ·rename_i xs e
    obtain⟨vs,h1,r,z⟩:=s.at_ _ _ _ eo e;exact k _ H' _ _ _ g' s' (.val (.dct ⟨h1,na⟩ z (r.less mL))) q
   ·rename_i xs e
    exact k _ H' _ _ _ g' s' (.val (.itb (s.at_ _ _ _ eo e) na)) q
   ·exact q.elim
end
theorem x5 {P:ce}{w:ci}{K:Frag}{mg:Str->Option aa}{base:cn}{x qual:Str}{st:cu}{f:ac}{fd:bu}{N ps:List Str}{k:Nat}{S:zP}(keep:Nat)(F:yA K x qual st f fd)(sc:yL N ps (zQ st))(len: ∀xs st Q,S xs st Q->xs.length=ps.length)
  (hB: ∃T:yS,(∀(zr:aa) (A:cw) (outer:List ly) (s:ai) (H:Hp) (E:XK),zI k 8#12->xC (vY zY P w K mg base N qual (zQ st) f zr A outer s H E).nox (sR st) (yZ K T))/\
   ∀xs sto Q,S xs sto Q->T {nx:=λ_ s'=>xB (sto.length+keep) Q .non s',rt:=xB (sto.length+keep) Q} (qC N xs) sto):zM P w K mg base zY (k+1) f fd ps (zX K S):=by
 obtain⟨T,hT,hb⟩:=hB;refine F.ok sc (λvs H Q E h=> ?_) (λzr A outer s H vs Q E hr h=>⟨_,hT zr A outer s H E hr,?_⟩)
 ·obtain⟨A,sto,xs,Q3,rs,ex,hS,_⟩:=h
  rw[<- len xs sto Q3 hS];exact(jh ex).symm
 ·obtain⟨A,sto,xs,Q3,rs,ex,hS,k⟩:=h
  have hm:A.length<=sto.length+keep:=by rw[rs.len];grobner
  refine⟨A,qC N xs,sto,_,yY.begin rs ex,hb xs sto Q3 hS,⟨λA' H' σ' zq zl g r q=> ?_,k.exit hm,λA' H' σ' zq zl g r q=>q.elim,λA' H' σ' zq zl g r q=>q.elim⟩⟩;exact k.exit hm A' H' zl .non .non g r.rs (.val .non) q
section
variable {X:Cx} {scope:ll} {N' own:List Str} {Ti:tJ} {Tg:w4} {tt:xE} {te:zC}
theorem zf2 {Aw zh zo:Expr}{Ak:List Expr}{pos spos pos':fe}{i0:Nat}{x:Str}(S:rH X scope N' own)(hN:X.N.Nodup)(hi0:X.N[i0]?=some x)(hx:tW X.env.scope x)(hc:X.calm=true)(hi:PI X zh zo (qL X.K Ti))
  (hg: ∀C s H fp zc,PG 7#2 zh (u5 X.K Tg)) (ht: ∀C s H fp zc,PF 7#2 Ak (x9 X.K tt)) (he: ∀C s H fp zc,PE 7#2 Aw (zK X.K te))
  (hs: ∀x,foldedSetIterable zo X.env x=pure x:=by intro _;rfl) (AF:swapsWith 8#2 4#12 spos.line X.env=pure true:=by rfl)
  (hf:X.fn x=true∨X.env.scope.names.lookup x=some .local:=by first | exact .inl rfl | exact .inr rfl | assumption):
  PS X (.Assign [.Name x pos'] 8#2 spos) (yZ X.K (nH (cJ own.length Ti Tg tt te) (gN i0))):=by
 refine t8 (znb hN hi0 hx S hc hi hg ht he hs AF hf) λD σ H h=> ?_;obtain⟨A,env,st,Q3,zg,h,k⟩:=gB h;exact zhD ⟨A,env,st,Q3,zg,h,λA1 H1 zd r v g s e q=>gD (k A1 H1 zd r v g s e q)⟩
theorem znl {Aw zh zo:Expr}{Ak:List Expr}{pos spos pos':fe}{i0:Nat}{x:Str}(S:rH X scope N' own)(hN:X.N.Nodup)(hi0:X.N[i0]?=some x)(hx:tW X.env.scope x)(hc:X.calm=true)(hi:PI X zh zo (qL X.K Ti))
  (hg: ∀C s H fp zc,PG 7#2 zh (u5 X.K Tg)) (ht: ∀C s H fp zc,PF 7#2 Ak (x9 X.K tt)) (he: ∀C s H fp zc,PE 7#2 Aw (zK X.K te))
  (hs: ∀x,foldedSetIterable zo X.env x=pure x:=by intro _;rfl) (AF:swapsWith 8#2 4#12 spos.line X.env=pure true:=by rfl)
  (hf:X.fn x=true∨X.env.scope.names.lookup x=some .local:=by first | exact .inl rfl | exact .inr rfl | assumption):
  PS X (.Assign [.Name x pos'] 8#2 spos) (yZ X.K (nH (zg1 own.length Ti Tg tt te) (gN i0))):=by
 refine t8 (znb hN hi0 hx S hc hi hg ht he hs AF hf) λD σ H h=> ?_;obtain⟨A,env,st,Q3,zg,h,k⟩:=gB h;exact zq1 ⟨A,env,st,Q3,zg,h,λA1 H1 zd r v g s e q=>gD (k A1 H1 zd r v g s e q)⟩
end
def kR (a b c d e:Bool)(n:String):Option Bool:=if n= "int" then some a else if n= "bool" then some b else if n= "str" then some c else if n= 18#1 then some d else if n= 14#1 then some e else none
def wQ:PV->String->Option Bool
 | .bl _,n=>kR true true false false false n
 | .int _,n=>kR true false false false false n
 | .str _,n=>kR false false true false false n
 | .tup _,n=>kR false false false true false n
 | .lst _,n=>kR false false false false true n
 | _,_=>none
def zv_:zP:=λxs st Q=>match xs with | [x,.ty n]=>(match wQ x n with | some b=>Q (.bl b) st | none=>False) | _=>False
section
variable {X:Cx} {zc:List (ac×af)} {σ:St} {H:Hp} {s:ai} {A:List ac}
def fY:zP:=λxs st Q=>match xs with | [.int i]=>Q 1#6 st | [.bl b]=>Q (.int (if b then 1 else 0)) st | _=>False
theorem mS:wA X (.type "int") (sP X.K fY):=by
 intro zc s σ H vs us Q I rv ⟨A,st,xs,Q3,rs,ex,h,k⟩;unfold fY at h
 split at h
 ·obtain⟨v,rfl,ex1⟩:=yT.one ex
  cases xO ex1;exact zhA zc s σ H _ us Q I rv (.inl ⟨_,rfl,k.now rs 1#13 h⟩)
 ·obtain⟨v,rfl,ex1⟩:=yT.one ex
  cases zh5 ex1;exact zhA zc s σ H _ us Q I rv (.inr ⟨_,rfl,k.now rs 1#13 h⟩)
 ·exact h.elim
def zvI:zP:=λxs st Q=>match xs with | 8#17=>Q (.int (if j < i then j else i)) st | _=>False
def zvH:zP:=λxs st Q=>match xs with | 8#17=>Q (.int (if j > i then j else i)) st | _=>False
theorem zfP {K:Frag} : ∀{bs:List Str} {vs:List V},RVs K A H (bs.map PV.str) vs->vs=bs.map V.str
 | [],_,.nil=>rfl
 | b::bs,_,.cons r t=>by cases r;rw[zfP t];rfl
theorem znW {K:Frag} : ∀(bs:List Str),RVs K A H (bs.map PV.str) (bs.map V.str)
 | []=> .nil
 | b::bs=> .cons (.str b) (znW bs)
theorem zlD {K:Frag} : ∀(bs:List Int),RVs K A H (bs.map PV.int) (bs.map V.int)
 | []=> .nil
 | b::bs=> .cons (.int b) (zlD bs)
def rV:PV->z5->Option (List PV)
 | .lst xs,_=>some xs
 | .obj i,st=>(match st[i]? with | some 9#3=>some xs | _=>none)
 | _,_=>none
theorem f9 {st:z5}{x:PV}{v:V}{xs:List PV}(rs:RS X.K A H st)(ex:RE X.K A H x v)(h:rV x st=some xs): ∃a vs,v= .ref a/\x8 X.K H a vs/\RVs X.K A H xs vs/\vs.length<=ak:=by
 cases ex with
 | val e=>
  cases e with
  | lst t z r=>cases h;exact⟨_,_,rfl,t.sq,r,z⟩
  | _=>cases h
 | obj eo=>
  dsimp only[rV]at h
  split at h
  ·rename_i q
   cases h;obtain⟨vs,h1,r,z⟩:=rs.at_ _ _ _ eo q;exact⟨_,_,rfl,.of h1,r,z⟩
  ·cases h
def z0N:zP:=λxs st Q=>match xs with | [x]=> ∃bs:List Bool,rV x st=some (bs.map PV.bl)/\Q (.bl (bs.all id)) st | _=>False
def sA:z8->PV
 | .inl i=> .int i
 | .inr z=> .str z
def pS:PV->z5->Option (List PV)
 | .lst xs,_=>some xs
 | .tup xs,_=>some xs
 | .obj i,st=>(match st[i]? with | some 9#3=>some xs | some 2#4=>some 7#8 | _=>none)
 | .dct kvs,_=>some 7#8
 | _,_=>none
def zvF:zP:=λxs st Q=>match xs with | [x]=>(match pS x st with | some ys=>Q 0#17 st | none=>False) | _=>False
def zvG:zP:=λxs st Q=>match xs with | [x]=>(match pS x st with | some ys=>Q 5#2 (st++ [.lst ys]) | none=>False) | _=>False
def zfH:zP:=λxs st Q=>match xs with | [x]=> ∃ss:List Str,rV x st=some (ss.map PV.str)/\ss.length < 64/\∀ss',ss'.Perm ss->sortedS ss'=true->Q (.lst (ss'.map PV.str)) st | _=>False
theorem ztp:wA X (.builtin "sorted") (sP X.K zfH):=by
 intro zc s σ H vs us Q I rv ⟨A,st,xs,Q3,rs,ex,h,k⟩;unfold zfH at h
 split at h
 ·obtain⟨v,rfl,ex1⟩:=yT.one ex
  obtain⟨ss,e,hl,h⟩:=h;obtain⟨a,ws,rfl,hs,r,z⟩:=f9 rs ex1 e;cases zfP r;refine zqy zc s σ H _ us Q I rv ⟨a,ss,rfl,hs,hl,λp ss' hp h1 h2=> ?_⟩;exact k.lst rs (znW ss') (by rw[ae,h1.length_eq];exact bh (oi hl) 2#0) (h ss' h1 h2) p hp
 ·exact h.elim
def zo1:zC:=λ_ st Q=>Q 5#2 (st++ [.dct []])
theorem fS {pos:fe} :PE X (.Dict [] [] pos) (zK X.K zo1):=xP zfq λσ H Q ⟨A,env,st,Q3,zg,h,k⟩=>k.dctO zg.rs .nil (fv _) h
def q9:PV->Option 2#3
 | .tup [x,y]=>(match vI x with | some k=>some (k,y) | none=>none)
 | _=>none
def u8 (kvs more:List 2#3):List 2#3:=more.foldl (λAc kv=>xY Ac kv.1 kv.2) kvs
theorem RKs.merge {K:Frag} : ∀{b:List 2#3} {d:List (z8×V)} {a:List 2#3} {c:List (z8×V)},RKs K A H a c->RKs K A H b d->RKs K A H (u8 a b) (uH c d)
 | _,_,_,_,h,.nil=>h
 | _,_,a,c,h,.cons (k:=k) (x:=x) (v:=v) r t=>RKs.merge (a:=xY a k x) (c:=wU c k v) (RKs.put r h) t
theorem RVs.two {K:Frag}{x y:PV}{vs:List V}(h:RVs K A H [x,y] vs): ∃v w,vs= [v,w]/\RV K A H x v/\RV K A H y w:=by
 cases h with
 | cons r t=>cases t with
  | cons r2 t2=>cases t2;exact⟨_,_,rfl,r,r2⟩
theorem fI: ∀{xs:List PV} {vs:List V} {ps:List 2#3},RVs X.K A H xs vs->xs.map q9=ps.map some->∃as us,vs=as.map V.ref/\iU X.K H as us/\RKs X.K A H ps us
 | [],_,[],.nil,_=>⟨[],[],rfl,.nil,.nil⟩
 | [],_,_::_,.nil,h=>by cases h
 | _::_,_,[],.cons _ _,h=>by cases h
 | x::xs,_,p::ps,.cons r t,h=>by
  rw[av,av]at h;obtain⟨h1,h2⟩:=lq h;obtain⟨as,us,rfl,hp,hk⟩:=fI t h2;unfold q9 at h1
  split at h1
  ·rename_i k0 y0
   split at h1
   ·rename_i kk ek
    cases h1;cases r with | tup t' z' r'=>
     obtain⟨w1,w2,rfl,ra,rc⟩:=RVs.two r';have e1:=sX (.val ra) ek;subst e1;exact⟨_::as,(kk,_)::us,rfl,.cons t'.sq hp,.cons rc hk⟩
   ·cases h1
  ·cases h1
def jB:zP:=λxs st Q=>match xs with | [.tup ys]=> ∃ps,ys.map q9=ps.map some/\Q (.dct (u8 [] ps)) st | _=>False
theorem zeZ {us:List (z8×V)}{n:Nat}(h:us.length<=n):(uH [] us).length<=n:=by
 have:=mJ us [];simp only[jm,xw]at this;exact bh this h
theorem zfh (hc:X.calm=true):wA X (.type 76#1) (sP X.K jB):=by
 intro zc s σ H vs us Q I rv ⟨A,st,xs,Q3,rs,ex,h,k⟩;unfold jB at h
 split at h
 ·obtain⟨v,rfl,ex1⟩:=yT.one ex
  obtain⟨ps,e,h⟩:=h;cases ex1 with | val e1=>cases e1 with | tup t z r=>
   obtain⟨as,ks,rfl,hp,hk⟩:=fI r e;have hl:ks.length<=ak:=by rw[<- jh hp];rw[ae]at z;exact z
   exact zqq hc zc s σ H _ us Q I rv ⟨_,as,ks,rfl,t.sq,hp,k.dct rs (RKs.merge .nil hk) (zeZ hl) h⟩
 ·exact h.elim
end
def rR:PV->z5->String
 | .lst _,_=> 14#1
 | .dct _,_=> 76#1
 | .str _,_=> "str"
 | .obj i,st=>(match st[i]? with | some (.lst _)=> 14#1 | some (.dct _)=> 76#1 | _=> "")
 | _,_=> ""
def qM (K:Frag)(R:PV->zP):V->List V->Hp->VK->Prop:=λv vs H Q=> ∃A st x xs Q3,RS K A H st/\RE K A H x v/\yT K A H xs vs/\R x xs st Q3/\xR K A H Q3 Q
def vBM (T:String)(R:PV->zP)(To:zC)(TA:yK):zC:=λenv st Q=>To env st λx zd=>rR x zd=T/\TA env zd λxs zi=>R x xs zi Q
def zo0 (T:String)(R:PV->zP)(To:zC):zC:=λenv st Q=>To env st λx zd=>rR x zd=T/\R x [] zd Q
section
variable {X:Cx} {o e:Expr} {es:List Expr} {Af zv:fe} {To:zC} {TA:yK} {T id:String} {name:Str} {R:PV->zP}
theorem zoy {K:Frag}{A:List ac}{H:Hp}{st:z5}{x:PV}{v:V}(rs:RS K A H st)(ex:RE K A H x v)(h:rR x st=T)(hT:T≠ ""):cH K T v H:=by
 subst h;cases ex with
 | val e=>
  cases e with
  | lst t z r=>exact .inl ⟨rfl,_,t.sq⟩
  | dct t z r=>exact .inr (.inr (.inl ⟨rfl,.inl ⟨_,t.1⟩⟩))
  | str z=>exact rfl
  | _=>exact absurd rfl hT
 | obj eo=>
  dsimp only[rR]at hT⊢
  split
  ·rename_i q
   obtain⟨vs,h1,r,z⟩:=rs.at_ _ _ _ eo q;exact .inl ⟨rfl,_,.of h1⟩
  ·rename_i q
   obtain⟨vs,h1,r,z⟩:=rs.at_ _ _ _ eo q;exact .inr (.inr (.inl ⟨rfl,.inl ⟨_,h1⟩⟩))
  ·exfalso
   split at hT
   ·rename_i n1 n2 _ _ q;exact n1 _ q
   ·rename_i n1 n2 _ _ q;exact n2 _ q
   ·exact hT rfl
theorem vA (pa:PlainAttrs T)(slot:Slot T name id)(hty:typeOf 5#14=pure (.type "method_descriptor"))(hT:T≠ "")(hm:tX X id (qM X.K R))(ho:PE X o (zK X.K To))(ha:PA X (e::es) 1#11)
  (hbase:attributeBase o name X.env (eval o X.env)=eval o X.env:=by rfl)
  (hfew:((backTo zv (starEach (e::es) X.env)).all (λx=> !x.1)&&(backToKw zv (keywordEach [] X.env)).all (λx=>x.1.isSome)
   &&decide ((e::es).length+([]:List Keyword).length+4#17 < 30))=true:=by rfl)
  (hline:(Af.endLine==zv.line)=true:=by rfl) (hs:starEach (e::es) X.env=5#3::starEach es X.env:=by rfl) (hplain:(backTo zv 1#4).any (·.1)=false:=by rfl):
  PE X (.Call (.Attribute o name Af) (e::es) [] zv) (zK X.K (vBM T R To TA)):=
 xP (zum pa slot hty hm ho ha hbase hfew hline hs hplain) λσ H Q ⟨A,env,st,Q3,zg,h,k⟩=>⟨A,env,st,_,zg,h,λA1 H1 zd x v g1 s1 e1 h1=>⟨zoy s1 e1 h1.1 hT,A1,env,zd,_,zg.grow g1 s1,h1.2,λA2 H2 zi xs vs g2 s2 e2 h2=>
  ⟨A2,zi,x,xs,Q3,s2,e1.grow g2,e2,h2,k.after (g1.trans g2)⟩⟩⟩
theorem zvl (pa:PlainAttrs T)(slot:Slot T name id)(hty:typeOf 5#14=pure (.type "method_descriptor"))(hT:T≠ "")(hm:tX X id (qM X.K R))(ho:PE X o (zK X.K To))
  (hbase:attributeBase o name X.env (eval o X.env)=eval o X.env:=by rfl) (hline:(Af.endLine==zv.line)=true:=by rfl):PE X (.Call (.Attribute o name Af) [] [] zv) (zK X.K (zo0 T R To)):=
 xP (zun pa slot hty hm ho hbase hline) λσ H Q ⟨A,env,st,Q3,zg,h,k⟩=>⟨A,env,st,_,zg,h,λA1 H1 zd x v g1 s1 e1 h1=>⟨zoy s1 e1 h1.1 hT,A1,zd,x,[],Q3,s1,e1,.nil,h1.2,k.after g1⟩⟩
def fV:PV->zP:=λx xs st Q=>match x,xs with
 | .obj i,[y]=>(match st[i]? with | some (.lst zs)=>yU y=true/\zs.length < ak/\Q .non (st.set i (.lst (zs++ [y]))) | _=>False)
 | _,_=>False
theorem tP:tX X "list.append" (qM X.K fV):=by
 intro zc s σ H v vs vv us Q I rv rvs ⟨A,st,x,xs,Q3,rs,ex,exs,h,k⟩;unfold fV at h
 split at h
 ·rename_i i y
  obtain⟨w,rfl,ey⟩:=yT.one exs;cases ex with
  | val e=>cases e
  | obj eo=>
   have hm:=dh eo
   split at h
   ·rename_i zs q
    obtain⟨ws,h1,r,z⟩:=rs.at_ _ _ _ eo q;obtain⟨hn,hl,h⟩:=h;rw[r.len]at hl;refine zsD zc s σ H _ _ vv us Q I rv rvs ⟨_,ws,w,rfl,rfl,h1,hl,k A _ _ _ _ 9#10 (rs.put (q:= .lst (zs++ [y])) eo ⟨_,yM,(r.grow 9#10).append (.cons ((ey.rv hn).grow 9#10) .nil),?_⟩) (.val .non) h⟩;rw[am,cr];exact hl
   ·exact h.elim
 ·exact h.elim
def zf5:PV->zP:=λx xs st Q=>match x,xs with
 | .obj i,[.lst ys]=>(match st[i]? with | some (.lst zs)=>zs.length+ys.length<=ak/\Q .non (st.set i (.lst (zs++ys))) | _=>False)
 | _,_=>False
theorem zm4:tX X "list.extend" (qM X.K zf5):=by
 intro zc s σ H v vs vv us Q I rv rvs ⟨A,st,x,xs,Q3,rs,ex,exs,h,k⟩;unfold zf5 at h
 split at h
 ·rename_i i ys
  obtain⟨w,rfl,ey⟩:=yT.one exs;cases ex with
  | val e=>cases e
  | obj eo=>
   have hm:=dh eo
   split at h
   ·rename_i zs q
    obtain⟨ws,hH,r,z⟩:=rs.at_ _ _ _ eo q;obtain⟨hl,h⟩:=h;cases ey with | val ey=>cases ey with | lst t z2 r2=>
     cases rv;obtain⟨u,rfl,ru⟩:=zJ.one rvs;cases ru;obtain⟨zz,zf,n,rr,hl1,e⟩:=I.lstM hH;obtain⟨zx,n2,rr2,e2,_⟩:=I.listX t.sq;have hl2:=rr2.length;have e3:=r.len;have e4:=r2.len;have hsz:zf.toArray.size+zx.toArray.size<=ak:=by rw[bq,bq];grobner
     have hlong: ¬ (!zf.toArray.isEmpty&&Builtin.List.listTooLong (zf.toArray.size+zx.toArray.size))=true:=by
      rw[ztb hsz,yx];exact fz
     refine nu F.slot_list_extend ⟨_,e,rfl⟩ F.entry_list_extend (F.args_list_extend_2 _ _)
      (AutoSeq1.list_extend_list_list_0 _ zf.toArray n _ zx.toArray n2 hlong (by rw[bq];grobner) 0#0) ⟨e,e2,?_⟩
     refine⟨.non,_,I.lset (its':=zf++zx) hH e 3#0 (rr.append rr2) ?_,rfl,k A _ _ _ _ 9#10 (rs.put (q:= .lst (zs++ys)) eo ⟨_,yM,(r.grow 9#10).append (r2.grow 9#10),?_⟩) (.val .non) h⟩
     ·rw[am];grobner
     ·rw[am];grobner
   ·exact h.elim
 ·exact h.elim
def zfD:PV->zP:=λx xs st Q=>match x,xs with
 | .obj i,[]=>(match st[i]? with | some (.lst zs)=>(match zs.getLast? with | some y=>Q y (st.set i (.lst zs.dropLast)) | none=>False) | _=>False)
 | _,_=>False
theorem RVs.last {K:Frag}{A:List ac}{H:Hp}{xs:List PV}{vs:List V}{y:PV}(r:RVs K A H xs vs)(h:xs.getLast?=some y): ∃w,vs[vs.length - 1]?=some w/\RV K A H y w:=by
 rw[List.getLast?_eq_getElem?,r.len]at h;exact r.get h
theorem RVs.front {K:Frag}{A:List ac}{H:Hp}{xs:List PV}{vs:List V}(r:RVs K A H xs vs):RVs K A H xs.dropLast vs.dropLast:=by
 rw[wb,wb,r.len];exact r.take _
theorem ztl:tX X "list.pop" (qM X.K zfD):=by
 intro zc s σ H v vs vv us Q I rv rvs ⟨A,st,x,xs,Q3,rs,ex,exs,h,k⟩;unfold zfD at h
 split at h
 ·cases exs
  cases ex with
  | val e=>cases e
  | obj eo=>
   have hm:=dh eo
   split at h
   ·rename_i zs q
    obtain⟨ws,h1,r,z⟩:=rs.at_ _ _ _ eo q
    split at h
    ·rename_i y e
     obtain⟨w,ew,rw'⟩:=r.last e;refine zsF zc s σ H _ _ vv us Q I rv rvs ⟨_,ws,w,rfl,rfl,h1,ew,k A _ _ _ _ 9#10 (rs.put (q:= .lst zs.dropLast) eo ⟨_,yM,(r.front).grow 9#10,?_⟩) (.val (rw'.grow 9#10)) h⟩;rw[wo];grobner
    ·exact h.elim
   ·exact h.elim
 ·exact h.elim
def rN:PV->z5->Option (List 2#3)
 | .dct kvs,_=>some kvs
 | .obj i,st=>(match st[i]? with | some 2#4=>some kvs | _=>none)
 | _,_=>none
theorem zhU {K:Frag}{A:List ac}{H:Hp}{st:z5}{x:PV}{v:V}{kvs:List 2#3}(rs:RS K A H st)(ex:RE K A H x v)(h:rN x st=some kvs): ∃a us,v= .ref a/\H a=some (.dK us)/\RKs K A H kvs us/\us.length<=ak:=by
 cases ex with
 | val e=>
  cases e with
  | dct t z r=>cases h;exact⟨_,_,rfl,t.1,r,z⟩
  | _=>cases h
 | obj eo=>
  dsimp only[rN]at h
  split at h
  ·rename_i q
   cases h;obtain⟨vs,h1,r,z⟩:=rs.at_ _ _ _ eo q;exact⟨_,_,rfl,h1,r,z⟩
  ·cases h
def z0O:PV->zP:=λx xs st Q=>match rN x st,xs with
 | some kvs,[y]=>(match vI y with | some k=>Q ((zH kvs k).getD .non) st | none=>False)
 | some kvs,[y,z]=>(match vI y with | some k=>yU z=true/\Q ((zH kvs k).getD z) st | none=>False)
 | _,_=>False
def zf8:PV->zP:=λx xs st Q=>match x,xs with
 | .str sep,[y]=> ∃ss:List Str,rV y st=some (ss.map PV.str)/\(ss.map (·.length)).sum+ss.length * sep.length<=16777216/\Q (.str (Txt.join sep ss)) st
 | _,_=>False
theorem ztj:tX X "str.join" (qM X.K zf8):=by
 intro zc s σ H v vs vv us Q I rv rvs ⟨A,st,x,xs,Q3,rs,ex,exs,h,k⟩;unfold zf8 at h
 split at h
 ·obtain⟨w,rfl,ey⟩:=yT.one exs
  cases rD ex;obtain⟨ss,e,hl,h⟩:=h;obtain⟨a,ws,rfl,hs,r,z⟩:=f9 rs ey e;cases zfP r;exact zsE zc s σ H _ _ vv us Q I rv rvs ⟨_,a,ss,rfl,rfl,hs,hl,k.now rs (.val (.str _)) h⟩
 ·exact h.elim
def xM:PV->Bool
 | .non=>true
 | .bl _=>true
 | .int _=>true
 | .str _=>true
 | _=>false
def xD (x:PV)(ys:List PV):Bool:=ys.any λy=>yB y x
theorem zeA {K:Frag}{A:List ac}{H:Hp}{x:PV}{v:V}(r:RV K A H x v):rP v=xM x:=by
 cases r <;> rfl
theorem zeB {K:Frag}{A:List ac}{H:Hp} : ∀{xs:List PV} {vs:List V},RVs K A H xs vs->vs.all rP=xs.all xM
 | _,_,.nil=>rfl
 | _,_,.cons r t=>by rw[mr,mr,zeA r,zeB t]
theorem zqW {K:Frag}{A:List ac}{H:Hp}{x y:PV}{v w:V}(r:RV K A H x v)(r2:RV K A H y w)(f:xM x=true)(f2:xM y=true):rO v w=yB x y:=by
 cases r <;> first | (exact absurd f fz) | skip
 all_goals (cases r2 <;> first | (exact absurd f2 fz) | skip)
 all_goals (unfold rO yB;rfl)
theorem zeL {K:Frag}{A:List ac}{H:Hp}{x:PV}{v:V}(r:RV K A H x v)(f:xM x=true): ∀{xs:List PV} {vs:List V},RVs K A H xs vs->xs.all xM=true->pR v vs=xD x xs
 | _,_,.nil,_=>rfl
 | _,_,.cons r1 t,h=>by
  rw[mr,im]at h;have ih:=zeL r f t h.2;unfold pR xD at ih⊢
  rw[ji,ji,ih,zqW r1 r h.1 f]
def uN:PV->z5->Option (List PV)
 | .tup xs,_=>some xs
 | .lst xs,_=>some xs
 | .obj i,st=>(match st[i]? with | some 9#3=>some xs | _=>none)
 | _,_=>none
def xQ (neg:Bool):R3:=λx y st Q=>match uN y st with
 | some xs=>(xM x=true/\xs.all xM=true)/\Q (.bl (if neg then !xD x xs else xD x xs)) st
 | none=>(match rN y st with
  | some kvs=>(match vI x with | some k=>Q (.bl (if neg then !(zH kvs k).isSome else(zH kvs k).isSome)) st | none=>False)
  | none=>(match x,y with | .str i,.str j=>Q (.bl (if neg then !(!(Builtin.Str.occurrences j i 0 j.length 1).isEmpty)else !(Builtin.Str.occurrences j i 0 j.length 1).isEmpty)) st | _,_=>False))
theorem znA {K:Frag}{A:List ac}{H:Hp}{st:z5}{x:PV}{v:V}{xs:List PV}(rs:RS K A H st)(ex:RE K A H x v)(h:uN x st=some xs): ∃a vs,v= .ref a/\(x8 K H a vs∨xT K H a vs)/\RVs K A H xs vs:=by
 cases ex with
 | val e=>
  cases e with
  | lst t z r=>cases h;exact⟨_,_,rfl,.inl t.sq,r⟩
  | tup t z r=>cases h;exact⟨_,_,rfl,.inr t.sq,r⟩
  | _=>cases h
 | obj eo=>
  dsimp only[uN]at h
  split at h
  ·rename_i q
   cases h;obtain⟨vs,h1,r,z⟩:=rs.at_ _ _ _ eo q;exact⟨_,_,rfl,.inl (.of h1),r⟩
  ·cases h
theorem zlv {x:PV}(h:xM x=true):yU x=true:=by
 cases x <;> first | rfl | cases h
theorem mR {k:Nat}(hr:zI k X.A):yJ X (compareOp .In) (xV X.K (xQ false)):=uJ λzc s σ H A st x y v w vv ww Q3 Q I rs ex ey rv rw h k=>by
 have hu:X.A.units+1 < cLine:=by have:=hr.units;grobner
 unfold xQ at h
 split at h
 ·rename_i xs e
  obtain⟨a,ws,rfl,hs,r⟩:=znA rs ey e;obtain⟨⟨f1,f2⟩,h⟩:=h;have ex':=ex.rv (zlv f1);refine ztU zc s σ H _ _ vv ww Q I rv rw ⟨a,ws,rfl,hs,by rw[zeA ex'];exact f1,by rw[zeB r];exact f2,?_⟩;have e2:=zeL ex' f1 r f2;have:(if false=true then !pR v ws else pR v ws)=xD x xs:=by rw[if_neg fz,e2]
  rw[this];exact k.now rs 7#7 h
 ·split at h
  ·rename_i kvs e
   obtain⟨a,us,rfl,h1,r,z⟩:=zhU rs ey e
   split at h
   ·rename_i kk ek
    cases rw;refine zqC hu I (.inl ⟨us,kk,.inl h1,sX ex ek,rfl⟩) rv λs' I'=>⟨.bl _,H,I',rfl,?_⟩;rcases r.val (k:=kk)with⟨x',v',e1,e2,r'⟩ | ⟨e1,e2⟩
    ·rw[e2];rw[e1]at h;exact k.now rs 7#7 h
    ·rw[e2];rw[e1]at h;exact k.now rs 7#7 h
   ·exact h.elim
  ·split at h
   ·cases rD ex;cases rD ey
    exact ztV zc s σ H _ _ vv ww Q I rv rw ⟨_,_,rfl,rfl,k.now rs 7#7 h⟩
   ·exact h.elim
theorem oQ {k:Nat}(hr:zI k X.A):yJ X (compareOp .NotIn) (xV X.K (xQ true)):=uJ λzc s σ H A st x y v w vv ww Q3 Q I rs ex ey rv rw h k=>by
 have hu:X.A.units+1 < cLine:=by have:=hr.units;grobner
 unfold xQ at h
 split at h
 ·rename_i xs e
  obtain⟨a,ws,rfl,hs,r⟩:=znA rs ey e;obtain⟨⟨f1,f2⟩,h⟩:=h;have ex':=ex.rv (zlv f1);refine zua zc s σ H _ _ vv ww Q I rv rw ⟨a,ws,rfl,hs,by rw[zeA ex'];exact f1,by rw[zeB r];exact f2,?_⟩;have e2:=zeL ex' f1 r f2;have:(if true=true then !pR v ws else pR v ws)= !xD x xs:=by rw[if_pos rfl,e2]
  rw[this];exact k.now rs 7#7 h
 ·split at h
  ·rename_i kvs e
   obtain⟨a,us,rfl,h1,r,z⟩:=zhU rs ey e
   split at h
   ·rename_i kk ek
    cases rw;refine zqE hu I (.inl ⟨us,kk,.inl h1,sX ex ek,rfl⟩) rv λs' I'=>⟨.bl _,H,I',rfl,?_⟩;rcases r.val (k:=kk)with⟨x',v',e1,e2,r'⟩ | ⟨e1,e2⟩
    ·rw[e2];rw[e1]at h;exact k.now rs 7#7 h
    ·rw[e2];rw[e1]at h;exact k.now rs 7#7 h
   ·exact h.elim
  ·split at h
   ·cases rD ex;cases rD ey
    exact zub zc s σ H _ _ vv ww Q I rv rw ⟨_,_,rfl,rfl,k.now rs 7#7 h⟩
   ·exact h.elim
end
theorem at0 {α:Type}{x:α}{xs:List α} :atI (x::xs) 0=some x:=wK (j:=0) rfl
theorem at1 {α:Type}{x y:α}{xs:List α} :atI (x::y::xs) 1=some y:=wK (j:=1) rfl
theorem at2 {α:Type}{x y z:α}{xs:List α} :atI (x::y::z::xs) 2=some z:=wK (j:=2) rfl
theorem at3 {α:Type}{x y z u:α}{xs:List α} :atI (x::y::z::u::xs) 3=some u:=wK (j:=3) rfl
theorem at4 {α:Type}{x y z u v:α}{xs:List α} :atI (x::y::z::u::v::xs) 4=some v:=wK (j:=4) rfl
theorem ix0 {n:Nat} :wS (n+1) 0=some 0:=by unfold wS;rw[if_pos 2#0,if_pos 0#0];rfl
theorem ix1 {n:Nat} :wS (n+2) 1=some 1:=by unfold wS;rw[if_pos 2#0,if_pos 0#0];rfl
theorem zon {α:Type}{st:List α} :st.take 4#10=st:=3#0
theorem cC {α:Type}{st:List α}{i:Nat}{x:α} :(st.set i x).take 4#10=st.set i x:=by rw[Nat.add_zero,ck 3#0]
theorem set_set {α:Type}{st:List α}{i:Nat}{x y:α} :(st.set i x).set i y=st.set i y:=3#0
theorem sT {α:Type}{st:List α}{i:Nat}{x y:α}(h:st[i]?=some y):(st.set i x)[i]?=some x:=dv (ah.mp h).1
theorem zg6 {p:z8×PV}{r:List 2#3}{k:z8}(e:p.1=k):zH (p::r) k=some p.2:=by simp[zH,db,e]
theorem zg5 {p:z8×PV}{r:List 2#3}{k:z8}(e: ¬ p.1=k):zH (p::r) k=zH r k:=by simp[zH,db,e]
theorem zoN (k:z8): ∀kvs:List 2#3,4#5=(zH kvs k).isSome
 | []=>rfl
 | p::r=>by
  rw[ji];by_cases e:p.1=k
  ·rw[zg6 e,decide_eq_true e];rfl
  ·rw[zg5 e,decide_eq_false e,zoN k r];rfl
def qJ (l:List (Str×Int)):PV:= .tup (l.map λq=> .tup [.str q.1,.int q.2])
theorem zry {α:Type}{st:List α}{i:Nat}{x:α}(h:(st[i]?).isSome=true):(st.set i x)[i]?=some x:=by
 obtain⟨y,e⟩:=ul.mp h;exact sT e
theorem zrf {Q:K3}{st:z5}{x:PO} :xB (st.length+1) Q 5#2 (st++ [x])=Q 5#2 (st++ [x]):=by
 show(if st.length < st.length+1 then _ else _)=_;rw[if_pos (pq _),ck 3#0]
theorem gL {Q:K3}{st:z5}{xs:List PV} :xB 4#10 Q 5#2 (st++ [.lst xs])=Q 9#3 st:=by
 show(if st.length < st.length+0 then _ else _)=_;rw[if_neg 0#0];have:(st++ [PO.lst xs])[st.length]?=some 9#3:=3#0
 rw[this];simp
theorem zij {Q:K3}{st:z5}{xs:List 2#3} :xB 4#10 Q 5#2 (st++ [.dct xs])=Q (.dct xs) st:=by
 show(if st.length < st.length+0 then _ else _)=_;rw[if_neg 0#0];have:(st++ [PO.dct xs])[st.length]?=some (.dct xs):=3#0
 rw[this];simp
theorem nR {α:Type}(f:α->PV){ns:List α}{k:Int}(h0:0<=k)(h1:k < ns.length): ∃z∈ns,atI (ns.map f) k=some (f z):=by
 obtain⟨y,hy,e⟩:=zpR (ns.map f) h0 (by simpa using h1);obtain⟨z,hz,rfl⟩:=cb.mp hy;exact⟨z,hz,e⟩
theorem vQ {α:Type}{st:List α}{x:α} :(st++ [x])[st.length]?=some x:=3#0
theorem o5 {α:Type}{st:List α}{x y:α} :(st++ [x]).set st.length y=st++ [y]:=3#0
theorem zgp {α:Type}{st:List α}{x:α} :(st++ [x]).take 4#10=st:=3#0
theorem zxs {α:Type}{st:List α}{x:α} :(st++ [x]).take (st.length+1)=st++ [x]:=by rw[ck 3#0]
theorem sB {α:Type}{e:List α}(h:e.length=1): ∃a,e= [a]:=List.length_eq_one_iff.mp h
def CP (f:PV->Option PV)(own:Nat)(xs:List PV)(env:zF)(st:z5)(i:Nat)(ys:List PV)(zq:zF)(zl:z5):Prop:=ys=(xs.take i).filterMap f/\zl=st/\∃e',e'.length=own/\zq=env++e'
theorem i7 {α:Type}{xs:List α}{i:Nat}{x:α}(h:xs[i]?=some x):xs.take (i+1)=xs.take i++ [x]:=by rw[yz,h];rfl
theorem CP.yes {f:PV->Option PV}{own:Nat}{xs:List PV}{env:zF}{st:z5}{i:Nat}{x y:PV}{e':zF}(h:xs[i]?=some x)(hf:f x=some y)(he:e'.length=own):CP f own xs env st (i+1) ((xs.take i).filterMap f++ [y]) (env++e') st:=by
 refine⟨?_,rfl,e',he,rfl⟩;rw[i7 h,gl,cp,hf];rfl
theorem CP.no {f:PV->Option PV}{own:Nat}{xs:List PV}{env:zF}{st:z5}{i:Nat}{x:PV}{e':zF}(h:xs[i]?=some x)(hf:f x=none)(he:e'.length=own):CP f own xs env st (i+1) ((xs.take i).filterMap f) (env++e') st:=by
 refine⟨?_,rfl,e',he,rfl⟩;rw[i7 h,gl,cp,hf];simp
theorem sQ {own:Nat}{g:w4}{tt:xE}{el:zC}{xs:List PV}{Q:List PV->z5->Prop}{env:zF}{st:z5}(f:PV->Option PV)
  (hs: ∀i x e,xs[i]?=some x->e.length=own->g x (env++e) st λe1 s1=>tt e1 s1 λb s2=>if b=true then el e1 s2 λy s3=>yU y=true/\CP f own xs env st (i+1) ((xs.take i).filterMap f++ [y]) e1 s3 else CP f own xs env st (i+1) ((xs.take i).filterMap f) e1 s2)
  (hd:Q (xs.filterMap f) st):o9 own g tt el none xs Q env st:=by
 refine⟨CP f own xs env st,⟨3#0,rfl,_,3#0,rfl⟩,?_,?_⟩
 ·rintro i x ys zq zl hx ⟨rfl,rfl,e',he,rfl⟩
  exact hs i x e' hx he
 ·rintro ys zq zl ⟨rfl,rfl,e',he,rfl⟩
  show Q _ _;rw[ck (ar _)];exact hd
theorem vZ {g:w4}{b:yS}{Ad:xX}{xs:List PV}{D:xK}{env:zF}{st:z5}(P:Nat->zF->z5->Prop)(h0:P 0 env st)
  (hs: ∀i x env st,xs[i]?=some x->P i env st->sJ Ad st (g x env st λe s=>b {D with nx:=P (i+1),ct:=P (i+1),bk:=D.nx} e s)) (hd: ∀env st,P xs.length env st->sJ Ad st (D.nx env st)):cU g b Ad xs D env st:=⟨P,h0,hs,hd⟩
theorem wC {α:Type}{f:α->PV}{l:List α}{i:Nat}{x:PV}(h:(l.map f)[i]?=some x): ∃y,l[i]?=some y/\x=f y:=by
 rw[br]at h;cases e:l[i]? with
 | none=>rw[e]at h;cases h
 | some y=>rw[e]at h;exact⟨y,rfl,(cf h).symm⟩
theorem zih {x:PV}{Q:K3}{st:z5}(h:yU x=true)(q:Q x st):xB 4#10 Q x st:=by
 cases x with
 | obj i=>cases h
 | _=>show Q _ (st.take 4#10);rw[zon];exact q
theorem zra {x:PV}{Q:K3}{st:z5}{i:Nat}{o:PO}(h:yU x=true)(q:Q x (st.set i o)):xB 4#10 Q x (st.set i o):=by
 cases x with
 | obj i=>cases h
 | _=>show Q _ ((st.set i o).take 4#10);rw[cC];exact q
theorem aI {α:Type}{f:α->PV}{n:Nat}(h: ∀x,zE (f x)<=n): ∀(l:List α),dpts (l.map f)<=n
 | []=>by rw[jf];unfold dpts;exact fv _
 | x::l=>by
  rw[av];unfold dpts;exact Nat.max_le.mpr ⟨h x,aI h l⟩
theorem zhW (l:List (Str×Int)):zE (qJ l)<=2:=by
 unfold qJ zE;exact yl (aI (λq=>by simp[zE,dpts]) l)
theorem zga {α:Type}{st:List α}{i:Nat}{x o:α}(h:i < st.length):(st++ [o]).set i x=st.set i x++ [o]:=by rw[List.set_append_left _ _ h]
theorem gU {α:Type}{st:List α}{i:Nat}{x o:α}(h:st[i]?=some x):(st++ [o])[i]?=some x:=by rw[bw (ah.mp h).1];exact h
theorem tG {t u:yS}{D:xK}{env:zF}{st:z5}(P:zF->z5->Prop)(h1: ∀N:zF->z5->Prop,(∀e s,P e s->N e s)->t {D with nx:=N} env st)(h2: ∀e s,P e s->u D e s):uP t u D env st:=h1 (u D) h2
theorem u6:(∀{i j:Int},yB 1#6 (.int j)=(i==j))/\(∀{a b:Str},yB (.str a) (.str b)=(a==b))/\(∀{a b:Bool},yB (.bl a) (.bl b)=(a==b))/\(yB .non .non=true)/\(∀{a b:List PV},yB (.tup a) (.tup b)=eqPs a b)/\(∀{a b:List PV},yB (.lst a) (.lst b)=eqPs a b)/\(∀{i:Int},yB 1#6 .non=false)/\(∀{i:Str},yB (.str i) .non=false)/\(∀{i:List PV},yB (.tup i) .non=false)/\(∀{i:Int},yB .non 1#6=false)/\(∀{i:Str},yB .non (.str i)=false)/\(∀{i:List PV},yB .non (.tup i)=false)/\(∀{a:List PV} {b:Str},yB (.tup a) (.str b)=false)/\(∀{a:List PV} {b:Str},yB (.str b) (.tup a)=false)/\(eqPs [] []=true)/\(∀{x xs},eqPs (x::xs) []=false)/\(∀{x xs},eqPs [] (x::xs)=false)/\(∀{x xs y ys},eqPs (x::xs) (y::ys)=(yB x y&&eqPs xs ys)):=by
 refine⟨?_,?_,?_,?_,?_,?_,?_,?_,?_,?_,?_,?_,?_,?_,?_,?_,?_,?_⟩ <;> intros <;> first | rfl | (unfold yB;rfl) | (unfold eqPs;rfl)
theorem kL:(zE .non=0)/\(∀{i},zE 1#6=0)/\(∀{i},zE (.str i)=0)/\(∀{i},zE (.bl i)=0)/\(∀{i},zE (.tup i)=dpts i+1)/\(∀{i},zE (.lst i)=dpts i+1)/\(dpts []=0)/\(∀{x xs},dpts (x::xs)=max (zE x) (dpts xs)):=by
 refine⟨?_,?_,?_,?_,?_,?_,?_,?_⟩ <;> intros <;> first | rfl | (unfold zE;rfl) | (unfold dpts;rfl)
theorem zhX (l:List (Str×Int)):zE (qJ l)<=50:=bh (zhW l) 2#0
theorem zhY (l:List (Str×Int)):zE (qJ l) < 1000:=mz (zhW l) 2#0
def zo_:yS:=λ_ _ _=>False
section
variable {X:Cx}
theorem p8 {st:cu} :PS X st (yZ X.K zo_):=t8 zuT λD σ H ⟨A,env,s,D3,zg,h,k⟩=>h
theorem zqo (n:Nat):sliceBounds none none (some (-1)) n=((n:Int) - 1,-1,-1):=by
 simp[sliceBounds]
theorem zvR (n:Nat):sliceRange ((n:Int) - 1) (-1) (-1)=(List.range n).map λk=>n - 1 - k:=by
 unfold sliceRange;have e:(if(-1:Int) > 0 then(if(n:Int) - 1 < -1 then((-1:Int) - ((n:Int) - 1)+ -1 - 1) / -1 else 0)else(if(n:Int) - 1 > -1 then((n:Int) - 1 - -1 - -1 - 1) / (- -1)else 0)).toNat=n:=by
  rw[if_neg 2#0,show(- -1:Int)=1 by decide,Int.ediv_one]
  split <;> grobner
 show(List.range ((if(-1:Int) > 0 then(if(n:Int) - 1 < -1 then((-1:Int) - ((n:Int) - 1)+ -1 - 1) / -1 else 0)else(if(n:Int) - 1 > -1 then((n:Int) - 1 - -1 - -1 - 1) / (- -1)else 0)).toNat)).map _=_;rw[e];refine ko λk hk=> ?_;have:=rf.mp hk;grobner
theorem zuH (zf:List aa):slicePick zf.toArray none none (some (-1))=zf.reverse.toArray:=by
 unfold slicePick;rw[zqo];dsimp only;rw[zvR]
 congr 1
 have gen: ∀(l:List aa) (n:Nat),n<=l.length->((List.range n).map λk=>n - 1 - k).filterMap (λi=>l.toArray[i]?)=(l.take n).reverse:=by
  intro l n
  induction n with
  | zero=>intro _;simp
  | succ n ih=>
   intro h;rw[vo,av,bx,cp];have h1:l.toArray[n+1 - 1 - 0]?=some l[n]:=3#0
   rw[h1];have e:((λk=>n+1 - 1 - k) ∘ Nat.succ)=λk=>n - 1 - k:=by funext k;show n+1 - 1 - (k+1)=n - 1 - k;grobner
   rw[e,ih 0#0,i7 (x:=l[n]) 3#0,iy];rfl
 have:=gen zf zf.toArray.size 3#0;rw[this,ck 3#0]
def zxn (K:Frag)(te:TE)(tl:TO):TE:=λσ H Q=>te σ H λx H1=>tl σ H1 λl H2=>l=some (-1)/\∃a xs,x= .ref a/\x8 K H2 a xs/\∀p,H2 p=none->Q 3#13 (upd H2 p 7#10)
theorem zu2 {e se:Expr}{te:TE}{tl:TO}{p2 pos:fe}(he:PE X e te)(hl:L2.PO X (some se) tl):PE X (.Subscript e (.Slice none none (some se) p2) pos) (zxn X.K te tl):=by
 refine⟨λzc s σ H Q I h=> ?_⟩;refine Subscript_ (zL 1#8 λv s1 ⟨x,H1,I1,r1,q1⟩=> ?_);refine wpAny_Slice ?_;rw[xg];refine az (az ?_);refine zL (hl zc s1 σ H1 _ I1 q1) λvu s3 ⟨u,H3,I3,pu,hu,a,xs,ex,hx,q⟩=> ?_;subst hu ex;cases r1;have I4:z4 X zc σ H3 {s3 with heap:=s3.heap.push {cls:= .type "slice",data:= .fields #[.none,.none,vu]}} :=I3.kept (t':=s3.toks) λb ob q=>ap _ q;obtain⟨zf,r,ht,hz⟩:=I4.list hx;have zu:=r.length;show ay 1#2 X.A (subscriptTail e (.Slice none none (some se) p2) 8#9 (.ref s3.heap.objs.size)) 7#4 X.xe {s3 with heap:=s3.heap.push {cls:= .type "slice",data:= .fields #[.none,.none,vu]}};refine tail_any (ops:= [.ref a,.ref s3.heap.objs.size]) ht.isList.typeIs tz.lookup ?_ (by with_unfolding_all rfl);refine uo ht.isList (Heap.IsSliceOf.new ..) .none .none pu 3#0 ?_ (by rw[bq] <;> grobner);rw[zuH];refine⟨.ref _,_,I4.laid (t':=s3.toks) (o:= .lst xs.reverse) (λb ob q=>ap _ q) (ar _) ?_,rfl,q _ (I4.hok.fresh (ar _))⟩;exact⟨by rw[gd];exact hz,zf.reverse,0,r.reverse,cm _ rfl⟩
def zoF (T:zC)(Tl:qI):zC:=λenv st Q=>T env st λx zd=>Tl env zd λl zi=>l=some (-1)/\(match x with | .lst xs=>Q 7#10 zi | _=>False)
theorem zvs {e se:Expr}{Ta:zC}{Tl:qI}{p2 pos:fe}(he:PE X e 9#4)(hl:L2.PO X (some se) (kI X.K Tl)):PE X (.Subscript e (.Slice none none (some se) p2) pos) (zK X.K (zoF Ta Tl)):=by
 refine xP (zu2 he hl) λσ H Q ⟨A,env,st,Q3,zg,h,k⟩=>⟨A,env,st,_,zg,h,λA1 H1 zd x v g1 s1 e1 h1=>⟨A1,env,zd,_,zg.grow g1 s1,h1,λA2 H2 zi l g2 s2 h2=>⟨h2.1,?_⟩⟩⟩;have h3:=h2.2
 split at h3
 ·cases e1.grow g2 with | val e=>cases e with | lst t z r=>
   exact⟨_,_,rfl,t.sq,(k.after (g1.trans g2)).lst s2 r.reverse (by rw[gd];exact z) h3⟩
 ·exact h3.elim
end
theorem gF (xs:List PV)(a:Nat):xW xs (some (a:Int)) none=xs.drop a:=by
 unfold xW;rw[HT.sIx_nat,HT.sIx_none];rcases ux a xs.length with h | h
 ·rw[og h,ck (by rw[kx];exact ar _)]
 ·rw[pr h,nc (ar _),nc h];simp
theorem pM (xs:List PV)(b:Nat):xW xs none (some (b:Int))=xs.take b:=by
 unfold xW;rw[HT.sIx_nat,HT.sIx_none,yy,Nat.sub_zero];rcases ux b xs.length with h | h
 ·rw[og h]
 ·rw[pr h,ck (ar _),ck h]
section
variable {α:Type} [DecidableEq α]
def both (w:List α)(a b:Nat)(u:List α)(c d:Nat)(v:List α):List α:=w.take a++u++(w.take c).drop b++v++w.drop d
end
theorem zqA (xs:List PV)(a b:Nat):xW xs (some (a:Int)) (some (b:Int))=(xs.take b).drop a:=by
 unfold xW;rw[HT.sIx_nat,HT.sIx_nat,za];rcases ux a xs.length with h | h
 ·rw[og h]
  rcases ux b xs.length with g | g
  ·rw[og g]
  ·rw[pr g,ck (l:=xs.drop a) (by rw[kx];exact ar _),ck (l:=xs.drop a) (by rw[kx];grobner)]
 ·rw[pr h,nc (ar _),nc h];simp
section
variable {X:Cx}
theorem znu {vs:List V}{zf:List aa}{Ac:Array aa}(r:zJ vs zf)(h:ItemsOf (λi v=>zf.toArray[zf.toArray.size - 1 - i]?=some v) Ac zf.toArray.size):zJ vs.reverse Ac.toList:=by
 have hl:=r.length;have h1:Ac.size=zf.length:=by simpa using h.1
 have h2:Ac.toList.length=Ac.size:=jo;refine cN (by rw[gd];grobner) λj v x hv hx=> ?_;have hj:j < Ac.size:=by have:=(ah.mp hv).1;simpa using this
 have q:=h.2 j v (by simpa using hv);have hj2:j < vs.length:=0#0
 rw[List.getElem?_reverse hj2]at hx;have hk:vs.length - 1 - j < vs.length:=0#0
 obtain⟨u,hu,ru⟩:=r.get (i:=vs.length - 1 - j) (x:=x) hx;rw[bq,<- hl]at q;have q2:zf[vs.length - 1 - j]?=some v:=by simpa using q
 rw[q2]at hu;cases hu;exact ru
def zxP (T:zC):zC:=λenv st Q=>T env st λx zd=>match x with | .tup xs=>Q (.tup xs.reverse) zd | _=>False
end
section
variable {X:Cx} {a b c:Expr} {pos:fe} {Tx:yK}
def zxL (i j l:Nat)(T:yK):yS:=λD env st=>T env st λxs zd=>match xs with | [x,y,z]=>D.nx (((env.set l (some z)).set j (some y)).set i (some x)) zd | _=>False
end
set_option smartUnfolding false
def wF {α:Type}(o:Option α)(F:α->Prop):Prop:=match o with | some x=>F x | none=>False
section
variable {i j:Int} {a b:Str} {xs ys zs:List PV} {x y z:PV} {n m:Nat} {st:z5} {Q:K3} {p q:Bool} {kvs:List (z8×PV)} {env:zF}
@[simp] theorem zys:mZ 1#6 (.int j) st Q=Q (.int (i+j)) st:=rfl
@[simp] theorem zyu:mZ (.str a) (.str b) st Q=(a.length+b.length<=ak/\Q (.str (a++b)) st):=rfl
@[simp] theorem zyv:mZ 9#6 4#14 st Q=(xs.length+ys.length<=ak/\Q (.tup (xs++ys)) st):=rfl
@[simp] theorem zyt:mZ 9#3 0#17 st Q=(xs.length+ys.length<=ak/\Q (.lst (xs++ys)) st):=rfl
@[simp] theorem z0s:zfI 1#6 (.int j) st Q=Q (.int (i - j)) st:=rfl
@[simp] theorem zz_:eJ 1#6 (.int j) st Q=(((-(2 ^ 64) < i/\i < 2 ^ 64)∨(-(2 ^ 64) < j/\j < 2 ^ 64))/\Q (.int (i * j)) st):=rfl
@[simp] theorem zzA:eJ (.str a) 1#6 st Q=(if i=0 then Q (.str Str.empty) st else i=1/\Q (.str a) st):=rfl
@[simp] theorem zz9:zf_ 1#6 (.int j) st Q=(0 < j/\Q (.int (i % j)) st):=rfl
@[simp] theorem zy_:zf4 1#6 (.int j) st Q=((0 < j/\j < 1099511627776)/\Q (.int (i / j)) st):=rfl
@[simp] theorem z0d:zfF 1#6 (.int j) st Q=(iE i j/\Q (.int (i ^ j.toNat)) st):=rfl
@[simp] theorem zzB:zfB 1#6 st Q=Q (.int (-i)) st:=rfl
@[simp] theorem zy6 {f:Int->Int->Bool} :oV f 1#6 (.int j) st Q=Q (.bl (f i j)) st:=rfl
@[simp] theorem zzc:zf7 x .non st Q=Q (.bl (u7 x)) st:=rfl
@[simp] theorem zzM:zfC x .non st Q=Q (.bl (!u7 x)) st:=rfl
@[simp] theorem zzC:u7 .non=true:=rfl
@[simp] theorem zzF:u7 1#6=false:=rfl
@[simp] theorem zzI:u7 (.str a)=false:=rfl
@[simp] theorem zzD:u7 (.bl p)=false:=rfl
@[simp] theorem zzJ:u7 9#6=false:=rfl
@[simp] theorem zzG:u7 9#3=false:=rfl
@[simp] theorem zzE:u7 2#4=false:=rfl
@[simp] theorem zzH:u7 (.obj n)=false:=rfl
@[simp] theorem zzx:vI 1#6=some (.inl i):=rfl
@[simp] theorem zic:vI (.str a)=some (.inr a):=rfl
def ixO (o:Option PO)(y:PV)(st:z5)(Q:K3):Prop:=match o with
 | some 9#3=>(match y with | .int i=>wF (atI xs i) λz=>Q z st | _=>False)
 | some 2#4=>wF (vI y) λk=>wF (zH kvs k) λz=>Q z st
 | _=>False
@[simp] theorem zzw:r6 9#6 1#6 st Q=wF (atI xs i) λz=>Q z st:=rfl
@[simp] theorem zzt:r6 9#3 1#6 st Q=wF (atI xs i) λz=>Q z st:=rfl
@[simp] theorem zzv:r6 (.str a) 1#6 st Q=(a.length<=ak/\wF (atI a.cps.toList i) λc=>Q (.str ⟨#[c]⟩) st):=rfl
@[simp] theorem zqN:r6 2#4 y st Q=wF (vI y) λk=>wF (zH kvs k) λz=>Q z st:=rfl
@[simp] theorem zqO:r6 (.obj n) y st Q=ixO st[n]? y st Q:=rfl
@[simp] theorem zzu:ixO (some 9#3) 1#6 st Q=wF (atI xs i) λz=>Q z st:=rfl
@[simp] theorem zqP:ixO (some 2#4) y st Q=wF (vI y) λk=>wF (zH kvs k) λz=>Q z st:=rfl
def zfZ (o:Option PO)(n:Nat)(i v:PV)(st:z5)(Q:z5->Prop):Prop:=match o with
 | some 9#3=>(match i with | .int k=>yU v=true/\wF (wS xs.length k) λj=>Q (st.set n (.lst (xs.set j v))) | _=>False)
 | some 2#4=>wF (vI i) λk=>yU v=true/\kvs.length < ak/\Q (st.set n (.dct (xY kvs k v)))
 | _=>False
@[simp] theorem z0k {Q:z5->Prop} :jC (.obj n) x y st Q=zfZ st[n]? n x y st Q:=rfl
@[simp] theorem z0m {Q:z5->Prop} :zfZ (some 9#3) n 1#6 y st Q=(yU y=true/\wF (wS xs.length i) λj=>Q (st.set n (.lst (xs.set j y)))):=rfl
@[simp] theorem z0l {Q:z5->Prop} :zfZ (some 2#4) n x y st Q=wF (vI x) λk=>yU y=true/\kvs.length < ak/\Q (st.set n (.dct (xY kvs k y))):=rfl
@[simp] theorem z0p {l h:Option Int} :oW 9#6 l h st Q=Q (.tup (xW xs l h)) st:=rfl
@[simp] theorem z0n {l h:Option Int} :oW 9#3 l h st Q=Q (.lst (xW xs l h)) st:=rfl
@[simp] theorem z0o {l h:Option Int} :oW (.str a) l h st Q=(a.length<=ak/\((Txt.slice a l h).length<=a.length->Q (.str (Txt.slice a l h)) st)):=rfl
def zeT (o:Option PO)(k:Nat->Prop):Prop:=match o with | some 9#3=>k xs.length | some 2#4=>k kvs.length | _=>False
@[simp] theorem zzy:eI [x] st Q=oP x st λn=>Q (.int n) st:=rfl
@[simp] theorem zz4 {k:Nat->Prop} :oP 9#6 st k=k xs.length:=rfl
@[simp] theorem zzz {k:Nat->Prop} :oP 9#3 st k=k xs.length:=rfl
@[simp] theorem zz3 {k:Nat->Prop} :oP (.str a) st k=(a.length<=ak/\k a.length):=rfl
@[simp] theorem zz0 {k:Nat->Prop} :oP (.obj n) st k=zeT st[n]? k:=rfl
@[simp] theorem zz2 {k:Nat->Prop} :zeT (some 9#3) k=k xs.length:=rfl
@[simp] theorem zz1 {k:Nat->Prop} :zeT (some 2#4) k=k kvs.length:=rfl
def zor (o:Option PO)(st:z5)(Q:K3):Prop:=match o with | some 0#17=>Q 4#14 st | _=>False
@[simp] theorem z0v:jD [.lst ys] st Q=Q 4#14 st:=rfl
@[simp] theorem z0y:jD [.tup ys] st Q=Q 4#14 st:=rfl
@[simp] theorem z0w:jD [.obj n] st Q=zor st[n]? st Q:=rfl
@[simp] theorem z0x:zor (some 0#17) st Q=Q 4#14 st:=rfl
def zgw (o:Option PO)(st:z5)(Q:K3):Prop:=match o with | some 0#17=>Q 4#14 st | some 2#4=>Q 9#8 st | _=>False
@[simp] theorem z0A:zfJ [.lst ys] st Q=Q 4#14 st:=rfl
@[simp] theorem z0E:zfJ [.tup ys] st Q=Q 4#14 st:=rfl
@[simp] theorem z0B:zfJ [.obj n] st Q=zgw st[n]? st Q:=rfl
@[simp] theorem z0D:zgw (some 0#17) st Q=Q 4#14 st:=rfl
@[simp] theorem z0C:zgw (some 2#4) st Q=Q 9#8 st:=rfl
@[simp] theorem zzl {t:String} :zv_ [x,.ty t] st Q=wF (wQ x t) λb=>Q (.bl b) st:=rfl
@[simp] theorem zyQ:wQ (.bl p) "int" =some true:=rfl
@[simp] theorem zyR:wQ (.bl p) "bool" =some true:=rfl
@[simp] theorem zyS:wQ (.bl p) "str" =some false:=rfl
@[simp] theorem zyT:wQ (.bl p) 18#1 =some false:=rfl
@[simp] theorem zyU:wQ (.bl p) 14#1 =some false:=rfl
@[simp] theorem zyV:wQ 1#6 "int" =some true:=rfl
@[simp] theorem zyW:wQ 1#6 "bool" =some false:=rfl
@[simp] theorem zyX:wQ 1#6 "str" =some false:=rfl
@[simp] theorem zyY:wQ 1#6 18#1 =some false:=rfl
@[simp] theorem zyZ:wQ 1#6 14#1 =some false:=rfl
@[simp] theorem zzd:wQ (.str a) "int" =some false:=rfl
@[simp] theorem zze:wQ (.str a) "str" =some true:=rfl
@[simp] theorem zzf:wQ (.str a) 18#1 =some false:=rfl
@[simp] theorem zzg:wQ 9#6 "int" =some false:=rfl
@[simp] theorem zzh:wQ 9#6 "str" =some false:=rfl
@[simp] theorem zzi:wQ 9#6 18#1 =some true:=rfl
@[simp] theorem zzj:wQ 9#6 14#1 =some false:=rfl
@[simp] theorem zza:wQ 9#3 18#1 =some false:=rfl
@[simp] theorem zzb:wQ 9#3 14#1 =some true:=rfl
@[simp] theorem zyP:fY [.int i] st Q=Q 1#6 st:=rfl
@[simp] theorem zyO:fY [.bl p] st Q=Q (.int (if p then 1 else 0)) st:=rfl
@[simp] theorem zz8:zvI 8#17 st Q=Q (.int (if j < i then j else i)) st:=rfl
@[simp] theorem zz7:zvH 8#17 st Q=Q (.int (if j > i then j else i)) st:=rfl
def zgv (o:Option PO)(k:Bool->Prop):Prop:=match o with | some 9#3=>k 4#16 | some (.dct xs)=>k 4#16 | _=>False
@[simp] theorem z05 {k:Bool->Prop} :sG .non st k=k false:=rfl
@[simp] theorem z01 {k:Bool->Prop} :sG (.bl p) st k=k p:=rfl
@[simp] theorem z03 {k:Bool->Prop} :sG 1#6 st k=k (i !=0):=rfl
@[simp] theorem z09 {k:Bool->Prop} :sG (.str a) st k=(a.length<=ak/\k ((a.length:Int) !=0)):=rfl
@[simp] theorem z0_ {k:Bool->Prop} :sG 9#6 st k=k 4#16:=rfl
@[simp] theorem z04 {k:Bool->Prop} :sG 9#3 st k=k 4#16:=rfl
@[simp] theorem z02 {k:Bool->Prop} :sG 2#4 st k=k (!kvs.isEmpty):=rfl
@[simp] theorem z06 {k:Bool->Prop} :sG (.obj n) st k=zgv st[n]? k:=rfl
@[simp] theorem z08 {k:Bool->Prop} :zgv (some 9#3) k=k 4#16:=rfl
@[simp] theorem z07 {k:Bool->Prop} :zgv (some 2#4) k=k (!kvs.isEmpty):=rfl
def zhx (o:Option PO)(n:Nat)(y:PV)(st:z5)(Q:K3):Prop:=match o with | some (.lst zs)=>yU y=true/\zs.length < ak/\Q .non (st.set n (.lst (zs++ [y]))) | _=>False
@[simp] theorem zy4:fV (.obj n) [y] st Q=zhx st[n]? n y st Q:=rfl
@[simp] theorem zy5:zhx (some (.lst zs)) n y st Q=(yU y=true/\zs.length < ak/\Q .non (st.set n (.lst (zs++ [y])))):=rfl
def zik (o:Option PO)(n:Nat)(ys:List PV)(st:z5)(Q:K3):Prop:=match o with | some (.lst zs)=>zs.length+ys.length<=ak/\Q .non (st.set n (.lst (zs++ys))) | _=>False
@[simp] theorem zyH:zf5 (.obj n) [.lst ys] st Q=zik st[n]? n ys st Q:=rfl
@[simp] theorem zyI:zik (some (.lst zs)) n ys st Q=(zs.length+ys.length<=ak/\Q .non (st.set n (.lst (zs++ys)))):=rfl
def zmZ (o:Option PO)(n:Nat)(st:z5)(Q:K3):Prop:=match o with | some (.lst zs)=>wF zs.getLast? λy=>Q y (st.set n (.lst zs.dropLast)) | _=>False
@[simp] theorem z0b:zfD (.obj n) [] st Q=zmZ st[n]? n st Q:=rfl
@[simp] theorem z0c:zmZ (some (.lst zs)) n st Q=wF zs.getLast? λy=>Q y (st.set n (.lst zs.dropLast)):=rfl
def dctO (o:Option PO):Option (List 2#3):=match o with | some 2#4=>some kvs | _=>none
@[simp] theorem zy7:rN 2#4 st=some kvs:=rfl
@[simp] theorem zy8:rN (.obj n) st=dctO st[n]?:=rfl
@[simp] theorem zy9:dctO (some 2#4)=some kvs:=rfl
def tyO (o:Option PO):String:=match o with | some (.lst _)=> 14#1 | some (.dct _)=> 76#1 | _=> ""
@[simp] theorem z0G:rR 9#3 st= 14#1 :=rfl
@[simp] theorem z0F:rR 2#4 st= 76#1 :=rfl
@[simp] theorem z0K:rR (.str a) st= "str" :=rfl
@[simp] theorem z0H:rR (.obj n) st=tyO st[n]?:=rfl
@[simp] theorem z0J:tyO (some 9#3)= 14#1 :=rfl
@[simp] theorem z0I:tyO (some 2#4)= 76#1 :=rfl
def zeO (o:Option PO):Option (List PV):=match o with | some 9#3=>some xs | some 2#4=>some 7#8 | _=>none
@[simp] theorem zzn:pS 9#3 st=some xs:=rfl
@[simp] theorem zzr:pS 9#6 st=some xs:=rfl
@[simp] theorem zzm:pS 2#4 st=some 7#8:=rfl
@[simp] theorem zzo:pS (.obj n) st=zeO st[n]?:=rfl
@[simp] theorem zzq:zeO (some 9#3)=some xs:=rfl
@[simp] theorem zzp:zeO (some 2#4)=some 7#8:=rfl
@[simp] theorem zz5:zvF [x] st Q=wF (pS x st) λys=>Q 0#17 st:=rfl
@[simp] theorem zz6:zvG [x] st Q=wF (pS x st) λys=>Q 5#2 (st++ [.lst ys]):=rfl
def zoo (Q:Bool->z5->Prop)(x:PV)(st:z5):Prop:=match x with | .bl k=>Q k st | _=>False
@[simp] theorem z0t {T:zC}{Q:Bool->z5->Prop} :nJ T env st Q=T env st (zoo Q):=rfl
@[simp] theorem z0u {Q:Bool->z5->Prop} :zoo Q (.bl p) st=Q p st:=rfl
def zhw (T:zC)(env:zF)(Q:K3)(x:PV)(st:z5):Prop:=match x with | .bl c=>if c=true then T env st Q else Q (.bl false) st | _=>False
@[simp] theorem zyw {T U:zC} :zoz T U env st Q=T env st (zhw U env Q):=rfl
@[simp] theorem zyx {T:zC} :zhw T env Q (.bl p) st=if p=true then T env st Q else Q (.bl false) st:=rfl
def orK (T:zC)(env:zF)(Q:K3)(x:PV)(st:z5):Prop:=match x with | .bl c=>if c=true then Q 6#8 st else T env st Q | _=>False
@[simp] theorem zzV {T U:zC} :zxK T U env st Q=T env st (orK U env Q):=rfl
@[simp] theorem zzW {T:zC} :orK T env Q (.bl p) st=if p=true then Q 6#8 st else T env st Q:=rfl
def zmx (Q:K3)(x:PV)(st:z5):Prop:=match x with | .bl c=>Q (.bl (!c)) st | _=>False
@[simp] theorem zzK {T:zC} :zxJ T env st Q=T env st (zmx Q):=rfl
@[simp] theorem zzL:zmx Q (.bl p) st=Q (.bl (!p)) st:=rfl
@[simp] theorem zyL {gs:tY}{Q:zF->z5->Prop} :gT n gs 9#6 env st Q=(xs.length=n/\gs xs env st Q):=rfl
@[simp] theorem zyJ {gs:tY}{Q:zF->z5->Prop} :gT n gs 9#3 env st Q=(xs.length=n/\gs xs env st Q):=rfl
@[simp] theorem zyN {Q:zF->z5->Prop} :gsN [] env st Q=Q env st:=rfl
@[simp] theorem zyM {g:w4}{gs:tY}{Q:zF->z5->Prop} :gsC g gs (x::xs) env st Q=g x env st λenv1 zd=>gs xs env1 zd Q:=rfl
def zmR (n m:Nat)(D:xK)(env:zF)(xs:List PV)(st:z5):Prop:=match xs with | [x,y]=>D.nx ((env.set n (some x)).set m (some y)) st | _=>False
@[simp] theorem zzX {T:yK}{D:xK} :zoB n m T D env st=T env st (zmR n m D env):=rfl
@[simp] theorem zzY {D:xK} :zmR n m D env [x,y] st=D.nx ((env.set n (some x)).set m (some y)) st:=rfl
def zmQ (n m l:Nat)(D:xK)(env:zF)(xs:List PV)(st:z5):Prop:=match xs with | [x,y,z]=>D.nx (((env.set l (some z)).set m (some y)).set n (some x)) st | _=>False
@[simp] theorem zzZ {l:Nat}{T:yK}{D:xK} :zxL n m l T D env st=T env st (zmQ n m l D env):=rfl
@[simp] theorem z0a {l:Nat}{D:xK} :zmQ n m l D env [x,y,z] st=D.nx (((env.set l (some z)).set m (some y)).set n (some x)) st:=rfl
def bQ (o:Option PO)(n:Nat)(st:z5)(Q:xX->List PV->z5->Prop):Prop:=match o with | some 9#3=>Q (some (n,.lst xs)) xs st | _=>False
def kD (Q:xX->List PV->z5->Prop)(x:PV)(st:z5):Prop:=match x with
 | .lst xs=>Q none xs st
 | .tup xs=>Q none xs st
 | .str z=>z.length<=ak/\Q none (o6 z) st
 | .obj n=>bQ st[n]? n st Q
 | _=>False
@[simp] theorem zyy {T:zC}{Q:xX->List PV->z5->Prop} :zl7 T env st Q=T env st (kD Q):=rfl
@[simp] theorem zyz {Q:xX->List PV->z5->Prop} :kD Q 9#3 st=Q none xs st:=rfl
@[simp] theorem zy3 {Q:xX->List PV->z5->Prop} :kD Q 9#6 st=Q none xs st:=rfl
@[simp] theorem zy2 {Q:xX->List PV->z5->Prop} :kD Q (.str a) st=(a.length<=ak/\Q none (o6 a) st):=rfl
@[simp] theorem zy0 {Q:xX->List PV->z5->Prop} :kD Q (.obj n) st=bQ st[n]? n st Q:=rfl
@[simp] theorem zy1 {Q:xX->List PV->z5->Prop} :bQ (some 9#3) n st Q=Q (some (n,.lst xs)) xs st:=rfl
def znw (Q:xX->List PV->z5->Prop)(xs:List PV)(st:z5):Prop:=match xs with | [.int j]=>(-1000000<=j/\j<=1000000)/\Q none (uM 0 j.toNat) st | _=>False
@[simp] theorem z0g {T:yK}{Q:xX->List PV->z5->Prop} :zl8 T env st Q=T env st (znw Q):=rfl
@[simp] theorem z0h {Q:xX->List PV->z5->Prop} :znw Q [.int j] st=((-1000000<=j/\j<=1000000)/\Q none (uM 0 j.toNat) st):=rfl
def znv (Q:xX->List PV->z5->Prop)(xs:List PV)(st:z5):Prop:=match xs with | 8#17=>5#13/\Q none (uM i (j - i).toNat) st | _=>False
@[simp] theorem z0i {T:yK}{Q:xX->List PV->z5->Prop} :zl9 T env st Q=T env st (znv Q):=rfl
@[simp] theorem z0j {Q:xX->List PV->z5->Prop} :znv Q 8#17 st=(5#13/\Q none (uM i (j - i).toNat) st):=rfl
def znF (Q:Option Int->z5->Prop)(x:PV)(st:z5):Prop:=match x with | .int i=>Q (some i) st | _=>False
@[simp] theorem z0q {T:zC}{Q:Option Int->z5->Prop} :zm2 T env st Q=T env st (znF Q):=rfl
@[simp] theorem z0r {Q:Option Int->z5->Prop} :znF Q 1#6 st=Q (some i) st:=rfl
def zoq (Q:K3)(x:PV)(st:z5):Prop:=match x with | .tup xs=>Q (.tup xs.reverse) st | _=>False
@[simp] theorem z0z {T:zC} :zxP T env st Q=T env st (zoq Q):=rfl
@[simp] theorem z00:zoq Q 9#6 st=Q (.tup xs.reverse) st:=rfl
def znt (Q:K3)(x:PV)(st:z5):Prop:=match x with | .lst xs=>Q 7#10 st | _=>False
@[simp] theorem z0e {T:zC}{U:qI} :zoF T U env st Q=T env st λx zd=>U env zd λl zi=>l=some (-1)/\znt Q x zi:=rfl
@[simp] theorem z0f:znt Q 9#3 st=Q 7#10 st:=rfl
@[simp] theorem zyC:xB m Q 1#6 st=Q 1#6 2#11:=rfl
@[simp] theorem zyF:xB m Q (.str a) st=Q (.str a) 2#11:=rfl
@[simp] theorem zyA:xB m Q (.bl p) st=Q (.bl p) 2#11:=rfl
@[simp] theorem zyE:xB m Q .non st=Q .non 2#11:=rfl
@[simp] theorem zyG:xB m Q 9#6 st=Q 9#6 2#11:=rfl
@[simp] theorem zyD:xB m Q 9#3 st=Q 9#3 2#11:=rfl
@[simp] theorem zyB:xB m Q 2#4 st=Q 2#4 2#11:=rfl
@[simp] theorem z0L {P:Prop} :sJ none st P=P:=rfl
@[simp] theorem z0M {P:Prop}{o:PO} :sJ (some (n,o)) st P=(st[n]?=some o/\P):=rfl
@[simp] theorem zzR:yU .non=true:=rfl
@[simp] theorem zzP:yU 1#6=true:=rfl
@[simp] theorem zzT:yU (.str a)=true:=rfl
@[simp] theorem zzN:yU (.bl p)=true:=rfl
@[simp] theorem zzU:yU 9#6=true:=rfl
@[simp] theorem zzQ:yU 9#3=true:=rfl
@[simp] theorem zzO:yU 2#4=true:=rfl
@[simp] theorem zzS:yU (.obj n)=false:=rfl
end
@[simp] theorem z1y {D:xK}{env:zF}{st:z5} :zg2 D env st=(D.nx env st):=rfl
@[simp] theorem z0Y {T:zC}{g:w4}{D:xK}{env:zF}{st:z5} :nH T g D env st=(T env st λx zd=>g x env zd D.nx):=rfl
@[simp] theorem z1r {c:xE}{t u:yS}{D:xK}{env:zF}{st:z5} :cL c t u D env st=(c env st λb zd=>if b=true then t D env zd else u D env zd):=rfl
@[simp] theorem z16 {T:zC}{D:xK}{env:zF}{st:z5} :zoE T D env st=(T env st D.rt):=rfl
@[simp] theorem z17 {D:xK}{w1:zF}{st:z5} :zxN D w1 st=(D.rt .non st):=rfl
@[simp] theorem z1o {T:zC}{D:xK}{env:zF}{st:z5} :cK T D env st=(T env st λ_ zd=>D.nx env zd):=rfl
@[simp] theorem z19 {T:zC}{env:zF}{st:z5}{Q:Bool->z5->Prop} :zoH T env st Q=(T env st λx zd=>sG x zd λk=>Q k zd):=rfl
@[simp] theorem z0X {t u:xE}{env:zF}{st:z5}{Q:Bool->z5->Prop} :cI t u env st Q=(t env st λc zd=>if c=true then u env zd Q else Q false zd):=rfl
@[simp] theorem z12 {t u:xE}{env:zF}{st:z5}{Q:Bool->z5->Prop} :vOr t u env st Q=(t env st λc zd=>if c=true then Q true zd else u env zd Q):=rfl
@[simp] theorem z10 {t:xE}{env:zF}{st:z5}{Q:Bool->z5->Prop} :zoA t env st Q=(t env st λc zd=>Q (!c) zd):=rfl
@[simp] theorem z1q {t:xE}{Ta Tb:zC}{env:zF}{st:z5}{Q:K3} :vIf t Ta Tb env st Q=(t env st λc zd=>if c=true then Ta env zd Q else Tb env zd Q):=rfl
@[simp] theorem z11 {R:R3}{Ta Tb:zC}{env:zF}{st:z5}{Q:K3} :rG R Ta Tb env st Q=(Ta env st λx zd=>Tb env zd λy zi=>R x y zi Q):=rfl
@[simp] theorem z1C {R:PV->z5->K3->Prop}{Ta:zC}{env:zF}{st:z5}{Q:K3} :lQ R Ta env st Q=(Ta env st λx zd=>R x zd Q):=rfl
@[simp] theorem z1d {x:PV}{w0:zF}{st:z5}{Q:K3} :vC x w0 st Q=(Q x st):=rfl
@[simp] theorem z1z {w0:zF}{st:z5}{Q:List PV->z5->Prop} :nI w0 st Q=(Q [] st):=rfl
@[simp] theorem z1k {Ta:zC}{Tr:yK}{env:zF}{st:z5}{Q:List PV->z5->Prop} :tU Ta Tr env st Q=(Ta env st λx zd=>Tr env zd λxs zi=>Q (x::xs) zi):=rfl
@[simp] theorem z1B {T:yK}{env:zF}{st:z5}{Q:K3} :zoK T env st Q=(T env st λxs zd=>t6 xs=true/\Q 9#6 zd):=rfl
@[simp] theorem z1t {T:yK}{env:zF}{st:z5}{Q:K3} :zo5 T env st Q=(T env st λxs zd=>t6 xs=true/\Q 9#3 zd):=rfl
@[simp] theorem z1u {T:yK}{env:zF}{st:z5}{Q:K3} :zo6 T env st Q=(T env st λxs zd=>t6 xs=true/\Q (.obj zd.length) (zd++ [.lst xs])):=rfl
@[simp] theorem z1e {R:zP}{T:yK}{env:zF}{st:z5}{Q:K3} :qF R T env st Q=(T env st λxs zd=>R xs zd Q):=rfl
@[simp] theorem z18 {T:zC}{Tl Th:qI}{env:zF}{st:z5}{Q:K3} :vSl T Tl Th env st Q=(T env st λx zd=>Tl env zd λl zi=>Th env zi λu Ab=>oW x l u Ab Q):=rfl
@[simp] theorem z0S {w0:zF}{st:z5}{Q:Option Int->z5->Prop} :zm1 w0 st Q=(Q none st):=rfl
@[simp] theorem z0Q {To Ti:zC}{v:PV}{env:zF}{st:z5}{Q:zF->z5->Prop} :gS To Ti v env st Q=(To env st λo zd=>Ti env zd λi zi=>jC o i v zi λAb=>Q env Ab):=rfl
@[simp] theorem z0Z {T:String}{R:PV->zP}{To:zC}{TA:yK}{env:zF}{st:z5}{Q:K3} :vBM T R To TA env st Q=(To env st λx zd=>rR x zd=T/\TA env zd λxs zi=>R x xs zi Q):=rfl
@[simp] theorem z1a {T:String}{R:PV->zP}{To:zC}{env:zF}{st:z5}{Q:K3} :zo0 T R To env st Q=(To env st λx zd=>rR x zd=T/\R x [] zd Q):=rfl
@[simp] theorem z1m {w0:zF}{st:z5}{Q:K3} :zo1 w0 st Q=(Q 5#2 (st++ [.dct []])):=rfl
@[simp] theorem z1c {D:xK}{env:zF}{st:z5} :zxD D env st=(D.bk env st):=rfl
@[simp] theorem z1l {D:xK}{env:zF}{st:z5} :zxG D env st=(D.ct env st):=rfl
@[simp] theorem z0U {x:PV}{y:PV}{st:z5}{Q:K3} :fX x y st Q=((zE x<=50/\zE y < 1000)/\Q (.bl (yB x y)) st):=rfl
@[simp] theorem z0V {x:PV}{y:PV}{st:z5}{Q:K3} :zfA x y st Q=((zE x<=50/\zE y < 1000)/\Q (.bl (!yB x y)) st):=rfl
@[simp] theorem z0P {i:Nat}{x:PV}{env:zF}{st:z5}{Q:zF->z5->Prop} :gN i x env st Q=(Q (env.set i (some x)) st):=rfl
@[simp] theorem z1x {w0:xK}{w1:zF}{w2:z5} :zo_ w0 w1 w2=(False):=rfl
@[simp] theorem z1p {I:tJ}{g:w4}{b:yS}{D:xK}{env:zF}{st:z5} :zo2 I g b D env st=(I env st λAd xs zd=>cU g b Ad xs D env zd):=rfl
@[simp] theorem z1i {own:Nat}{I:tJ}{g:w4}{tt:xE}{el:zC}{env:zF}{st:z5}{Q:K3} :cJ own I g tt el env st Q=(I env st λAd xs zd=>o9 own g tt el Ad xs (λys zi=>Q 0#17 zi) env zd):=rfl
@[simp] theorem z1j {own:Nat}{I:tJ}{g:w4}{tt:xE}{el:zC}{env:zF}{st:z5}{Q:K3} :zg1 own I g tt el env st Q=(I env st λAd xs zd=>o9 own g tt el Ad xs (λys zi=>Q (.obj zi.length) (zi++ [.lst ys])) env zd):=rfl
@[simp] theorem z1D {w0:zF}{st:z5}{Q:Bool->z5->Prop} :zoL w0 st Q=(Q true st):=rfl
@[simp] theorem z0W {N:List Str}{xs:List PV} :qC N xs=xs.map some++List.replicate (N.length - xs.length) none:=rfl
@[simp] theorem z0T {xs:List PV} :t6 xs=(xs.all yU&&Nat.ble xs.length 1000):=rfl
@[simp] theorem zyq {x:PV}{e:zF}{st:z5}{Q:K3} :uB 0 (some x::e) st Q=Q x st:=rfl
@[simp] theorem zyr {i:Nat}{x:Option PV}{e:zF}{st:z5}{Q:K3} :uB (i+1) (x::e) st Q=uB i e st Q:=rfl
@[simp] theorem zyl {α:Type}{x:α}{F:α->Prop} :wF (some x) F=F x:=rfl
section
variable {α β:Type} {x y z u v:α} {xs ys:List α} {f:α->β} {n i:Nat} {p:Prop} {b:Bool} {st:List α}
@[simp] theorem zyg:(x::xs).map f=f x::xs.map f:=rfl
@[simp] theorem zyh:([]:List α).map f= []:=rfl
@[simp] theorem zye:(x::xs).length=xs.length+1:=rfl
@[simp] theorem zyf:([]:List α).length=0:=rfl
@[simp] theorem zxW:(x::xs)++ys=x::(xs++ys):=rfl
@[simp] theorem zxX: []++ys=ys:=rfl
@[simp] theorem zym:List.replicate (n+1) x=x::List.replicate n x:=rfl
@[simp] theorem zyn:List.replicate 0 x= []:=rfl
@[simp] theorem zyo:(x::xs).set 0 y=y::xs:=rfl
@[simp] theorem zyp:(x::xs).set (n+1) y=x::xs.set n y:=rfl
@[simp] theorem zyc:(x::xs)[0]?=some x:=rfl
@[simp] theorem zyd:(x::xs)[n+1]?=xs[n]?:=rfl
@[simp] theorem zyj:(!true)=false:=rfl
@[simp] theorem zyi:(!false)=true:=rfl
@[simp] theorem zh9:(some x).isSome=true:=rfl
@[simp] theorem zyb:(some x).getD y=x:=rfl
@[simp] theorem zya:(none:Option α).getD y=y:=rfl
@[simp] theorem zxU {q:α->Bool} :(x::xs).all q=(q x&&xs.all q):=rfl
@[simp] theorem zxV {q:α->Bool} :([]:List α).all q=true:=rfl
@[simp] theorem zxY {m:Nat} :Nat.ble (n+1) (m+1)=Nat.ble n m:=rfl
end
section
variable {Q:K3} {st:z5} {x:PO} {xs:List PV} {kvs:List (z8×PV)} {i j:Int} {a b:Str} {p q:Bool} {l:List (Str×Int)}
@[simp] theorem zxZ {m:Nat} :xB m Q (qJ l) st=Q (qJ l) 2#11:=rfl
@[simp] theorem zyk:yU (qJ l)=true:=rfl
end
theorem cB:(∀{α:Type} {x:α} {xs:List α},atI (x::xs) 0=some x)/\(∀{α:Type} {x y:α} {xs:List α},atI (x::y::xs) 1=some y)/\(∀{α:Type} {x y z:α} {xs:List α},atI (x::y::z::xs) 2=some z)/\(∀{α:Type} {x y z u:α} {xs:List α},atI (x::y::z::u::xs) 3=some u)/\(∀{α:Type} {x y z u v:α} {xs:List α},atI (x::y::z::u::v::xs) 4=some v)/\
  (∀{n:Nat},wS (n+1) 0=some 0)/\(∀{n:Nat},wS (n+2) 1=some 1)/\(∀{p:Prop},(True/\p)=p)/\(∀{p:Prop},(p/\True)=p)/\(∀{q r:Prop},(if True then q else r)=q)/\(∀{q r:Prop},(if False then q else r)=r)/\((false=true)=False)/\(∀{p:Prop},(p∨True)=True)/\(∀{p:Prop},(True∨p)=True)/\(∀{p:Prop},(p/\p)=p)/\
  (∀{α:Type} {st:List α},st.take 4#10=st)/\(∀{α:Type} {st:List α},st.take st.length=st)/\(∀{α:Type} {st:List α} {i:Nat} {x:α},(st.set i x).take 4#10=st.set i x)/\(∀{α:Type} {st:List α} {i:Nat} {x:α},(st.set i x).take st.length=st.set i x)/\(∀{α:Type} {st:List α} {i:Nat} {x y:α},(st.set i x).set i y=st.set i y)/\
  (∀{α:Type} {st:List α} {i:Nat} {x:α},(st[i]?).isSome=true->(st.set i x)[i]?=some x)/\(∀{α:Type} {st:List α} {x:α},(st++ [x])[st.length]?=some x)/\(∀{α:Type} {st:List α} {x y:α},(st++ [x]).set st.length y=st++ [y])/\(∀{α:Type} {st:List α} {x:α},(st++ [x]).take 4#10=st)/\(∀{α:Type} {st:List α} {x:α},(st++ [x]).take st.length=st)/\(∀{α:Type} {st:List α} {x:α},(st++ [x]).take (st.length+1)=st++ [x])/\
  (∀{b:Bool},(b&&true)=b)/\(∀{b:Bool},(true&&b)=b)/\(∀{m:Nat},Nat.ble 0 m=true)/\(∀{m:Nat},(0<=m)=True)/\(∀{n:Nat},max n 0=n)/\(∀{n:Nat},max 0 n=n)/\(∀{h:Decidable True},@decide True h=true)/\(∀{h:Decidable False},@decide False h=false)/\
  (∀{Q:K3} {st:z5} {x:PO},xB (st.length+1) Q 5#2 (st++ [x])=Q 5#2 (st++ [x]))/\(∀{Q:K3} {st:z5} {xs:List PV},xB 4#10 Q 5#2 (st++ [.lst xs])=Q 9#3 st)/\(∀{Q:K3} {st:z5} {kvs:List 2#3},xB 4#10 Q 5#2 (st++ [.dct kvs])=Q 2#4 st)/\
  (∀{Q:K3} {st:z5} {xs:List PV},xB st.length Q 5#2 (st++ [.lst xs])=Q 9#3 st)/\(∀{Q:K3} {st:z5} {kvs:List 2#3},xB st.length Q 5#2 (st++ [.dct kvs])=Q 2#4 st):=
 ⟨at0,at1,at2,at3,at4,ix0,ix1,true_and _,and_true _,if_pos trivial,if_neg id,mw,or_true _,true_or _,and_self _,zon,du,cC,cC,set_set,zry,vQ,o5,zgp,zgp,zxs,sy _,Bool.true_and _,Nat.ble_eq_true_of_le (fv _),eq_true (fv _),Nat.max_zero _,Nat.zero_max _,3#0,3#0,zrf,gL,zij,gL,zij⟩
def cM:List (zC×zC)->zF->z5->(List (PV×PV)->z5->Prop)->Prop
 | [],_,st,Q=>Q [] st
 | (tk,tv)::r,env,st,Q=>tk env st λx zd=>tv env zd λy zi=>cM r env zi λps Ab=>Q ((x,y)::ps) Ab
abbrev PRs (K:Frag)(A:List ac)(H:Hp):List (PV×PV)->List (V×V)->Prop:=Paired λp q=>RE K A H p.1 q.1/\RE K A H p.2 q.2
theorem zmO {K:Frag} : ∀{trs:List (zC×zC)} {A:List ac} {env:zF} {st:z5} {σ:St} {H:Hp} {Q3:List (PV×PV)->z5->Prop} {Q:List (V×V)->Hp->Prop},yY K A H σ env st->cM trs env st Q3->
  (∀A' H' zl ps qs,zU A H A' H'->RS K A' H' zl->PRs K A' H' ps qs->Q3 ps zl->Q qs H')->cA (trs.map λp=>(zK K p.1,zK K p.2)) σ H Q
 | [],A,env,st,σ,H,Q3,Q,zg,h,k=>k A H st [] [] (.refl _ _) zg.rs .nil h
 | (tk,tv)::r,A,env,st,σ,H,Q3,Q,zg,h,k=>
  ⟨A,env,st,_,zg,h,λA1 H1 zd x v g1 s1 e1 h1=>⟨A1,env,zd,_,zg.grow g1 s1,h1,λA2 H2 zi y u g2 s2 e2 h2=>
   zmO (trs:=r) (zg.grow (g1.trans g2) s2) h2 λA3 H3 Ab ps qs g3 s3 e3 h3=>k A3 H3 Ab _ _ ((g1.trans g2).trans g3) s3 (.cons ⟨e1.grow (g2.trans g3),e2.grow g3⟩ e3) h3⟩⟩
theorem zrQ {k:z8} :vI (sA k)=some k:=by cases k <;> rfl
section
variable {X:Cx}
abbrev gA (K:Frag)(trs:List (zC×zC)):List (TE×TE):=trs.map λp=>(zK K p.1,zK K p.2)
theorem zvw {pos:fe} :pI X pos [] [] (gA X.K []):=zuP
theorem fT {pos:fe}{k v:Expr}{ks:List (Option Expr)}{vs:List Expr}{Tk Tv:zC}{trs:List (zC×zC)}(hk:PE X k (zK X.K Tk))(hv:PE X v (zK X.K Tv))(hr:pI X pos ks vs (gA X.K trs)):pI X pos (some k::ks) (v::vs) (gA X.K ((Tk,Tv)::trs)):=zuO hk hv hr
end
open PySem.SeqAt
section
variable {X:Cx} {o e:Expr} {es:List Expr} {Af zv:fe} {To:zC} {TA:yK} {id:String} {name:Str} {R:PV->zP}
def zeM:PV->Bool | .tup _=>true | _=>false
@[simp] theorem zzk {xs:List PV} :zeM 9#6=true:=rfl
def zxC (R:PV->zP)(To:zC)(TA:yK):zC:=λenv st Q=>To env st λx zd=>zeM x=true/\TA env zd λys zi=>R x ys zi Q
@[simp] theorem z1b {env:zF}{st:z5}{Q:K3} :zxC R To TA env st Q=To env st λx zd=>zeM x=true/\TA env zd λys zi=>R x ys zi Q:=rfl
end
def f8 (kvs:List 3#9)(k:List Int):Option Int:=(kvs.find? λkv=>decide (kv.1=k)).map (·.2)
def zne (kvs:List 3#9)(k:List Int)(v:Int):List 3#9:=
 if 4#5=true then kvs.map (λkv=>if kv.1=k then(kv.1,v)else kv)else kvs++ [(k,v)]
def zlK:PV->z5->Option (List 3#9)
 | .itb kvs,_=>some kvs
 | .obj i,st=>(match st[i]? with | some (.itb kvs)=>some kvs | _=>none)
 | _,_=>none
def zxH:zC:=λ_ st Q=>Q 5#2 (st++ [.itb []])
def zxI (Ta:zC)(TA:yK):zC:=λenv st Q=>Ta env st λx zd=>TA env zd λys zi=> ∃(k:List Int) (kvs:List 3#9) (v:Int),ys=k.map PV.int/\zlK x zi=some kvs/\k.length<=100/\f8 kvs k=some v/\Q (.int v) zi
def zxM (Td:zC)(TA:yK)(Tv:zC):yS:=λD env st=>Tv env st λv zd=>Td env zd λx zi=>TA env zi λys Ab=> ∃(k:List Int) (i:Nat) (kvs:List 3#9) (z:Int),ys=k.map PV.int/\v= .int z/\x= .obj i/\Ab[i]?=some (.itb kvs)/\k.length<=100/\kvs.length < ak/\D.nx env (Ab.set i (.itb (zne kvs k z)))
@[simp] theorem z1n {env:zF}{st:z5}{Q:K3} :zxH env st Q=Q 5#2 (st++ [.itb []]):=rfl
@[simp] theorem z1s {Ta:zC}{TA:yK}{env:zF}{st:z5}{Q:K3} :zxI Ta TA env st Q=(Ta env st λx zd=>TA env zd λys zi=> ∃(k:List Int) (kvs:List 3#9) (v:Int),ys=k.map PV.int/\zlK x zi=some kvs/\k.length<=100/\f8 kvs k=some v/\Q (.int v) zi):=rfl
@[simp] theorem z13 {Td:zC}{TA:yK}{Tv:zC}{D:xK}{env:zF}{st:z5} :zxM Td TA Tv D env st=(Tv env st λv zd=>Td env zd λx zi=>TA env zi λys Ab=> ∃(k:List Int) (i:Nat) (kvs:List 3#9) (z:Int),ys=k.map PV.int/\v= .int z/\x= .obj i/\Ab[i]?=some (.itb kvs)/\k.length<=100/\kvs.length < ak/\D.nx env (Ab.set i (.itb (zne kvs k z)))):=rfl
def zxE (good:o8->Prop)(i:Nat)(TA:yK):zC:=λenv st Q=> ∃D:o8,env[i]?=some (some (.clo D))/\good D/\TA env st λxs zd=> ∃(k:List Int) (v:Int),xs=k.map PV.int/\k.length=3/\f8 D.kvs k=some v/\Q (.int v) zd
@[simp] theorem z1g {good:o8->Prop}{i:Nat}{TA:yK}{env:zF}{st:z5}{Q:K3} :zxE good i TA env st Q= ∃D:o8,env[i]?=some (some (.clo D))/\good D/\TA env st λxs zd=> ∃(k:List Int) (v:Int),xs=k.map PV.int/\k.length=3/\f8 D.kvs k=some v/\Q (.int v) zd:=rfl
def zv7:R3:=λx y st Q=> ∃xs ys,rV x st=some xs/\rV y st=some ys/\xs.length+ys.length<=ak/\Q 5#2 (st++ [.lst (xs++ys)])
theorem ztf {X:Cx} :yJ X (binaryOp .Add) (xV X.K zv7):=uJ λzc s σ H A st x y v w vv ww Q3 Q I rs ex ey rv rw h k=>by
 obtain⟨xs,ys,e1,e2,hl,q⟩:=h;obtain⟨a,vs,rfl,h1,r1,z1⟩:=f9 rs ex e1;obtain⟨b,us,rfl,h2,r2,z2⟩:=f9 rs ey e2;rw[r1.len,r2.len]at hl;exact zmI zc s σ H _ _ vv ww Q I rv rw ⟨_,_,_,_,rfl,rfl,h1,h2,hl,k.lstO rs (r1.append r2) (by rw[am];exact hl) q⟩
end L3
namespace Sets
open PySem
def zp9 (xs:Array Nat):Prop:= ∀i j (hi:i < xs.size) (hj:j < xs.size),i < j->xs[i] < xs[j]
structure bB (led:Bool)(n:Nat)(t:SetTable):Prop where
 fits:t.fits n=true
 led:t.led=led
 rise:zp9 t.place
 dum:t.dummies= #[]
open PyProof.Rows
def zp_ (led:Bool)(a:ac)(es:Array (Int×aa))(h:cn):Prop:= ∃o ep t,h.get? a=some o/\o.ExactSet/\o.data= .set es ep t/\bB led es.size t
section
variable {prog:ce} {w:ci} {A:cw} {E:aa->ai->Prop} {s:ai}
abbrev zse (w:ci):Bool:= !w.params.followText "set-order"
end
inductive iZ {α β:Type}(R:α->β->Prop):List α->List β->Prop
 | nil:iZ R [] []
 | cons {a:α} {b:β} {l:List α} {m:List β} :R a b->iZ R l m->iZ R (a::l) (b::m)
def zpG {K:Type}[DecidableEq K](ds:List K)(k:K):List K:=if k∈ds then ds else ds++ [k]
def dd {K:Type}[DecidableEq K](ks:List K):List K:=ks.foldl zpG []
section
variable {prog:ce} {w:ci} {K:Type} [DecidableEq K] (knd:KeyKind prog w K)
def IsE (e:Int×aa)(k:K):Prop:=knd.is k e.2=true/\e.1=knd.hash k/\e.2.scannable=true
def zoY (es:Array (Int×aa))(ds:List K):Prop:= ∃ds':List K,ds'.Perm ds/\iZ (IsE knd) es.toList ds'
variable {knd}
end
section
variable {prog:ce} {w:ci} {A:cw} {E:aa->ai->Prop} {s:ai} {K:Type} [DecidableEq K] {knd:KeyKind prog w K}
def Holds (knd:KeyKind prog w K)(a:ac)(ds:List K)(h:cn):Prop:= ∃es,zp_ (zse w) a es h/\zoY knd es ds
end
end Sets
set_option maxHeartbeats 1000000
namespace L3
section
variable {α:Type} [DecidableEq α] {w U u l:List α} {A B a b:Nat}
structure zp1 (w:List α)(A B:Nat)(U:List α):Prop where
 ab:A<=B
 bn:B<=w.length
 an:A < w.length
 front: ∀x∈U,x∉w.take A
 back: ∀x∈U,x∉w.drop B
 hd: ∀x,U.head?=some x->w[A]?≠some x
 ne:U= []->A < B
 ls:A < B->∀x,U.getLast?=some x->w[B - 1]?≠some x
structure Dn (w:List α)(ds:List (Nat×Nat×List α)):Prop where
 nd:w.Nodup
 hull: ∀(i:Nat) (c:Nat×Nat×List α),ds[i]?=some c->zp1 w c.1 c.2.1 c.2.2/\∀x∈c.2.2,x∉w
 apart: ∀(i j:Nat) (c d:Nat×Nat×List α),i < j->ds[i]?=some c->ds[j]?=some d->c.2.1<=d.1/\c.1 < d.1
variable {ds:List (Nat×Nat×List α)} {h k:Nat} {x:List α} {n:Nat}
end
set_option maxHeartbeats 4000000
open PySem PySem.Spec PyProof.Rows L2
section
variable {X:Cx}
def zfE:PV->zP:=λx xs st Q=> ∃(i k:Nat) (y:PV) (zs:List PV),x= .obj i/\xs= [.int (k:Nat)]/\st[i]?=some (.lst zs)/\zs[k]?=some y/\Q y (st.set i (.lst (zs.eraseIdx k)))
theorem RVs.erase {K:Frag}{A:List ac}{H:Hp} : ∀{xs:List PV} {vs:List V} (n:Nat),RVs K A H xs vs->RVs K A H (xs.eraseIdx n) (vs.eraseIdx n)
 | _,_,_,.nil=> .nil
 | _,_,0,.cons r t=>t
 | _,_,n+1,.cons r t=> .cons r (RVs.erase n t)
theorem zm6:tX X "list.pop" (qM X.K zfE):=by
 intro zc s σ H v vs vv us Q I rv rvs ⟨A,st,x,xs,Q3,rs,ex,exs,h,k⟩;obtain⟨i,n,y,zs,rfl,rfl,q,hy,h⟩:=h;obtain⟨w,rfl,e1⟩:=yT.one exs;cases xO e1;cases ex with
 | val e=>cases e
 | obj eo=>
  have hm:=dh eo;obtain⟨ws,h1,r,z⟩:=rs.at_ _ _ _ eo q;obtain⟨u,hu,ru⟩:=r.get hy;have Au:n < ws.length:=(ah.mp hu).1;have hi:((n:Nat):Int) < 2 ^ 63:=Int.lt_of_lt_of_le (Int.ofNat_lt.mpr (bp Au z)) 2#0;refine zsG zc s σ H _ _ vv us Q I rv rvs ⟨_,ws,(n:Int),n,u,rfl,rfl,h1,Int.le_trans (by decide: -(2:Int) ^ 63<=0) (ya n),hi,PySem.StrLaws.seqIndex_nonneg (ya n) (Int.ofNat_lt.mpr Au),hu,k A _ _ _ _ 9#10 (rs.put (q:= .lst (zs.eraseIdx n)) eo ⟨_,yM,(r.erase n).grow 9#10,?_⟩) (.val (ru.grow 9#10)) h⟩;exact bh (mo ..) z
end
set_option maxHeartbeats 4000000
set_option maxHeartbeats 4000000
def oI (m:Nat)(y:PV):Option PV->Option PV
 | some (.obj i)=>if i=m then some y else some (.obj i)
 | o=>o
def gR (m:Nat)(y:PV)(env:zF):zF:=env.map (oI m y)
section
variable {K:Frag} {A:List ac} {H:Hp} {σ:St} {env:zF} {st0:z5} {xs:List PV}
theorem yY.freeze (r:yY K A H σ env (st0++ [.lst xs])):yY K (A.take st0.length) H σ (gR st0.length 9#3 env) st0:=by
 have s:=r.rs.take st0.length;have et:(st0++ [PO.lst xs]).take st0.length=st0:=by rw[ki (ar _),du]
 rw[et]at s;refine⟨s,by unfold gR;rw[ae];exact r.len,λi x e=> ?_⟩;unfold gR at e;rw[br]at e;cases e1:env[i]? with
 | none=>rw[e1]at e;cases e
 | some o=>
  rw[e1]at e;have e2:oI st0.length 9#3 o=some x:=cf e;cases o with
  | none=>cases e2
  | some y=>
   obtain⟨v,ev,re⟩:=r.at_ i y e1;refine⟨v,ev,?_⟩;cases re with
   | val rv=>
    have:y=x:=by
     cases y with
     | obj j=>cases rv
     | _=>exact cf e2
    rw[<- this];exact .val (rv.less mL)
   | obj eo=>
    rename_i j a;unfold oI at e2;dsimp only at e2;by_cases hj:j=st0.length
    ·rw[if_pos hj]at e2
     cases e2;subst hj;obtain⟨vs,h1,rr,z⟩:=r.rs.at_ _ _ _ eo (by simp:(st0++ [PO.lst xs])[st0.length]?=some 9#3);refine .val (.lst (.inl ⟨.inl h1,λhm'=> ?_⟩) z (rr.less mL));obtain⟨k,hk,ek⟩:=qy hm';rw[cz]at hk;have e3:A[k]?=some a:=by rw[<- gc (show k < st0.length by grobner),bz (by rw[cz];grobner),ek]
     have:=(dg (ah.mp e3).1 r.rs.nd).mp (e3.trans eo.symm);grobner
    ·rw[if_neg hj]at e2
     cases e2;have hl:=r.rs.len;have Au:=(ah.mp eo).1;rw[am,cr]at hl;exact .obj (by rw[gc 0#0];exact eo)
end
section
variable {X:Cx} {a b:cu} {rst:List cu} {Ts Tu Tw:yS}
def zo3 (T:yS):yS:=λD env st=>T {D with nx:=λzq zl=> ∃st0 xs,zl=st0++ [.lst xs]/\st.length<=st0.length/\D.nx (gR st0.length 9#3 zq) st0} env st
theorem zv1 (h1:PS X a (yZ X.K Ts))(h2:PS X b (yZ X.K Tu))(h3:xC X rst (yZ X.K Tw)):xC X (a::b::rst) (yZ X.K (uP (zo3 (uP Ts Tu)) Tw)):=
 fO (oS h1 (oS h2 h3)) λD σ H ⟨A,env,st,D3,zg,h,k⟩=>⟨A,env,st,_,zg,h,λA1 H1 σ1 env1 zd g1 r1 h1=>⟨A1,env1,zd,_,r1,h1,λA2 H2 σ2 env2 zi g2 r2 h2=>by
  obtain⟨st0,xs,rfl,hl,h2⟩:=h2;exact⟨_,_,st0,D3,r2.freeze,h2,k.after ((g1.trans g2).take (by rw[zg.rs.len];exact hl))⟩,k.rt.after g1,(k.after g1).bk,(k.after g1).ct⟩,k.rt,k.bk,k.ct⟩
end
set_option maxHeartbeats 4000000
section
variable {K:Frag} {A B:List ac} {H H':Hp}
theorem xS.val {a:ac}{k:z8}{x:PV} : ∀{kvs:List 2#3} {us:List (z8×V)},xS K A H a kvs us->zH kvs k=some x->∃v,vF us k=some v/\RE K A H x v
 | _,_,.nil,h=>by cases h
 | (k',x')::ps,(k2,v')::qs,.cons r t,h=>by
  have ek:k'=k2:=r.1;have rx:RR K A H a x' v':=r.2;subst ek;by_cases e:k'=k
  ·have e1:zH ((k',x')::ps) k=some x':=by unfold zH;rw[db,decide_eq_true e];rfl
   rw[e1]at h;cases h;refine⟨v',iC e,?_⟩;cases rx with
   | val r=>exact .val r
   | obj _ _ e=>exact .obj e
  ·have e1:zH ((k',x')::ps) k=zH ps k:=by unfold zH;rw[db,decide_eq_false e]
   rw[e1]at h;obtain⟨v,e2,r2⟩:=xS.val t h;exact⟨v,(iB (p:=(k',v')) e).trans e2,r2⟩
theorem zU.perm {C C':List ac}(g:zU A H (A++C) H')(h: ∀b,b∈C'->b∈C):zU A H (A++C') H':=by
 obtain⟨⟨D,e,hD⟩,k,l⟩:=g;have:=vb e;subst this;exact⟨⟨C',rfl,λb m=>hD b (h b m)⟩,k,l⟩
theorem RS.rot {p:ac}{st tl:z5}{o:PO}(hl:A.length=st.length)(s:RS K (A++p::B) H (st++o::tl))(hn: ∀x∈tl,∀kvs ys,x≠PO.rcd kvs/\x≠PO.ros ys):RS K (A++9#18) H (st++(tl++ [o])):=by
 have hm: ∀b,b∈A++9#18->b∈A++p::B:=λb h=>by
  simp only[aq,bo,mi,or_false]at h⊢
  rcases h with h | h | h <;> simp[h]
 have zu:=s.len;rw[am,am,bv,bv]at zu;have hlB:B.length=tl.length:=0#0
 refine⟨?_,by simp only[am,bv,jm];grobner,λi a u h1 h2=> ?_⟩
 ·have hp:(A++9#18).Perm (A++p::B):=ii A (lr p B)
  exact hp.nodup_iff.mpr s.nd
 ·by_cases hi:i < A.length
  ·rw[bw hi]at h1
   rw[bw 0#0]at h2;have h1':(A++p::B)[i]?=some a:=by rw[bw hi];exact h1
   refine(s.at_ i a u h1' (by rw[bw 0#0];exact h2)).less hm λi' j q e l e'=> ?_;have hii:i'=i:=(dg (ah.mp e).1 s.nd).mp (e.trans h1'.symm);subst hii;refine⟨i',by rw[bw hi];exact h1,l,?_⟩;rw[bw 0#0]at e'⊢
   exact e'
  ·rw[ba 0#0]at h1
   rw[ba 0#0]at h2;by_cases hj:i < A.length+B.length
   ·rw[bw 0#0]at h1
    rw[bw 0#0]at h2;have hu:=hn u (dh h2);have h1':(A++p::B)[i+1]?=some a:=by rw[ba 0#0,show i+1 - A.length=(i - A.length)+1 by grobner,mq];exact h1
    have h2':(st++o::tl)[i+1]?=some u:=by rw[ba 0#0,show i+1 - st.length=(i - st.length)+1 by grobner,mq];exact h2
    have oa:=s.at_ _ _ _ h1' h2';cases u with
    | lst xs=>obtain⟨vs,e,r,z⟩:=oa;exact⟨vs,e,r.less hm,z⟩
    | dct xs=>obtain⟨vs,e,r,z⟩:=oa;exact⟨vs,e,r.less hm,z⟩
    | tbl T pos q=>obtain⟨ea,ps,e,r⟩:=oa;exact⟨ea,ps,e,r.imp id λ⟨c',e1,e2,e3⟩=>⟨c',e1,e2,λm=>e3 (hm _ m)⟩⟩
    | itb kvs=>exact oa
    | rcd xs=>exact absurd rfl (hu xs []).1
    | ros xs=>exact absurd rfl (hu [] xs).2
    | fd ob xs=>obtain⟨vs,e,r,z⟩:=oa;exact⟨vs,e,r.less hm,z⟩
   ·rw[ba 0#0]at h1
    rw[ba 0#0]at h2;have hz:i - A.length - B.length=0:=by
     have:=(ah.mp h1).1;rw[cr]at this;grobner
    rw[hz]at h1;rw[show i - st.length - tl.length=0 by grobner]at h2;obtain rfl:p=a:=cf h1;obtain rfl:o=u:=cf h2;have h1':(A++p::B)[A.length]?=some p:=by rw[ba (ar _),ig];rfl
    refine(s.at_ A.length p o h1' (by rw[hl,ba (ar _),ig];rfl)).less hm λi' j q e l e'=> ?_;have hii:i'=A.length:=(dg (ah.mp e).1 s.nd).mp (e.trans h1'.symm);subst hii;refine⟨A.length+B.length,by rw[ba 0#0,ba 0#0,show A.length+B.length - A.length - B.length=0 by grobner];rfl,0#0,?_⟩;rw[bw 0#0]at e'⊢
    exact e'
end
section
variable {X:Cx} {a b e:Expr} {es:List Expr} {pos p2:fe} {Ta Tb:zC} {TA:yK}
def fZ:R3:=λx y st Q=>match x with
 | .obj n=>(match y with
  | .str k=>(match st[n]? with | some (.rcd kvs)=>(match zH kvs (.inr k)with | some z=>Q z st | none=>False) | _=>False)
  | _=>False)
 | _=>False
theorem uI {k:Nat}(hr:zI k X.A):qH X (xV X.K fZ):=by
 intro value slice zc s σ H v w vv ww Q I rv rw ⟨A,st,x,y,Q3,rs,ex,ey,h,k⟩ hs;unfold fZ at h
 split at h
 ·split at h
  ·rename_i n y' kk
   split at h
   ·rename_i kvs q
    split at h
    ·rename_i z e
     cases ex with
     | val ex=>cases ex
     | obj eo=>
      obtain⟨us,h1,r,hzz⟩:=rs.at_ _ _ _ eo q;obtain⟨v',e2,r'⟩:=xS.val r e;exact zeR hr value slice zc s σ H _ _ vv ww Q I rv rw ⟨_,v',rfl,.inl ⟨_,.inr kk,.inl h1,sX ey rfl,e2.symm⟩,k.now rs r' h⟩ hs
    ·exact h.elim
   ·exact h.elim
  ·exact h.elim
 ·exact h.elim
@[simp] theorem v0 {n:Nat}{x:Str}{st:z5}{Q:K3} :fZ (.obj n) (.str x) st Q=(match st[n]? with | some (.rcd kvs)=>(match zH kvs (.inr x)with | some z=>Q z st | none=>False) | _=>False):=rfl
def zfG:V->V->V->Hp->(Hp->Prop)->Prop:=λo i v H Q=> ∃a us k,o= .ref a/\i=kV k/\H a=some (.dK us)/\us.length < ak/\Q (upd H a (.dK (wU us k v)))
theorem znB {k:Nat}(hr:zI k X.A):iT X zfG:=by
 intro zc s σ H o i v ov iv u Q I ro ri rv ⟨a,us,kk,eo,ei,h1,hl,q⟩;subst eo ei;cases ro;exact zhT (by have:=hr.units;grobner) I (.inl ⟨us,kk,h1,rfl,hl,rfl⟩) ri rv λs' I'=>⟨_,I',q⟩
theorem zf0 {us:List (z8×V)}{k:z8}{v:V}(h:k∉us.map (·.1)):wU us k v=us++ [(k,v)]:=by
 unfold wU;rw[if_neg];intro z;obtain⟨p,hp,e⟩:=pw.mp z;exact h (cb.mpr ⟨p,hp,of_decide_eq_true e⟩)
theorem zmo: ∀{us Ac:List (z8×V)},(us.map (·.1)).Nodup->(∀p∈us,p.1∉Ac.map (·.1))->uH Ac us=Ac++us
 | [],Ac,_,_=>(da _).symm
 | p::us,Ac,hn,hd=>by
  rw[av,fg]at hn;show uH (wU Ac p.1 p.2) us=_;rw[zf0 (hd p (aw ..)),zmo hn.2 λq hq=> ?_]
  ·simp
  ·rw[bb,aq]
   rintro(h | h)
   ·exact hd q (bf _ hq) h
   ·rw[av,jf,ao]at h
    exact hn.1 (h▸cg hq)
def rA (n:Nat):PV->PV
 | .obj j=>if j < n then .obj j else .obj (j - 1)
 | x=>x
theorem zny {K:Frag}{A B:List ac}{H:Hp}{p:ac} : ∀{kvs:List 2#3} {qs:List (V×V)},(A++9#18).Nodup->PRs K (A++p::B) H (kvs.map λkv=>(sA kv.1,kv.2)) qs->(∀q∈kvs,q.2≠ .obj A.length)->
  ∃us:List (z8×V),qs=us.map (λkv=>(kV kv.1,kv.2))/\us.map (·.1)=kvs.map (·.1)/\xS K (A++9#18) H p 2#5 us
 | [],qs,_,h,_=>by cases h;exact⟨[],rfl,rfl,.nil⟩
 | kv::kvs,qs,hd,h,hn=>by
  have hm: ∀b,b∈A++9#18->b∈A++p::B:=λb h=>by
   simp only[aq,bo,mi,or_false]at h⊢
   rcases h with h | h | h <;> simp[h]
  cases h with
  | @cons _ b _ _ r t=>
   obtain⟨us,rfl,ek,rk⟩:=zny hd t λq hq=>hn q (bf _ hq);obtain⟨q1,q2⟩:=b;have e1:q1=kV kv.1:=sX r.1 zrQ;subst e1;refine⟨(kv.1,q2)::us,rfl,by rw[av,av,ek],.cons ⟨rfl,?_⟩ rk⟩;have h0:=hn kv (aw ..);obtain⟨k0,x0⟩:=kv;have r2:=r.2;dsimp only at r2 h0⊢
   have ip:(A++9#18)[A.length+B.length]?=some p:=by rw[ba 0#0,ba 0#0,show A.length+B.length - A.length - B.length=0 by grobner];rfl
   cases r2 with
   | val rv=>
    have:rA A.length x0=x0:=by
     cases x0 with
     | obj j=>cases rv
     | _=>rfl
    rw[this];exact .val (rv.less hm)
   | obj eo=>
    rename_i j q;have hjA:j≠A.length:=λz=>h0 (by rw[z]);unfold rA;dsimp only
    split
    ·rename_i hj
     refine .obj ip 0#0 ?_;rw[bw hj]at eo⊢
     exact eo
    ·rename_i hj
     have hb:=(ah.mp eo).1;rw[am,bv]at hb;refine .obj ip 0#0 ?_;rw[ba 0#0,show j - A.length=(j - 1 - A.length)+1 by grobner,mq]at eo;rw[ba 0#0,bw 0#0];exact eo
theorem xS.append {K:Frag}{A:List ac}{H:Hp}{a:ac} : ∀{x y:List 2#3} {c d:List (z8×V)},xS K A H a x c->xS K A H a y d->xS K A H a (x++y) (c++d)
 | _,_,_,_,.nil,h=>h
 | _,_,_,_,.cons r t,h=> .cons r (xS.append t h)
def zol (K:Frag)(i:Nat)(k5 k6:Str):TS:=nB (zgn (sI zgk (sI zgk lM))) (zlz K 2 (zeE (zeF (pD i) (tC (.str k5)) zfG) (zeE (zeF (pD i) (tC (.str k6)) zfG) zly)))
def mV (n:Nat)(k5 k6:Str)(kvs:List 2#3)(m:Nat):List 2#3:=kvs.map (λq=>(q.1,rA n q.2))++ [(.inr k5,.obj m),(.inr k6,.obj (m+1))]
def zg4 (i:Nat)(k5 k6:Str)(trs:List (zC×zC)):yS:=λD env st=>cM trs env (st++ [.dct []]) λps zi=> ∃(kvs:List 2#3) (tl:z5),ps=kvs.map (λkv=>(sA kv.1,kv.2))/\kvs.length<=13/\zi=st++ .dct []::tl/\
 (∀x∈tl,∀kvs ys,x≠PO.rcd kvs/\x≠PO.ros ys)/\(∀q∈kvs,q.2≠ .obj st.length)/\((kvs.map λ(q:z8×PV)=>q.1)++ [Sum.inr k5,Sum.inr k6]).Nodup/\i < env.length/\
 D.nx (env.set i (some (.obj (st.length+tl.length+2)))) (st++(tl++ [.dct [],.dct [],.rcd (mV st.length k5 k6 kvs (st.length+tl.length))]))
theorem zv2 {i:Nat}{x:Str}{k5 k6:Str}{pos' dpos:fe}{keys:List (Option Expr)}{values:List Expr}{trs:List (zC×zC)}{s2:cu}{rst:List cu}{Tw:yS}(hN:X.N.Nodup)(hi:X.N[i]?=some x)(hx:tW X.env.scope x)
  (h:pI X dpos keys values (gA X.K trs)) (Ar:keys.all (·.isSome)=true) (hl:keys.length=values.length) (h0:keys≠ []) (h15:keys.length<=15) (h2:PS X s2 (zol X.K i k5 k6)) (h3:xC X rst (yZ X.K Tw))
  (hs:swapsWith (.Dict keys values dpos) 4#12 pos.line X.env=pure false:=by rfl) (hf:X.fn x=true∨X.env.scope.names.lookup x=some .local:=by first | exact .inl rfl | exact .inr rfl | assumption):
  xC X (.Assign [.Name x pos'] (.Dict keys values dpos) pos::s2::rst) (yZ X.K (uP (zg4 i k5 k6 trs) Tw)):=by
 refine fO (oS (fN hN hi hx (zur h Ar hl h0 h15) hs hf) (oS h2 h3)) λD σ H ⟨A,env,st,D3,zg,hT,k⟩=> ?_;intro p hp;have hT':=hT;unfold uP zg4 at hT';have g0:zU A H (A++ [p]) (upd H p (.dK [])):= .newObj hp;have rs1:RS X.K (A++ [p]) (upd H p (.dK [])) (st++ [.dct []]):=zg.rs.newObj (q:= .dct []) hp ⟨[],yM,.nil,fv _⟩;refine zmO (zg.grow g0 rs1) hT' λA2 H2 zi ps qs g s2 e hQ=> ?_;obtain⟨kvs,tl,rfl,h13,rfl,hno,Ao,hnd,hie,q⟩:=hQ;have hAl:=zg.rs.len;obtain⟨B,eA,hB⟩:=g.ext;rw[bi,wc]at eA;subst eA;have g2:zU A H (A++p::B) H2:=g0.trans g;have s3:=s2.rot hAl hno;rw[<- hAl]at Ao;obtain⟨us,rfl,ek,rr⟩:=zny s3.nd e Ao;have hpA:(A++p::B)[A.length]?=some p:=by rw[ba (ar _),ig];rfl
 obtain⟨us0,e0,r0,_⟩:=s2.at_ _ _ _ hpA (by rw[hAl,ba (ar _),ig];rfl);cases r0;have hul:us.length=kvs.length:=by rw[<- ae (f:=(·.1)),ek,ae]
 refine⟨e0,us,rfl,0#0,?_⟩;have hnd':=bj.mp hnd;have hm0:uH [] us=us:=by rw[zmo (by rw[ek];exact hnd'.1) (λ_ _ z=>by simp at z)];rfl
 rw[hm0];have g3:zU A H (A++9#18) H2:=g2.perm λb hb=>by
  simp only[aq,bo,mi,or_false]at hb⊢
  rcases hb with hb | hb <;> simp[hb]
 have hp3:(A++9#18)[A.length+B.length]?=some p:=by rw[ba 0#0,ba 0#0,show A.length+B.length - A.length - B.length=0 by grobner];rfl
 have mp:p∈A++9#18:=dh hp3;have hlB:B.length=tl.length:=by
  have:=s2.len;rw[am,am,bv,bv]at this;grobner
 have gp:zU (A++9#18) H2 (A++9#18) 2#14:= .put mp;have s4:RS X.K (A++9#18) 2#14 (st++(tl++ [.rcd 2#5])):=by
  have:=s3.put (o:= .dK us) (q:= .rcd 2#5) hp3 ⟨us,yM,xS.grow gp rr,by rw[di];grobner⟩;rw[gm _ _ 0#0,gm _ _ 0#0,show A.length+B.length - st.length - tl.length=0 by grobner]at this;exact this
 show zol X.K i k5 k6 _ (σ.set i (some 3#13)) 2#14;intro p3 hp3n p4 hp4n;refine⟨by show 2<=ak;decide,λp5 hp5n=>⟨p5,[.ref p3,.ref p4],rfl,.inl (.inl yM),rfl,?_⟩⟩;have hσ:(σ.set i (some (V.ref p)))[i]?=some (some 3#13):=by
  rw[dv (by rw[<- zg.len];exact hie)]
 have g5:zU (A++9#18) 2#14 (A++9#18++ [p3]) (upd 2#14 p3 (.dK [])):= .newObj hp3n;have s5:=s4.newObj (p:=p3) (o:= .dK []) (q:= .dct []) hp3n ⟨[],yM,.nil,fv _⟩;have s6:=s5.newObj (p:=p4) (o:= .dK []) (q:= .dct []) hp4n ⟨[],yM,.nil,fv _⟩;have g6:=g5.trans (.newObj (o:= .dK []) hp4n);have s7:=s6.new (o:= .tup [.ref p3,.ref p4]) hp5n;have g7:=g6.trans (.new (o:= .tup [.ref p3,.ref p4]) hp5n);have hpp3:p≠p3:=λz=>by rw[<- z,yM]at hp3n;cases hp3n
 have hpp4:p≠p4:=λz=>by rw[<- z,yD hpp3,yM]at hp4n;cases hp4n
 have hpp5:p≠p5:=λz=>by rw[<- z,yD hpp4,yD hpp3,yM]at hp5n;cases hp5n
 have eA':A++9#18++ [p3]++ [p4]=(A++B)++p:: [p3,p4]:=3#0
 have eS':st++(tl++ [PO.rcd 2#5])++ [PO.dct []]++ [PO.dct []]=(st++tl)++PO.rcd 2#5:: [.dct [],.dct []]:=3#0
 rw[eA',eS']at s7;have s8:=s7.rot (by rw[am,am];grobner) (by intro x hx kvs ys;constructor <;> (intro z;subst z;simp at hx));rw[eA']at g7;have gAll:zU A H (A++(B++p:: [p3,p4])) (upd (upd (upd 2#14 p3 (.dK [])) p4 (.dK [])) p5 (.tup [.ref p3,.ref p4])):=by
  have:=(g3.trans gp).trans g7;rw[bi]at this;exact this
 have g8:zU A H (A++(B++([p3,p4]++ [p]))) (upd (upd (upd 2#14 p3 (.dK [])) p4 (.dK [])) p5 (.tup [.ref p3,.ref p4])):=gAll.perm λb hb=>by
  simp only[aq,bo,mi,or_false]at hb⊢
  rcases hb with hb | (hb | hb) | hb <;> simp[hb]
 rw[<- bi]at g8;have Ai:(A++B++([p3,p4]++ [p]))[A.length+B.length+2]?=some p:=by
  rw[ba (by rw[am];grobner),am,show A.length+B.length+2 - 3#14=2 by grobner];rfl
 obtain⟨us8,e8,r8,_⟩:=s8.at_ _ _ _ Ai (by rw[ba (by rw[am];grobner),am,show A.length+B.length+2 - (st.length+tl.length)=2 by grobner];rfl);have e9:us8=us:=by
  rw[yD hpp5,yD hpp4,yD hpp3,yM]at e8;cases e8;rfl
 subst e9;have k1:(Sum.inr k5:z8)∉us8.map (·.1):=by
  rw[ek];intro z;exact hnd'.2.2 _ z _ 3#0 rfl
 have hk56:(Sum.inr k5:z8)≠ .inr k6:=by
  have:=hnd'.2.1;simp at this;intro z;cases z;exact this rfl
 have k2:(Sum.inr k6:z8)∉(us8++ [2#15]).map (λ(q:z8×V)=>q.1):=by
  rw[bb,aq,ek];rintro(z | z)
  ·exact hnd'.2.2 _ z _ 3#0 rfl
  ·simp only[av,jf,ao]at z
   exact hk56 z.symm
 refine⟨.ref p3,[.ref p4],rfl,.ref p,hσ,p,us8,.inr k5,rfl,rfl,e8,by rw[di];grobner,?_⟩;rw[zf0 k1];refine⟨.ref p4,[],rfl,.ref p,hσ,p,_,.inr k6,rfl,rfl,yM,by rw[di,am,cr];grobner,?_⟩;rw[zf0 k2];refine⟨rfl,?_⟩;have m8:p∈A++B++([p3,p4]++ [p]):=dh Ai;have g9:=(zU.put (H:=upd (upd (upd (upd H2 p (.dK us8)) p3 (.dK [])) p4 (.dK [])) p5 (.tup [.ref p3,.ref p4])) (o:=HO.dK (us8++ [2#15])) m8).trans (zU.put (o:=HO.dK (us8++ [2#15]++ [(Sum.inr k6,V.ref p4)])) m8);have a3:(A++B++([p3,p4]++ [p]))[A.length+B.length]?=some p3:=by
  rw[ba (by rw[am];grobner),am,ig];rfl
 have a4:(A++B++([p3,p4]++ [p]))[A.length+B.length+1]?=some p4:=by
  rw[ba (by rw[am];grobner),am,show A.length+B.length+1 - 3#14=1 by grobner];rfl
 have r9:=xS.append (xS.append (xS.grow g9 r8) (y:= [(Sum.inr k5,.obj 3#14)]) (d:= [2#15]) (.cons ⟨rfl,.obj Ai 0#0 a3⟩ .nil)) (y:= [(Sum.inr k6,.obj (A.length+B.length+1))]) (d:= [(Sum.inr k6,V.ref p4)]) (.cons ⟨rfl,.obj Ai 0#0 a4⟩ .nil);have s9:=s8.put (q:= .rcd ((kvs.map λ(q:z8×PV)=>(q.1,rA A.length q.2))++ [(Sum.inr k5,.obj 3#14)])) Ai (o:=HO.dK (us8++ [2#15])) ⟨_,yM,xS.append (xS.grow (.put m8) r8) (.cons ⟨rfl,.obj Ai 0#0 a3⟩ .nil),by rw[di,am,cr];grobner⟩;have s10:=s9.put (q:= .rcd (mV A.length k5 k6 kvs 3#14)) Ai (o:=HO.dK (us8++ [2#15]++ [(Sum.inr k6,V.ref p4)])) ⟨_,yM,by
  have:=r9;rw[bi (kvs.map _)]at this;exact this,by rw[di,am,am,cr,cr];grobner⟩
 have g10:=g8.trans g9;have eFin:(((st++tl)++([PO.dct [],.dct []]++ [PO.rcd 2#5])).set (A.length+B.length+2) (.rcd (2#5++ [(Sum.inr k5,.obj 3#14)]))).set (A.length+B.length+2) (.rcd (mV A.length k5 k6 kvs 3#14))=st++(tl++ [.dct [],.dct [],.rcd (mV st.length k5 k6 kvs (st.length+tl.length))]):=by
  rw[List.set_set,gm _ _ (by rw[am];grobner),am,show A.length+B.length+2 - (st.length+tl.length)=2 by grobner,bi,hAl,hlB];rfl
 rw[eFin]at s10;have hrel:=(zg.grow g10 s10).set i (x:= .obj (st.length+tl.length+2)) (v:= .ref p) (.obj (by rw[<- hAl,<- hlB];exact Ai));exact⟨_,_,_,D3,hrel,q,k.after g10⟩
end
set_option maxHeartbeats 4000000
namespace LR
theorem no_len:typeLookup (.type "list_reverseiterator") "__len__" =pure none:=by rw[ik,fm];kernel_rfl
theorem hint_at:typeLookup (.type "list_reverseiterator") 67#1 =pure (some (.builtin "list_reverseiterator.__length_hint__")):=by rw[ik,fm];kernel_rfl
end LR
section
variable {prog:ce} {w:ci} {A:cw} {E:aa->ai->Prop} {s:ai}
theorem zr4 {I l:ac}{i:Int}{Q:Bool->ai->Prop}(Ae:s.heap.IsRevIter I l i)(h:Q false s):ay 9#2 A (Builtin.List.listLengthHint (.ref I)) Q E s:=by
 have hT:=Ae.typeIs;unfold Builtin.List.listLengthHint;refine ad (ja hT LR.no_len ?_);show ay _ A (specialOf (Value.ref I) (Str.ofString 67#1) >>= _) _ _ _;refine ad (ja hT LR.hint_at ?_)
 (generalize hid:("list_reverseiterator.__length_hint__" :String)=id0;(fail_if_success (clear hid id0));wp_delta;rw[show splitId id0=some ("list_reverseiterator",67#1)from by subst hid;decide+kernel];subst hid)
 refine ad (mf (b:=true) hT (by rw[jw];kernel_rfl) ?_);refine qp (λhab=>absurd hab 2#0) (λ_=> ?_);refine qp (λ_=> ?_) (λhab=>absurd 1#0 hab);refine qp (λhab=>absurd hab 1#0) (λ_=> ?_);exact az h
abbrev zhl (items:Array aa):Nat->aa->Prop:=λi v=>items[items.size - 1 - i]?=some v
theorem zhC {T:String}{n:Nat}{It:Nat->aa->Prop}{St:Nat->cn->Prop}{Q:aa->ai->Prop}{I l:ac}(W:Walks prog w A.in1.in1 I [I,l] [I] n It St)(st:St 0 s.heap)(hn:n<=ak)(hIl:I < s.heap.objs.size)(AB:l < s.heap.objs.size)
  (hT: ∀s:ai,St 0 s.heap->s.TypeIs (.ref I) T) (t1:(Value.type T==Value.type 14#1)=false) (t2:(Value.type T==Value.type 18#1)=false) (hi: ∀{s:ai} {Q:aa->ai->Prop} {E:aa->ai->Prop},St 0 s.heap->Q (.ref I) s->ay 9#2 A.in1.in1 (pyIter (.ref I)) Q E s)
  (hl: ∀{s:ai} {Q:Bool->ai->Prop} {E:aa->ai->Prop},St 0 s.heap->(∀b tk,Q b {s with toks:=tk})->ay 9#2 A.in1.in1 (Builtin.List.listLengthHint (.ref I)) Q E s)
  (hQ: ∀h' tk acc' c',(∀b o,b≠I->s.heap.get? b=some o->h'.get? b=some o)->h'.get? s.heap.objs.size=some {cls:= .type 14#1,dict:=none,data:= .seq acc' c',slots:= #[]} ->ItemsOf It acc' n->Q 4#6 {s with heap:=h',toks:=tk}):
  ay 9#2 A (call (.type 14#1) [.ref I]) Q E s:=by
 refine rg (Q₁:=λobj s₁=>obj= .ref s.heap.objs.size/\s₁= {s with heap:=s.heap.push {cls:= .type 14#1,data:= .seq #[]}}) PySem.F.called_list (PySem.F.typeCall_list_1 _) PySem.F.entry_list_init
  (code_list_new _ ⟨rfl,rfl⟩) λobj s₁ h₁=> ?_
 obtain⟨rfl,rfl⟩:=h₁;have kp: ∀b o,s.heap.get? b=some o->(s.heap.push {cls:= .type 14#1,data:= .seq #[]}).get? b=some o:=λb o e=>ap _ e;generalize hS':s.heap.objs.size=S at *;have nS: ∀b o,s.heap.get? b=some o->b≠S:=λb o e=>by rw[<- hS'];exact bt (be e)
 have hS:(s.heap.push {cls:= .type 14#1,data:= .seq #[]}).get? S=some {cls:= .type 14#1,data:= .seq #[]} :=by rw[<- hS'];exact cm _ rfl
 refine⟨⟨_,hS,rfl⟩,PySem.F.args_list_init_2 _ _,?_⟩;show ay _ _ (do let old <- Builtin.List.listItems (.ref S);Builtin.List.listUpdate (.ref S) (λ_=> #[]);letGo old.toList.reverse;Builtin.List.listExtendWith (.ref S) (.ref I) .none) _ _ _;refine ad ?_;unfold Builtin.List.listItems;refine ad (wpAny_seqItems hS rfl (az ?_));show ay _ _ (updateSeq S (λ_=> #[]) >>= λ_=>letGo (#[]:Array aa).toList.reverse >>= λ_=>Builtin.List.listExtendWith (.ref S) (.ref I) .none) _ _ _;refine ad (vf hS rfl ?_);have hS₂:=fb (Obj.mapSeq (λ_=>(#[]:Array aa))) hS rfl;have Az: ∀b o,b≠S->s.heap.get? b=some o->((s.heap.push {cls:= .type 14#1,data:= .seq #[]}).update S (Obj.mapSeq (λ_=>(#[]:Array aa)))).get? b=some o:=
  λb o hb e=>(cj _ _ (fw hb)).trans (kp b o e)
 refine ad (wpAny_letGo ?_);have hSf:S∉ [I,l]:=by simp only[bo,mi,or_false,not_or];exact⟨gk hIl,gk AB⟩
 have mv: ∀h,(∀b o,b≠S->s.heap.get? b=some o->h.get? b=some o)->St 0 h:=λh k=>W.frame 0 _ _ st λb hb o e=>k b o (λz=>hSf (z▸hb)) e;obtain⟨h2,eh2⟩: ∃h2,(s.heap.push {cls:= .type 14#1,data:= .seq #[]}).update S (Obj.mapSeq (λ_=>(#[]:Array aa)))=h2:=⟨_,rfl⟩;rw[eh2]at hS₂ Az⊢
 have zi:=mv h2 Az;have Ap: ∀(h:cn) (c₁ tk:Nat),(∀b o,b≠S->s.heap.get? b=some o->h.get? b=some o)->h.get? S=some {cls:= .type 14#1,data:= .seq #[] c₁} ->kf 9#2 A.in1 (.builtin "list.extend.loop" ⟨[.ref S,.ref I,.none],[]⟩) (wants (λr s₂=>r=Value.none/\Q (Value.ref S) s₂) E) {s with heap:=h,toks:=tk} :=by
  intro h c₁ tk hk hS₁;refine codeAny_extend_loopS W.toS hn S hSf .none n 0 _ #[] c₁ rfl (fv _) (mv h hk) hS₁ (ItemsOf.nil _) λs' acc' c' hm hS' hacc=> ?_;rw[Moved.eq_with hm];refine⟨rfl,hQ s'.heap s'.toks acc' c' (λb o hbI e=>hm.heap b o (λhmem=> ?_) (hk b o (nS b o e) e)) hS' hacc⟩;rcases bo.mp hmem with e' | hmem
  ·exact nS b o e e'
  ·exact hbI (ao.mp hmem)
 unfold Builtin.List.listExtendWith;refine ad (nj (T:=T) (hT {s with heap:=h2} zi) ?_);have h1:Builtin.List.listSameRef (.ref S) (.ref I)=false:=by simp[Builtin.List.listSameRef,gk hIl]
 simp only[h1,t1,t2,Bool.or_false,mw,if_false];refine ad (hi zi ?_);refine ad (dj (hl zi λb tk=> ?_));refine qp (λ_=> ?_) (λ_=>az ⟨mt uf _,Ap _ _ _ Az hS₂⟩);refine ad (oy ?_);refine ad ?_;show ay _ _ (updateSeq S (·.push .none) >>= λ_=>updateSeq S (·.pop)) _ _ _;refine ad (vf (s:= {s with heap:=h2,toks:=tk}) hS₂ rfl ?_);have hS₃:=fb (Obj.mapSeq (·.push Value.none)) hS₂ rfl;refine vf (s:= {s with heap:=h2.update S (Obj.mapSeq (·.push Value.none)),toks:=tk}) (hz:=by seq_fits) hS₃ rfl ?_;have hS₄:=fb (Obj.mapSeq (·.pop)) hS₃ rfl;exact az ⟨mt uf _,Ap _ _ _ (λb o hb e=>(cj _ _ (fw hb)).trans ((cj _ _ (fw hb)).trans (Az b o hb e))) hS₄⟩
theorem zqv {Q:aa->ai->Prop}{I l:ac}{items:Array aa}(hh:A.handled=none)(Ae:s.heap.IsRevIter I l 7#9)(hl:s.heap.IsList l items)(hlI:l≠I)(hn:items.size<=ak)
  (hQ: ∀h' tk acc' c',(∀b o,b≠I->s.heap.get? b=some o->h'.get? b=some o)->h'.get? s.heap.objs.size=some {cls:= .type 14#1,dict:=none,data:= .seq acc' c',slots:= #[]} ->ItemsOf (zhl items) acc' items.size->Q 4#6 {s with heap:=h',toks:=tk}):
  ay 9#2 A (call (.type 14#1) [.ref I]) Q E s:=
 zhC (T:= "list_reverseiterator") (Walks.listRev (prog:=prog) (w:=w) (A:=A.in1.in1) hh I l hlI items) ⟨fv _,by simpa using Ae,hl⟩ hn (by obtain⟨o,e,_⟩:=id Ae;exact be e) (by obtain⟨o,e,_⟩:=id hl;exact be e) (λ_ z=>z.2.1.typeIs) 2#0 2#0 (λz q=>wpAny_pyIter_revIter z.2.1 q) (λz q=>zr4 z.2.1 (q false _)) hQ
end
section
variable {X:Cx}
def zxd (K:Frag)(te:TE):TE:=λσ H Q=>te σ H λx H1=> ∃(a:ac) (xs:List V),x= .ref a/\x8 K H1 a xs/\∀p,H1 p=none->Q 3#13 (upd H1 p 7#10)
theorem zuw {e:Expr}{te:TE}{p p2 pos zy:fe}(hc:X.calm=true)(hg:Gl X 14#1)(hm:X.mg 14#1 =none)(hg2:Gl X 6#1)(hm2:X.mg 6#1 =none)(he:PE X e te)
  (hs:starEach [e] X.env= [5#3]) (An:starEach 8#4 X.env= [4#4]):
  PE X 0#15 (zxd X.K te):=⟨λzc s σ H Q I h=>by
 refine ef (sY I hg hm (show bootBuiltins 14#1 =some (.type 14#1) by decide+kernel) (callWith_type1 ?_ An rfl));rw[An];show ay _ _ (spliced (4#4::backTo pos [])) _ _ s;refine lh (ef (sY I hg2 hm2 zh6 (callWith_type1 ?_ hs rfl)));rw[hs];show ay _ _ (spliced (5#3::backTo zy [])) _ _ s;refine lh (zL 1#8 λu s1 ⟨x,H1,I1,r1,q1⟩=>lu ?_);obtain⟨a,xs,rfl,hq,q⟩:=q1;cases r1;obtain⟨zf,rv,ip,hz⟩:=I1.list hq;have hl:=rv.length;have hzz:zf.toArray.size<=ak:=by rw[bq];grobner
 have al:a < s1.heap.objs.size:=by obtain⟨o,e,_⟩:=id ip.isList;exact be e
 refine call_reversed_list ip.isList ?_;refine lu ?_;have kp: ∀b o,s1.heap.get? b=some o->(s1.heap.push (revObj a ((zf.toArray.size:Int) - 1))).get? b=some o:=λb o e=>ap _ e;refine zqv (I:=s1.heap.objs.size) (l:=a) (items:=zf.toArray) (I1.ok.hd hc) ⟨_,cm _ rfl,rfl,rfl⟩ (ip.isList.at λo e=>kp _ _ e) (bt al) hzz λh' tk Ac c' k1 hS hacc=> ?_;have k5: ∀b o,s1.heap.get? b=some o->h'.get? b=some o:=λb o e=>k1 b o (bt (be e)) (kp b o e);have xJ:H1 (s1.heap.push (revObj a ((zf.toArray.size:Int) - 1))).objs.size=none:=I1.hok.fresh (by rw[kz];exact iu _);refine⟨.ref _,_,I1.laid (t':=tk) (o:= .lst xs.reverse) k5 (by rw[kz];exact iu _) ⟨by rw[gd];exact hz,Ac.toList,c',znu rv hacc,?_⟩,rfl,q _ xJ⟩;simpa using hS⟩
def zo7 (T:zC):zC:=λenv st Q=>T env st λx zd=>match x with | .lst xs=>Q 7#10 zd | _=>False
@[simp] theorem z1v {T:zC}{env:zF}{st:z5}{Q:K3} :zo7 T env st Q=(T env st λx zd=>match x with | .lst xs=>Q 7#10 zd | _=>False):=rfl
theorem zvo {e:Expr}{Ta:zC}{p p2 pos zy:fe}(hc:X.calm=true)(hg:Gl X 14#1)(hm:X.mg 14#1 =none)(hg2:Gl X 6#1)(hm2:X.mg 6#1 =none)(he:PE X e 9#4)
  (hs:starEach [e] X.env= [5#3]:=by rfl) (An:starEach 8#4 X.env= [4#4]:=by rfl):
  PE X 0#15 (zK X.K (zo7 Ta)):=by
 refine xP (zuw hc hg hm hg2 hm2 he hs An) λσ H Q ⟨A,env,st,Q3,zg,h,k⟩=>⟨A,env,st,_,zg,h,λA1 H1 zd x v g1 s1 e1 h1=> ?_⟩
 split at h1
 ·cases e1 with | val e=>cases e with | lst t z r=>
   exact⟨_,_,rfl,t.sq,(k.after g1).lst s1 r.reverse (by rw[gd];exact z) h1⟩
 ·exact h1.elim
def mD (lo hi:Int):List V:=(List.range (hi - lo).toNat).map λ(i:Nat)=> .int (lo+(i:Int))
def zxf (ta:TA):TE:=λσ H Q=>ta σ H λvs H1=> ∃lo hi:Int,vs= [.int lo,.int hi]/\9#11/\∀p,H1 p=none->Q 3#13 (upd H1 p (.lst (mD lo hi)))
theorem zuy {a b:Expr}{ta:TA}{p p2 pos zy:fe}(hc:X.calm=true)(hg:Gl X 14#1)(hm:X.mg 14#1 =none)(hg2:Gl X 53#1)(hm2:X.mg 53#1 =none)(ha:PA X [a,b] ta)
  (hs:starEach [a,b] X.env= [0#6,3#11]) (hs1:starEach [b] X.env= [3#11]) (An:starEach 6#13 X.env= [7#12]):
  PE X (.Call (.Name 14#1 p) 6#13 [] pos) (zxf ta):=⟨λzc s σ H Q I h=>by
 refine ef (sY I hg hm (show bootBuiltins 14#1 =some (.type 14#1) by decide+kernel) (callWith_type1 ?_ An rfl));rw[An];show ay _ _ (spliced (7#12::backTo pos [])) _ _ s;refine lh (ef (sY I hg2 hm2 boot_range (callWith_type1 (zL (ha zy zc s σ H _ I h) λus s1 ⟨vs,H1,I1,r1,q1⟩=> ?_) (by rw[hs,hs1]) (by rw[hs1];rfl))));obtain⟨lo,hi,rfl,⟨b1,b2,b3,b4⟩,q⟩:=q1;cases r1 with
 | cons r rr=>
  cases rr with
  | cons r' rr=>
   cases rr;obtain⟨t,rfl⟩:=r;obtain⟨t',rfl⟩:=r';refine call_range_2 ?_;refine lu ?_;have hrs:Builtin.Range.rangeSize lo hi 1=(((hi - lo).toNat:Nat):Int):=by rw[rangeSize_one];split <;> grobner
   refine call_list_range (n:=(hi - lo).toNat) (I1.ok.hd hc) (IsRange.new ..) (small_one 0#0 0#0 0#0 0#0) hrs 0#0 λh' tk Ac c' k1 hS hacc=> ?_;have kp:=k1;have k5: ∀b o,s1.heap.get? b=some o->h'.get? b=some o:=λb o e=>k1 b o (ap _ e);refine⟨.ref _,_,I1.laid (t':=tk) (o:= .lst (mD lo hi)) k5 (by rw[kz];exact iu _) ⟨by unfold mD;rw[ae,pf,di];grobner,Ac.toList,c',cN ?_ λj v x hv hx=> ?_,by simpa using hS⟩,rfl,q _ (I1.hok.fresh (by rw[kz];exact iu _))⟩
   ·unfold mD;rw[ae,pf];simpa using hacc.1.symm
   ·obtain⟨u,rfl⟩:=hacc.2 j v (by simpa using hv)
    unfold mD at hx;rw[br]at hx;cases ej:(List.range (hi - lo).toNat)[j]? with
    | none=>rw[ej]at hx;cases hx
    | some k=>
     rw[ej]at hx;cases hx;have:=ah.mp ej;obtain⟨hj,e⟩:=this;rw[yb]at e;subst e;exact⟨u,by rw[Int.mul_one]⟩⟩
def zo9 (T:yK):zC:=λenv st Q=>T env st λxs zd=>match xs with | [.int lo,.int hi]=>9#11/\Q (.obj zd.length) (zd++ [.lst ((List.range (hi - lo).toNat).map λ(i:Nat)=> .int (lo+(i:Int)))]) | _=>False
@[simp] theorem z1w {T:yK}{env:zF}{st:z5}{Q:K3} :zo9 T env st Q=(T env st λxs zd=>match xs with | [.int lo,.int hi]=>9#11/\Q (.obj zd.length) (zd++ [.lst ((List.range (hi - lo).toNat).map λ(i:Nat)=> .int (lo+(i:Int)))]) | _=>False):=rfl
theorem zn1 {K:Frag}{A:List ac}{H:Hp}{α:Type}(f:α->Int): ∀l:List α,RVs K A H (l.map λi=>PV.int (f i)) (l.map λi=>V.int (f i))
 | []=> .nil
 | x::l=> .cons (.int _) (zn1 f l)
theorem zvq {a b:Expr}{TA:yK}{p p2 pos zy:fe}(hc:X.calm=true)(hg:Gl X 14#1)(hm:X.mg 14#1 =none)(hg2:Gl X 53#1)(hm2:X.mg 53#1 =none)(ha:PA X [a,b] 1#11)
  (hs:starEach [a,b] X.env= [0#6,3#11]:=by rfl) (hs1:starEach [b] X.env= [3#11]:=by rfl) (An:starEach 6#13 X.env= [7#12]:=by rfl):
  PE X (.Call (.Name 14#1 p) 6#13 [] pos) (zK X.K (zo9 TA)):=by
 refine xP (zuy hc hg hm hg2 hm2 ha hs hs1 An) λσ H Q ⟨A,env,st,Q3,zg,h,k⟩=>⟨A,env,st,_,zg,h,λA1 H1 zd xs vs g1 s1 e1 h1=> ?_⟩
 split at h1
 ·rename_i lo hi
  obtain⟨v,w,rfl,r1,r2⟩:=yT.two e1;cases xO r1;cases xO r2;refine⟨lo,hi,rfl,h1.1,λp hp=>k (A1++ [p]) _ _ _ _ (g1.trans (.newObj hp)) (s1.newObj (q:= .lst _) hp ⟨_,yM,zn1 _ _,?_⟩) (.obj (j3 s1.len)) h1.2⟩;have:=h1.1;unfold mD;rw[ae,pf,di];grobner
 ·exact h1.elim
end
section
variable {prog:ce} {w:ci} {A:cw} {E:aa->ai->Prop}
theorem zhZ {I:ac}{fp wr:List ac}{n:Nat}{P:Nat->aa->Prop}{St:Nat->cn->Prop}(W:Walks prog w A I fp wr n P St): ∀(m i:Nat) (s:ai) (Q:List aa->ai->Prop),St i s.heap->i+m<=n->
  (∀vs h' tk,vs.length=m->(∀(j:Nat) (v:aa),vs[j]?=some v->P (i+j) v)->St (i+m) h'->(∀b o,b∉wr->s.heap.get? b=some o->h'.get? b=some o)->Q vs {s with heap:=h',toks:=tk})->ay 9#2 A (draw (.ref I) m) Q E s
 | 0,i,s,Q,st,_,hQ=>by
  show ay _ _ (pure []) Q E s;exact az (hQ [] s.heap s.toks rfl (λj v h=>by simp at h) st λ_ _ _ e=>e)
 | m+1,i,s,Q,st,hle,hQ=>by
  show ay _ _ 3#18 Q E s;refine ad (W.item i s _ _ 0#0 st λv h1 tk1 hv zd k1=> ?_);refine ad (dj (zhZ W m (i+1) {s with heap:=h1,toks:=tk1} _ zd 0#0 λvs h2 tk2 hl hP zi k2=>az ?_));refine hQ (v::vs) h2 tk2 (by rw[bv,hl]) (λj u hj=> ?_) (by rw[show i+(m+1)=i+1+m by grobner];exact zi) λb o hb e=>k2 b o hb (k1 b o hb e);cases j with
  | zero=>simp at hj;subst hj;exact hv
  | succ j=>rw[show i+(j+1)=i+1+j by grobner];exact hP j u (by simpa using hj)
theorem zxB {x:Str}{t:nv}{targets:List (Bool×(aa->Sem Unit))}{Q:Unit->ai->Prop}{s:ai}(hh:A.handled=none)(hn:targets.length=x.cps.size)(Ag:targets.findIdx? (·.1)=none)
  (h: ∀vs h' tk,vs.length=x.cps.size->(∀(j:Nat) (v:aa),vs[j]?=some v->SignAt x j v)->(∀b o,s.heap.get? b=some o->h'.get? b=some o)->ay 9#2 A (assignInOrder (targets.map (·.2)) vs) Q E {s with heap:=h',toks:=tk}):
  ay 9#2 A (unpack (.str x t) targets) Q E s:=by
 unfold unpack;rw[hn,Ag];refine ad (dj ?_);unfold unpackItems;refine ad ?_;unfold notIterableAtAll;refine ad (ja (T:= "str") rfl PySem.F.slot_str_iter.lookup ?_);refine az ?_;simp only[mw,if_false];refine ad (dj (wpAny_pyIter_strU ?_));have hW: ∃St:Nat->cn->Prop,Walks prog w A s.heap.objs.size [s.heap.objs.size] [s.heap.objs.size] x.cps.size (SignAt x) St/\St 0 (s.heap.push {cls:= .type (strIterType x),data:= .fields #[.str x t,.int 0 0]}):=by
  unfold strIterType;by_cases ha:x.cps.all (· < 128)=true
  ·rw[if_pos ha]
   exact⟨_,Walks.strAscii hh _ x t,⟨_,cm _ rfl,rfl,rfl⟩⟩
  ·rw[if_neg ha]
   exact⟨_,Walks.strWide hh _ x t,⟨_,cm _ rfl,rfl,rfl⟩⟩
 obtain⟨St,W,st⟩:=hW;refine ad (dj (zhZ W x.cps.size 0 _ _ st 0#0 λvs h1 tk1 hl hP zd k1=> ?_));rw[if_neg 0#0];refine ad (dj (W.done _ _ _ (by simpa using zd) λh2 tk2 k2=> ?_));simp only[Option.isSome_none,mw,if_false];refine az (h vs h2 tk2 hl (λj v hj=>by simpa using hP j v hj) λb o e=> ?_);have hb:b∉ [s.heap.objs.size]:=λz=>bt (be e) (ao.mp z);exact k2 b o hb (k1 b o hb (ap _ e))
end
section
variable {X:Cx} {es:List Expr} {pos:fe}
def lC (x:Str):List Str:=x.cps.toList.map λc=>⟨#[c]⟩
def zrv (n:Nat)(t:uT):TG:=λv σ H Q=> ∃x:Str,v= .str x/\x.cps.size=n/\t ((lC x).map V.str) σ H Q
theorem zuB {k:Nat}{t:uT}{n:Nat}(hc:X.calm=true)(h:uD X es t)(hn:(assignEach es X.env).length=n:=by rfl)(Ag:(assignEach es X.env).findIdx? (·.1)=none:=by rfl):PG X (.Tuple es k pos) (zrv n t):=by
 refine⟨λzc s σ H v u Q I r hw=> ?_⟩;obtain⟨x,rfl,hl,hw⟩:=hw;obtain⟨t0,rfl⟩:=r;rw[assign_Tuple];refine ad (ia (zxB 1#12 (by rw[hn,hl]) Ag λvs h' tk hv hP kp=> ?_));have I1:z4 X zc σ H {s with heap:=h',toks:=tk} :=I.kept (t':=tk) kp;refine h zc _ σ H _ _ Q I1 (cN ?_ λj v x' hv' hx'=> ?_) hw
 ·unfold lC;rw[ae,ae,jo,hv]
 ·obtain⟨c,u,e,rfl⟩:=hP j v hv'
  unfold lC at hx';rw[bx,br]at hx';rw[jd,e]at hx';cases hx';exact⟨u,rfl⟩
def gTS (n:Nat)(gs:tY):w4:=λx env st Q=>match x with | .str z=>z.cps.size=n/\gs ((lC z).map PV.str) env st Q | _=>False
@[simp] theorem zyK {n:Nat}{gs:tY}{z:Str}{env:zF}{st:z5}{Q:zF->z5->Prop} :gTS n gs (.str z) env st Q=(z.cps.size=n/\gs ((lC z).map PV.str) env st Q):=rfl
theorem zn2 {K:Frag}{A:List ac}{H:Hp} : ∀l:List Str,yT K A H (l.map PV.str) (l.map V.str)
 | []=> .nil
 | x::l=> .cons (.val (.str _)) (zn2 l)
theorem zvv {k:Nat}{n:Nat}{Tgs:tY}(hc:X.calm=true)(h:uD X es (kH X.K Tgs))(hn:(assignEach es X.env).length=n:=by rfl)(Ag:(assignEach es X.env).findIdx? (·.1)=none:=by rfl):PG X (.Tuple es k pos) (u5 X.K (gTS n Tgs)):=
 zfv (zuB hc h hn Ag) λv σ H Q ⟨A,env,st,x,Q3,zg,e,q,k⟩=>by
  unfold gTS at q
  split at q
  ·cases rD e
   exact⟨_,rfl,q.1,A,env,st,_,Q3,zg,zn2 _,q.2,k⟩
  ·exact q.elim
end
set_option maxHeartbeats 4000000
def m9 (kvs:List 2#3)(k:z8):List 2#3:=kvs.filter λkv=>decide (kv.1≠k)
theorem RKs.drop {K:Frag}{A:List ac}{H:Hp}{k:z8} : ∀{kvs:List 2#3} {us:List (z8×V)},RKs K A H kvs us->RKs K A H (m9 kvs k) (m7 us k)
 | _,_,.nil=> .nil
 | _,_,.cons (k:=k') r t=>by
  unfold m9 m7;rw[ky,ky];by_cases e:k'=k
  ·rw[if_neg (by simp[e]),if_neg (by simp[e])];exact RKs.drop t
  ·rw[if_pos (by simp[e]),if_pos (by simp[e])];exact .cons r (RKs.drop t)
section
variable {X:Cx}
def zno:PV->zP:=λx xs st Q=> ∃(i:Nat) (k:z8) (z:PV) (kvs:List 2#3) (y:PV),x= .obj i/\xs= [y]/\vI y=some k/\st[i]?=some 2#4/\zH kvs k=some z/\Q z (st.set i (.dct (m9 kvs k)))
theorem ztm:tX X "dict.pop" (qM X.K zno):=by
 intro zc s σ H v vs vv us Q I rv rvs ⟨A,st,x,xs,Q3,rs,ex,exs,h,k⟩;obtain⟨i,kk,z,kvs,y,rfl,rfl,ek,q,hz,h⟩:=h;obtain⟨w,rfl,ey⟩:=yT.one exs;cases ex with
 | val e=>cases e
 | obj eo=>
  have hm:=dh eo;obtain⟨ks,h1,r,hl⟩:=rs.at_ _ _ _ eo q;cases rv;obtain⟨u,rfl,ru⟩:=zJ.one rvs;have ew:=sX ey ek;subst ew;rcases r.val (k:=kk)with⟨x',v',e1,e2,r'⟩ | ⟨e1,e2⟩
  ·rw[hz]at e1;cases e1
   refine zqF I h1 ru e2 5#9 λw' s' I' rw'=>⟨v',_,I',rw',k A _ _ _ _ 9#10 (rs.put (q:= .dct (m9 kvs kk)) eo ⟨_,yM,(r.grow 9#10).drop,bh (zia ks kk) hl⟩) (.val (r'.grow 9#10)) h⟩
  ·rw[hz]at e1;cases e1
def znp:PV->zP:=λx xs st Q=> ∃(i:Nat) (kvs more:List 2#3),x= .obj i/\xs= [.dct more]/\st[i]?=some 2#4/\kvs.length+more.length<=ak/\Q .non (st.set i (.dct (u8 kvs more)))
theorem ztq:tX X "dict.update" (qM X.K znp):=by
 intro zc s σ H v vs vv us Q I rv rvs ⟨A,st,x,xs,Q3,rs,ex,exs,h,k⟩;obtain⟨i,kvs,more,rfl,rfl,q,hl,h⟩:=h;obtain⟨w,rfl,ey⟩:=yT.one exs;cases ex with
 | val e=>cases e
 | obj eo=>
  rename_i a;have hm:=dh eo;obtain⟨ks,h1,r,hz⟩:=rs.at_ _ _ _ eo q;cases ey with | val ey=>cases ey with | dct t z2 r2=>
   rename_i o ms;cases rv;obtain⟨u,rfl,ru⟩:=zJ.one rvs;cases ru;have hao:a≠o:=λz=>t.2 (z▸hm);obtain⟨z,hd,vs1,zg,dd⟩:=kK I.hok h1;obtain⟨z',hd',vs2,rel2,dd2⟩:=kK I.hok t.1;have zu:vs1.length+vs2.length<=ak:=by rw[<- zg.length,<- rel2.length,<- r.len,<- r2.len];exact hl
   refine call_meetsIn uy dd.typeIs PySem.F.entry_dict_update (PySem.F.args_dict_update_2 _ _) (meets_dict_update (wD X.prog X.w) a o hao hd') ⟨vs1,vs2,dd,dd2,zu,λh' dd' ddo hs=> ?_⟩;have he: ∃q,h'.get? a=some q:=let⟨q,_,_,hq,_⟩:=dd';⟨q,hq⟩;have hml:(uH ks ms).length<=ak:=bh (mJ ms ks) (by rw[<- r.len,<- r2.len];exact hl);have I':=kJ (t':=s.toks) I (by rw[h1];exact True.intro) hs he (nY hml hd (rel2.merge zg) dd');exact⟨.non,_,I',rfl,k A _ _ _ _ 9#10 (rs.put (q:= .dct (u8 kvs more)) eo ⟨_,yM,RKs.merge (r.grow 9#10) (r2.grow 9#10),hml⟩) (.val .non) h⟩
end
section
variable {prog:ce} {w:ci} {A:cw} {E:aa->ai->Prop} {s:ai}
theorem zsh {I t:ac}{items:Array aa}{Q:Bool->ai->Prop}(Ae:pH s.heap I t 7#9)(ht:IsTup s.heap t items)(hn:items.size<=ak)
  (h: ∀tk,Q ((items.size:Int) !=0) {s with toks:=tk}):ay 9#2 A (Builtin.List.listLengthHint (.ref I)) Q E s:=by
 have hT:s.TypeIs (.ref I) 6#1 :=⟨_,Ae,rfl⟩;unfold Builtin.List.listLengthHint;refine ad (ja hT RV.no_len ?_);show ay _ A (specialOf (Value.ref I) (Str.ofString 67#1) >>= _) _ _ _;refine ad (ja hT RV.slot_hint.lookup ?_)
 (generalize hid:(39#1 :String)=id0;(fail_if_success (clear hid id0));wp_delta;rw[show splitId id0=some (6#1,67#1)from by subst hid;decide+kernel];subst hid)
 refine ad (mf (b:=true) hT (by rw[jw];kernel_rfl) ?_);show ay _ A (rule "list.length-hint.hint" >>= _) _ _ _;refine ad (oy ?_);refine ad (jq (RV.slot_hint.bind _) ?_);dsimp only;refine ad (ln (zr5 Ae ht hn λtk u htk=> ?_));dsimp only;rw[show asInt? (Value.int (items.size:Int) u)=pure (some (items.size:Int))from rfl];rw[pure_bind];dsimp only;have f1:Builtin.List.listFitsIndex (items.size:Int)=true:=by
  unfold Builtin.List.listFitsIndex;have:=rT;simp only[im,decide_eq_true_eq];grobner
 have f2:Builtin.List.listTooLong (items.size:Int).toNat=false:=by
  unfold Builtin.List.listTooLong;simp only[yd,decide_eq_false_iff_not];grobner
 try dsimp only
 rw[if_neg (by rw[f1];decide)];rw[if_neg 0#0];rw[if_neg (by rw[f2];decide)];exact az (h tk)
theorem zqw {Q:aa->ai->Prop}{I l:ac}{items:Array aa}(hh:A.handled=none)(Ae:pH s.heap I l 7#9)(hl:IsTup s.heap l items)(hlI:l≠I)(hn:items.size<=ak)
  (hQ: ∀h' tk acc' c',(∀b o,b≠I->s.heap.get? b=some o->h'.get? b=some o)->h'.get? s.heap.objs.size=some {cls:= .type 14#1,dict:=none,data:= .seq acc' c',slots:= #[]} ->ItemsOf (zhl items) acc' items.size->Q 4#6 {s with heap:=h',toks:=tk}):
  ay 9#2 A (call (.type 14#1) [.ref I]) Q E s:=
 zhC (T:= 6#1) (zpB (prog:=prog) (w:=w) (A:=A.in1.in1) hh I l hlI items hn) ⟨fv _,by simpa using Ae,hl⟩ hn (be Ae) (by obtain⟨o,e,_⟩:=id hl;exact be e) (λ_ z=>⟨_,z.2.1,rfl⟩) 2#0 2#0 (λz q=>zlM z.2.1 q) (λz q=>zsh (by simpa using z.2.1) z.2.2 hn λtk=>q _ tk) hQ
end
section
variable {X:Cx}
def zxe (K:Frag)(te:TE):TE:=λσ H Q=>te σ H λx H1=> ∃(a:ac) (xs:List V),x= .ref a/\xT K H1 a xs/\∀p,H1 p=none->Q 3#13 (upd H1 p 7#10)
theorem zux {e:Expr}{te:TE}{p p2 pos zy:fe}(hc:X.calm=true)(hg:Gl X 14#1)(hm:X.mg 14#1 =none)(hg2:Gl X 6#1)(hm2:X.mg 6#1 =none)(he:PE X e te)
  (hs:starEach [e] X.env= [5#3]) (An:starEach 8#4 X.env= [4#4]):
  PE X 0#15 (zxe X.K te):=⟨λzc s σ H Q I h=>by
 refine ef (sY I hg hm (show bootBuiltins 14#1 =some (.type 14#1) by decide+kernel) (callWith_type1 ?_ An rfl));rw[An];show ay _ _ (spliced (4#4::backTo pos [])) _ _ s;refine lh (ef (sY I hg2 hm2 zh6 (callWith_type1 ?_ hs rfl)));rw[hs];show ay _ _ (spliced (5#3::backTo zy [])) _ _ s;refine lh (zL 1#8 λu s1 ⟨x,H1,I1,r1,q1⟩=>lu ?_);obtain⟨a,xs,rfl,hq,q⟩:=q1;cases r1;obtain⟨zf,rv,ip,hz⟩:=I1.tuple hq;have hl:=rv.length;have hzz:zf.toArray.size<=ak:=by rw[bq];grobner
 have al:a < s1.heap.objs.size:=by obtain⟨o,e,_⟩:=id ip;exact be e
 refine zqx (show IsTup s1.heap a zf.toArray from ip) hzz λtk=> ?_;refine lu ?_;have kp: ∀b o,s1.heap.get? b=some o->(s1.heap.push (jE a ((zf.toArray.size:Int) - 1))).get? b=some o:=λb o e=>ap _ e;refine zqw (I:=s1.heap.objs.size) (l:=a) (items:=zf.toArray) (I1.ok.hd hc) (cm _ rfl) (by obtain⟨o,e,r⟩:=id ip;exact⟨o,kp _ _ e,r⟩) (bt al) hzz λh' tk Ac c' k1 hS hacc=> ?_;have k5: ∀b o,s1.heap.get? b=some o->h'.get? b=some o:=λb o e=>k1 b o (bt (be e)) (kp b o e);have xJ:H1 (s1.heap.push (jE a ((zf.toArray.size:Int) - 1))).objs.size=none:=I1.hok.fresh (by rw[kz];exact iu _);refine⟨.ref _,_,I1.laid (t':=tk) (o:= .lst xs.reverse) k5 (by rw[kz];exact iu _) ⟨by rw[gd];exact hz,Ac.toList,c',znu rv hacc,?_⟩,rfl,q _ xJ⟩;simpa using hS⟩
def zo8 (T:zC):zC:=λenv st Q=>T env st λx zd=>match x with | .tup xs=>Q 7#10 zd | _=>False
@[simp] theorem zx9 {T:zC}{env:zF}{st:z5}{Q:K3} :zo8 T env st Q=(T env st λx zd=>match x with | .tup xs=>Q 7#10 zd | _=>False):=rfl
theorem zvp {e:Expr}{Ta:zC}{p p2 pos zy:fe}(hc:X.calm=true)(hg:Gl X 14#1)(hm:X.mg 14#1 =none)(hg2:Gl X 6#1)(hm2:X.mg 6#1 =none)(he:PE X e 9#4)
  (hs:starEach [e] X.env= [5#3]:=by rfl) (An:starEach 8#4 X.env= [4#4]:=by rfl):
  PE X 0#15 (zK X.K (zo8 Ta)):=by
 refine xP (zux hc hg hm hg2 hm2 he hs An) λσ H Q ⟨A,env,st,Q3,zg,h,k⟩=>⟨A,env,st,_,zg,h,λA1 H1 zd x v g1 s1 e1 h1=> ?_⟩
 split at h1
 ·cases e1 with | val e=>cases e with | tup t z r=>
   exact⟨_,_,rfl,t.sq,(k.after g1).lst s1 r.reverse (by rw[gd];exact z) h1⟩
 ·exact h1.elim
end
set_option maxHeartbeats 4000000
section
variable {X:Cx} {a b c:Expr} {pos:fe} {Ta Tb Tc:zC}
def zxF (R R':R3)(Ta Tb Tc:zC):zC:=λenv st Q=>Ta env st λx zd=>Tb env zd λy zi=>R x y zi λr Ab=>match r with
 | .bl true=>Tc env Ab λz st4=>R' y z st4 Q
 | .bl false=>Q (.bl false) Ab
 | _=>False
@[simp] theorem z1h {R R':R3}{env:zF}{st:z5}{Q:K3} :zxF R R' Ta Tb Tc env st Q=(Ta env st λx zd=>Tb env zd λy zi=>R x y zi λr Ab=>match r with | .bl true=>Tc env Ab λz st4=>R' y z st4 Q | .bl false=>Q (.bl false) Ab | _=>False):=rfl
end
set_option maxHeartbeats 4000000
section
variable {X:Cx} {zo tg a b:Expr} {Ta:zC}
def zr7 (T:zC):tJ:=λenv st Q=>T env st λx zd=> ∃(i:Nat) (kvs:List 2#3),x= .obj i/\((zd[i]?=some 2#4/\∀o,Q (some (i,.fd o kvs)) 7#8 (zd.set i (.fd o kvs)))∨∃o,zd[i]?=some (.fd o kvs)/\Q (some (i,.fd o kvs)) 7#8 zd)
def zvA:R3:=λx y st Q=>match x with
 | .obj n=>(match y with
  | .str k=>(match st[n]? with | some (.fd _ kvs)=>(match zH kvs (.inr k)with | some z=>Q z st | none=>False) | _=>False)
  | _=>False)
 | _=>False
end
@[simp] theorem z0R {T:zC}{env:zF}{st:z5}{Q:xX->List PV->z5->Prop} :zr7 T env st Q=(T env st λx zd=> ∃(i:Nat) (kvs:List 2#3),x= .obj i/\((zd[i]?=some 2#4/\∀o,Q (some (i,.fd o kvs)) 7#8 (zd.set i (.fd o kvs)))∨∃o,zd[i]?=some (.fd o kvs)/\Q (some (i,.fd o kvs)) 7#8 zd)):=rfl
@[simp] theorem zzs {n:Nat}{x:Str}{st:z5}{Q:K3} :zvA (.obj n) (.str x) st Q=(match st[n]? with | some (.fd _ kvs)=>(match zH kvs (.inr x)with | some z=>Q z st | none=>False) | _=>False):=rfl
end L3
set_option maxHeartbeats 4000000
namespace L2
open PySem PySem.Spec PyProof.Rows PySem.W
section
variable {prog:ce} {w:ci} {A:cw} {E:aa->ai->Prop} {s:ai}
theorem zsi:typeLookup (.type 14#1) "keys" =pure none:=by rw[ik,fm];kernel_rfl
theorem zrX {a:ac}{xs:Array aa}{k:Nat}{sl:Array 5#8}{u:nv}{Q:aa->ai->Prop}
  (hx:s.heap.get? a=some {cls:= .type 14#1,dict:=none,data:= .seq xs k,slots:=sl}) (hA:A.handled=none)
  (h: ∀h' tk e,Heap.NewExcOf s.heap h' e "AttributeError" ->E 4#9 {s with heap:=h',toks:=tk}):
  ay 9#2 A (getAttrBy 8#9 (.str "keys" u) false) Q E s:=by
 obtain⟨hp,g,d,tk,os⟩:=s;have hT: ∀tk',(⟨hp,g,d,tk',os⟩:ai).TypeIs 8#9 14#1 :=λ_=>⟨_,hx,rfl⟩;have f1:=oo;have f3:=oq.lookup;have f4:=oq.bind 8#9;have f5:=am_list_getattr_none;unfold getAttrBy
 repeat(any_goals (first | assumption | exact hT _ | ((with_reducible show ay _ _ (call (Value.builtin "list.__getattribute__") _ _) _ _ _);refine nu oq (hT _) am_entry_list_getattribute (F.args_list_getattribute_2 _ _) (meets_getattribute_miss_list a xs k sl "keys" _ zsi 1#0 (by size_fits)) ⟨hx,hA,λh' tk' e hx'=> ?_⟩) | wp_step))
 obtain⟨t',u',he⟩:=hx'.there;show ay _ _ (getattributeRaised _ _ _ _ _ _ _) _ _ _;unfold getattributeRaised
 repeat(any_goals (first | assumption | wp_step))
 exact h _ _ _ hx'.of
theorem zrZ {a:ac}{xs:Array aa}{k:Nat}{sl:Array 5#8}{Q:Option aa->ai->Prop}
  (hx:s.heap.get? a=some {cls:= .type 14#1,dict:=none,data:= .seq xs k,slots:=sl}) (hA:A.handled=none)
  (h: ∀h' tk,(∀b o,s.heap.get? b=some o->h'.get? b=some o)->Q none {s with heap:=h',toks:=tk}):
  ay 9#2 A (getAttr? 8#9 "keys") Q E s:=by
 unfold getAttr? getAttrBy?;refine ad (xu ?_);refine ad (ln ?_);refine zrX hx hA λh' tk e x=> ?_;obtain⟨o,xs',he,hc,_⟩:=x.there;refine ad (mf (T:= "AttributeError") ⟨_,he,hc⟩ oo ?_);rw[if_pos rfl];exact az (h h' tk x.keeps)
end
section
variable {prog:ce} {w:ci} {A:cw} {E:aa->ai->Prop} {s:ai}
theorem zhR {K:Type}[DecidableEq K]{knd:KeyKind prog w K}{D I t:ac}{items:Array aa}{res:aa}{R:Result->ai->Prop}(hh:A.handled=none)(hIt:I≠t)(hDt:D≠t)(hDI:D≠I):
  ∀(zR:List (K×ac×aa)) (i:Nat) (kvs:List (K×aa)) (z:Int) (tok:nv) (s:ai),s.heap.IsListIter I t i->s.heap.IsList t items->s.heap.DictOf knd D kvs->
   items.toList.drop i=zR.map (λq=>Value.ref q.2.1)->(∀q∈zR,(∃Ap,knd.is q.1 Ap=true/\IsTup s.heap q.2.1 #[Ap,q.2.2])/\q.2.1≠I/\q.2.1≠D)->kvs.length+zR.length<=ak->
   (∀h' tk,h'.DictOf knd D (merged kvs 4#15)->(∀b o,b≠I->b≠D->s.heap.get? b=some o->h'.get? b=some o)->R (.ok (.ret res)) {s with heap:=h',toks:=tk})->
   kf 9#2 A (.builtin "dict.update.loop" ⟨[.ref D,.ref I,.int z tok,res],[]⟩) R s
 | [],i,kvs,z,tok,s,Ae,ht,hm,hd,hq,hsz,h=>by
  refine ny gI ?_;rw[lx pX _];have hx:items[i]?=none:=by
   rw[<- jd];have:items.toList.length<=i:=wv.mp hd;exact ud.mpr this
  show ay _ A.in1 3#18 _ _ _;refine ad (vq (A:=A.in1) hh Ae ht hx λh1 k1=> ?_);show ay _ A.in1 (Builtin.Dict.addKeywords D [] >>= λ_=>ret res) _ _ _;refine ad (az (az ?_));exact h h1 s.toks (hm.at λo e=>k1 D o hDI e) λb o b1 _ e=>k1 b o b1 e
 | q::zR,i,kvs,z,tok,s,Ae,ht,hm,hd,hq,hsz,h=>by
  refine ny gI ?_;rw[lx pX _];obtain⟨⟨Ap,hk,hb⟩,hbI,hbD⟩:=hq q (.head _);have hx:items[i]?=some (Value.ref q.2.1):=by
   rw[<- jd];have:=congrArg (λl=>l[0]?) hd;simpa using this
  have hd':items.toList.drop (i+1)=zR.map (λq=>Value.ref q.2.1):=by
   have:=congrArg List.tail hd;simpa using this
  show ay _ A.in1 3#18 _ _ _;refine ad (vj (A:=A.in1) Ae ht hx λh1 it1 sb1=> ?_);have hb1:IsTup h1 q.2.1 #[Ap,q.2.2]:=lP hb λo e=>(sb1.2 _ hbI).trans e;have hm1:h1.DictOf knd D kvs:=hm.at λo e=>(sb1.2 D hDI).trans e;dsimp only;refine ad (dj ?_);refine ad (wpAny_tryCatch (zmM (s:= {s with heap:=h1}) hb1 ?_));dsimp only;refine dj (xj (s:= {s with heap:=h1}) hk hm1 (λh2 hm2 sb2=> ?_) (by have:=hsz;simp only[bv]at this;grobner));refine az ⟨mt pX _,?_⟩;have zu:(rz kvs q.1 q.2.2).length<=kvs.length+1:=by
   unfold rz
   split <;> simp
  refine zhR hh hIt hDt hDI zR (i+1) (rz kvs q.1 q.2.2) _ _ _ (let⟨o,ho,r⟩:=it1;⟨o,(sb2.2 I (fw hDI)).trans ho,r⟩) ?_ hm2 hd' (λq' m=> ?_) (by simp only[bv]at hsz;grobner) λh' tk a b=> ?_
  ·obtain⟨o,ho,r⟩:=ht
   exact⟨o,(sb2.2 t (fw hDt)).trans ((sb1.2 t (fw hIt)).trans ho),r⟩
  ·obtain⟨⟨key',hk',hb'⟩,hbI',hbD'⟩:=hq q' (.tail _ m)
   exact⟨⟨key',hk',lP hb' λo e=>(sb2.2 _ hbD').trans ((sb1.2 _ hbI').trans e)⟩,hbI',hbD'⟩
  ·refine h h' tk a λc o c1 c2 e=>b c o c1 c2 ((sb2.2 c c2).trans ((sb1.2 c c1).trans e))
theorem zqs {K:Type}[DecidableEq K]{knd:KeyKind prog w K}{t:ac}{n:Nat}{sl:Array 5#8}{zR:List (K×ac×aa)}{Q:aa->ai->Prop}(hh:A.handled=none)
  (ht:s.heap.get? t=some {cls:= .type 14#1,dict:=none,data:= .seq (zR.map λq=>Value.ref q.2.1).toArray n,slots:=sl})
  (hq: ∀q∈zR,∃Ap,knd.is q.1 Ap=true/\IsTup s.heap q.2.1 #[Ap,q.2.2]) (hsz:zR.length<=ak)
  (h: ∀h' tk,h'.DictOf knd s.heap.objs.size (merged [] 4#15)->(∀b o,s.heap.get? b=some o->h'.get? b=some o)->Q 4#6 {s with heap:=h',toks:=tk}):
  ay 9#2 A (call (.type 76#1) [.ref t]) Q E s:=by
 refine rg (Q₁:=λobj s₁=>obj= .ref s.heap.objs.size/\s₁= {s with heap:=s.heap.push {cls:= .type 76#1,data:= .dict #[]}}) F.kt_called_dict (wx _) ye (kt_code_dict_new _ ⟨rfl,rfl⟩) ?_;rintro obj s₁ ⟨rfl,rfl⟩;have hnew:(s.heap.push {cls:= .type 76#1,data:= .dict #[]}).DictOf knd s.heap.objs.size []:=ve s.heap;have ht1:(s.heap.push {cls:= .type 76#1,data:= .dict #[]}).get? t=some {cls:= .type 14#1,dict:=none,data:= .seq (zR.map λq=>Value.ref q.2.1).toArray n,slots:=sl} :=ap _ ht;refine⟨hnew.typeIs,xv _ _,?_⟩;unfold Builtin.«dict.__init__»;refine ad ?_;unfold Builtin.Dict.selfAndRest;refine ad (vz hnew.typeIs ?_);show ay _ _ (pure (s.heap.objs.size,[Value.ref t])) _ _ _;refine az ?_;show ay _ _ (Builtin.Dict.updateFrom "dict.__init__" s.heap.objs.size (.ref t) [] .none) _ _ _;unfold Builtin.Dict.updateFrom;refine ad (nj (T:= 14#1) ⟨_,ht1,rfl⟩ ?_);rw[if_pos 2#0];refine ad (zrZ ht1 hh λh1 tk k1=> ?_);rw[if_pos (show(none:Option aa).isNone=true from rfl)];refine ad (oy ?_);have ht2:=k1 _ _ ht1;have hD1:h1.DictOf knd s.heap.objs.size []:=hnew.at λo e=>k1 _ o e;refine ad (wpAny_pyIter_list (s:= {s with heap:=h1,toks:=tk}) ⟨_,ht2,rfl,_,rfl⟩ ?_);have lD:s.heap.objs.size < h1.objs.size:=by obtain⟨o,es,ep,ho,_⟩:=id hD1;exact be ho
 have lt:t < s.heap.objs.size:=be ht;refine az ⟨mt pX _,?_⟩;refine zhR (A:=A.in1) (knd:=knd) (t:=t) (items:=(zR.map λq=>Value.ref q.2.1).toArray) hh (gk (ir lt lD)) (gk lt) (bt lD) zR 0 [] _ _ {s with heap:=h1.push {cls:= .type "list_iterator",data:= .fields #[.ref t,.int 0 0]},toks:=tk} ⟨_,cm _ rfl,rfl,rfl⟩ ⟨_,ap _ ht2,rfl,_,rfl⟩ (hD1.push _) 3#0 (λq m=> ?_) (by simpa using hsz) λh' tk' a b=> ?_
 ·obtain⟨Ap,hk,hb⟩:=hq q m
  have lb:q.2.1 < s.heap.objs.size:=hb.lt;exact⟨⟨Ap,hk,lP hb λo e=>ap _ (k1 _ _ (ap _ e))⟩,bt (ir lb lD),bt lb⟩
 ·refine⟨rfl,h h' tk' a λc o e=> ?_⟩
  have lc:=be e;exact b c o (bt (ir lc lD)) (bt lc) (ap _ (k1 _ _ (ap _ e)))
end
section
variable {X:Cx} {zc:List (ac×af)} {σ:St} {H:Hp} {s:ai}
theorem zh_ (hc:X.calm=true):wA X (.type 76#1) (λxs H Q=> ∃(t:ac) (as:List ac) (ps:List (z8×V)),xs= [.ref t]/\x8 X.K H t (as.map V.ref)/\iU X.K H as ps/\∀p,H p=none->Q 3#13 (upd H p (.dK (uH [] ps)))):=by
 intro zc s σ H xs us Q I r h;obtain⟨t,as,ps,rfl,ht,hp,q⟩:=h;obtain⟨u,rfl,ru⟩:=o7 r;cases ru;obtain⟨zf,rv,⟨o,n,e1,e3,hd,e4⟩,hz⟩:=I.list ht;cases zfM rv;obtain⟨zR,r1,r2,r3⟩:=zfN I hp;have hl:=zlV r2;rw[ae]at hl;have hz':zR.length<=ak:=by
  rw[ae,<- r1,ae]at hz;exact hz
 obtain⟨c,dct,dat,sl⟩:=o;dsimp only at hd e3 e4;subst hd e3 e4;have ea:as.map Value.ref=zR.map λq=>Value.ref q.2.1:=by rw[<- r1,bx];rfl
 rw[ea]at e1;refine zqs (knd:=wD X.prog X.w) 1#12 e1 r3 hz' λh' tk dd k=> ?_;refine⟨.ref s.heap.objs.size,_,I.laid (t':=tk) (o:= .dK (uH [] ps)) k (ar _) ?_,rfl,q _ I.fresh⟩;refine nY ?_ (beq_eq_false_iff_ne.mpr (fw (bt I.big))) (KV.merge r2 .nil) dd;have:=mJ ps [];simp only[jm,xw]at this;exact bh this (by rw[hl];exact hz')
end
end L2
namespace L3
open PySem PySem.Spec PyProof.Rows L2
def fW:zP:=λxs st Q=>match xs with | [.lst ys]=> ∃ps,ys.map q9=ps.map some/\Q (.dct (u8 [] ps)) st | _=>False
def zf3:zP:=λxs st Q=>match xs with | [.lst ys]=> ∃ps,ys.map q9=ps.map some/\Q 5#2 (st++ [.dct (u8 [] ps)]) | _=>False
section
variable {X:Cx}
theorem zm3 (hc:X.calm=true):wA X (.type 76#1) (sP X.K fW):=by
 intro zc s σ H vs us Q I rv ⟨A,st,xs,Q3,rs,ex,h,k⟩;unfold fW at h
 split at h
 ·obtain⟨v,rfl,ex1⟩:=yT.one ex
  obtain⟨ps,e,h⟩:=h;cases ex1 with | val e1=>cases e1 with | lst t z r=>
   obtain⟨as,ks,rfl,hp,hk⟩:=fI r e;have hl:ks.length<=ak:=by rw[<- jh hp];rw[ae]at z;exact z
   exact zh_ hc zc s σ H _ us Q I rv ⟨_,as,ks,rfl,t.sq,hp,k.dct rs (RKs.merge .nil hk) (zeZ hl) h⟩
 ·exact h.elim
theorem ztg (hc:X.calm=true):wA X (.type 76#1) (sP X.K zf3):=by
 intro zc s σ H vs us Q I rv ⟨A,st,xs,Q3,rs,ex,h,k⟩;unfold zf3 at h
 split at h
 ·obtain⟨v,rfl,ex1⟩:=yT.one ex
  obtain⟨ps,e,h⟩:=h;cases ex1 with | val e1=>cases e1 with | lst t z r=>
   obtain⟨as,ks,rfl,hp,hk⟩:=fI r e;have hl:ks.length<=ak:=by rw[<- jh hp];rw[ae]at z;exact z
   exact zh_ hc zc s σ H _ us Q I rv ⟨_,as,ks,rfl,t.sq,hp,k.dctO rs (RKs.merge .nil hk) (zeZ hl) h⟩
 ·exact h.elim
end
end L3
namespace L2
open PySem PySem.Spec PyProof.Rows
structure oA (h:cn)(e C:ac)(od:Option ac)(cx:aa)(T:ac)(fl:aa):Prop where
 ob: ∃oe vs,h.get? e=some oe/\oe.cls= .ref C/\oe.dict=od/\oe.data= .fields vs/\vs[1]?=some (.ref T)/\vs[2]?=some cx
 ne:T≠e
 tr: ∃oT ts,h.get? T=some oT/\oT.data= .fields ts/\ts[3]?=some fl
def cS (h:cn)(e C:ac)(od:Option ac)(cx:aa)(ch:List ac):Prop:=
 (ch= [e]/\∃oe vs,h.get? e=some oe/\oe.cls= .ref C/\oe.dict=od/\oe.data= .fields vs/\vs[1]?=some .none/\vs[2]?=some cx)∨∃T,ch= [e,T]/\oA h e C od cx T .none
structure xU (fs ch:List ac)(h h':cn):Prop where
 size:h.objs.size<=h'.objs.size
 keep: ∀b o,h.get? b=some o->b∉fs->b∉ch->h'.get? b=some o
 slot: ∀b o,h.get? b=some o->b∉ch->∃sl,h'.get? b=some {o with slots:=sl}
 there: ∀b o,h.get? b=some o->∃o',h'.get? b=some o'
theorem xU.trans {fs ch:List ac}{h h1 h2:cn}(a:xU fs ch h h1)(b:xU fs ch h1 h2):xU fs ch h h2:=
 ⟨bh a.size b.size,λc o e n m=>b.keep c o (a.keep c o e n m) n m,λc o e m=>by
  obtain⟨s1,e1⟩:=a.slot c o e m;obtain⟨s2,e2⟩:=b.slot c _ e1 m;exact⟨s2,e2⟩,λc o e=>let⟨o1,e1⟩:=a.there c o e;b.there c o1 e1⟩
theorem xU.upd {fs ch:List ac}{h:cn}{a:ac}{o:af}{f:Array aa->Array aa}(ho:h.get? a=some o)(m:a∈ch){vs:Array aa}(hd:o.data= .fields vs):xU fs ch h (h.update a (Obj.mapFields f)):=by
 have ne: ∀b,b∉ch->a≠b:=λb n z=>n (z▸m);refine⟨ur (Heap.size_after_update ..).symm,λb ob e _ n=> ?_,λb ob e n=>⟨ob.slots,?_⟩,λb ob e=> ?_⟩
 ·rw[cj _ _ (ne b n)];exact e
 ·rw[cj _ _ (ne b n)];exact e
 ·by_cases z:a=b
  ·subst z
   exact⟨_,fb _ ho (qe (or hd _))⟩
  ·exact⟨ob,by rw[cj _ _ z];exact e⟩
theorem xU.push {fs ch:List ac}{h:cn}{o:af} :xU fs ch h (h.push o):=
 ⟨by simp[Heap.push],λb ob e _ _=>ap _ e,λb ob e _=>⟨ob.slots,ap _ e⟩,λb ob e=>⟨ob,ap _ e⟩⟩
theorem xU.slots {fs ch S:List ac}{h h':cn}(x:Heap.SlotsOnly S h h')(sub: ∀b∈S,b∈fs):xU fs ch h h':=
 ⟨ur x.1.symm,λb ob e n _=>(x.2.1 b λz=>n (sub b z)).trans e,λb ob e _=>x.2.2 b ob e,λb ob e=>let⟨_,z⟩:=x.2.2 b ob e;⟨_,z⟩⟩
theorem zqH (o:af)(f:Array aa->Array aa):(o.mapFields f).dict=o.dict:=by
 obtain⟨c,d,dt,sl⟩:=o;cases dt <;> rfl
section
variable {M:Model} {A:cw} {E:aa->ai->Prop} {s:ai} {base:cn} {env:ly} {outer:List ly} {L e C:ac} {od:Option ac} {cx:aa} {ch:List ac} {Q:Unit->ai->Prop}
theorem zmy {oe:af}{vs:Array aa}{head:aa}{had:Bool}(xJ:A.frames=some (env::outer))(hl:s.heap.FunFrames base (env::outer))(hf:env.frame=some L)
  (he:s.heap.get? e=some oe) (hc:oe.cls= .ref C) (ho:oe.dict=od) (hd:oe.data= .fields vs) (hz:1 < vs.size) (h2:vs[2]?=some cx) (me:e∈ch)
  (h: ∀h' T,xU (w5 (env::outer)) ch s.heap h'->s.heap.objs.size<=T->oA h' e C od cx T (rawInt L)->Q () {s with heap:=h'}):
  ay M A (do let a <- frameOf env;let pl <- entryPlaceOf L had;let b <- EntryCells.newEntry head a .none (rawInt L) .none pl;setField 4#9 1 b) Q E s:=by
 have nfr:e∉w5 (env::outer):=λm=>by
  obtain⟨_,o,q,nf⟩:=hl.mem m;rw[he]at q;cases q;exact nf vs hd
 refine ad (wpAny_frameOf_fun xJ hl hf λh1 s1=>ad (wpAny_entryPlaceOf λpl Al=> ?_));unfold EntryCells.newEntry newFields;refine ad (gw ?_ (Al.sizeOk5 _ _ _ _ _));have e1:h1.get? e=some oe:=(s1.2.1 e nfr).trans he;have e2:=ap (h:=h1) {cls:= .type "traceback",dict:=none,data:= .fields ([head,Value.ref L,Value.none,rawInt L,Value.none]++(if pl.isEmpty then List.replicate 6 Value.none else pl)).toArray} e1;refine we e2 hd hz (h _ h1.objs.size ?_ (ur s1.1.symm) ?_)
 ·exact(xU.slots s1 λb z=>z).trans (xU.push.trans (xU.upd e2 me hd))
 ·have ne:h1.objs.size≠e:=gk (be e1)
  have d3:=or hd (·.setIfInBounds 1 (Value.ref h1.objs.size));refine⟨⟨_,_,fb _ e2 (qe d3),(Obj.cls_mapFields _ _).trans hc,(zqH _ _).trans ho,d3,by simp[hz],by rw[Array.getElem?_setIfInBounds_ne 2#0];exact h2⟩,ne,?_⟩;refine⟨_,_,(by rw[cj _ _ (fw ne)];exact cm _ rfl),rfl,?_⟩
  ·rcases Al with rfl | ⟨_,_,_,_,_,_,_,rfl⟩ <;> simp
theorem zmz (xJ:A.frames=some (env::outer))(hl:s.heap.FunFrames base (env::outer))(hf:env.frame=some L)(x:cS s.heap e C od cx ch)
  (h: ∀h' T,xU (w5 (env::outer)) ch s.heap h'->s.heap.objs.size<=T->oA h' e C od cx T (rawInt L)->Q () {s with heap:=h'}):ay M A (noteFrame 4#9 env) Q E s:=by
 unfold noteFrame;simp only[hf];rcases x with⟨rfl,oe,vs,he,hc,ho,hd,h1,h2⟩ | ⟨T,rfl,⟨oe,vs,he,hc,ho,hd,h1,h2⟩,ne,oT,ts,hT,hdT,h3⟩
 ·refine ad (ij he hd h1 ?_)
  rw[if_neg 3#0];exact zmy xJ hl hf he hc ho hd (ju.mp h1).1 h2 3#0 h
 ·refine ad (ij he hd h1 ?_)
  rw[if_pos (show(Value.ref T !=Value.none)=true from by simp)];refine ad (ij hT hdT h3 ?_);rw[if_neg (show ¬ ((Value.none==rawInt L)=true)from by simp[rawInt])];refine ad (we hT hdT (ju.mp h3).1 ?_);have st:xU (w5 (env::outer)) [e,T] s.heap (s.heap.update T (Obj.mapFields (·.setIfInBounds 3 Value.none))):=xU.upd hT 3#0 hdT;have e1:(s.heap.update T (Obj.mapFields (·.setIfInBounds 3 Value.none))).get? e=some oe:=by rw[cj _ _ ne];exact he
  refine zmy xJ (hl.of_keeps λb o q nf=> ?_) hf e1 hc ho hd (ju.mp h1).1 h2 3#0 λh' T' s2 z f=>h h' T' (st.trans s2) (bh st.size z) f;by_cases z:T=b
  ·subst z;rw[hT]at q;cases q;exact absurd hdT (nf ts)
  ·exact⟨o,by rw[cj _ _ z];exact q,rfl⟩
theorem gY {T:ac}{fl:aa}(x:oA s.heap e C od cx T fl)(h: ∀h',xU [] [T] s.heap h'->oA h' e C od cx T .none->Q () {s with heap:=h'}):ay M A (setFlight 4#9 none) Q E s:=by
 obtain⟨⟨oe,vs,he,hc,ho,hd,h1,h2⟩,ne,oT,ts,hT,hdT,h3⟩:=x;unfold setFlight;refine ad (ij he hd h1 ?_);rw[if_pos (show(Value.ref T !=Value.none)=true from by simp)];have hz:3 < ts.size:=(ju.mp h3).1;refine we hT hdT hz (h _ (xU.upd hT 3#0 hdT) ⟨⟨oe,vs,?_,hc,ho,hd,h1,h2⟩,ne,⟨_,_,fb _ hT (qe (or hdT _)),or hdT _,by simp[hz]⟩⟩);rw[cj _ _ ne];exact he
end
section
variable {X:Cx} {zc:List (ac×af)} {σ:St} {H:Hp} {s:ai}
def pJ (X:Cx)(zc:List 7#3)(b:ac):Prop:=2#9/\b≠X.env.locals/\0#7/\∀p∈X.pn++zc,p.1≠b
theorem z4.priv (I:z4 X zc σ H s){b:ac}(h:s.heap.objs.size<=b):pJ X zc b:=by
 refine⟨.inr (bh I.sz h),λz=> ?_,λx c q z=> ?_,λp hp z=> ?_⟩
 ·exact absurd I.lt (yr.mpr (z▸h))
 ·obtain⟨v,o,ho,_⟩:=I.cell x c q
  exact absurd (be ho) (yr.mpr (z▸h))
 ·exact absurd (be (I.pin p hp).1) (yr.mpr (z▸h))
theorem z4.stays {h':cn}{ch:List ac}(I:z4 X zc σ H s)(st:xU (w5 X.stack) ch s.heap h')(hch: ∀b∈ch,pJ X zc b/\H b=none):z4 X zc σ H {s with heap:=h'} :=by
 have nt: ∀b u,H b=some u->b∉ch:=λb u z m=>by rw[(hch b m).2]at z;cases z
 refine I.call' (s':= {s with heap:=h'}) (ch:=ch) rfl ⟨λb o e n nf nx=>st.keep b o e nf nx,λb o e n _ nx=>st.slot b o e nx,λb o e n _=>n,λb o e _=>st.there b o e,λb xs z=>z,λb o u z=>z,λb ps z=>⟨#[],by simpa using z⟩⟩ ?_ I.bare λb m=>(hch b m).1;intro b u z;refine(I.hok b u z).stay (λc v hc q=> ?_) (λc q=>q) λc xs q=>q;have hH:H c≠none:=by
  rcases hc with rfl | w
  ·rw[z];exact fc _
  ·rw[w];exact fc _
 refine st.keep c v q (λm=>hH (I.stkFree c m)) λm=>hH (hch c m).2
theorem z4.drop {e:ac}{f:cn->Prop}(I:z4 X zc σ H s)(h:H e=some (.ext f)):z4 X zc σ (λb=>if b=e then none else H b) s:=by
 have ne: ∀b u,H b=some u->(∀g,u≠ .ext g)->b≠e:=λb u z n w=>by rw[w,h]at z;cases z;exact n f rfl
 refine I.un (t':=s.toks) (h':=s.heap) ⟨λb o q _ _ _=>q,λb o q _ _ _=>⟨o.slots,q⟩,λb o q n _=> ?_,λb o q _=>⟨o,q⟩,λb xs z=> ?_,λb o u z=> ?_,λb ps z=>⟨#[],?_⟩⟩ λb u z=> ?_
 ·show(if b=e then none else H b)=none;split
  ·rfl
  ·exact n
 ·rw[if_neg (ne b _ z (by intro g w;cases w))];exact z
 ·rw[if_neg (ne b _ z (by intro g w;cases w))];exact z
 ·rw[if_neg (ne b _ z (by intro g w;cases w))];simpa using z
 ·replace z:(if b=e then none else H b)=some u:=z
  split at z
  ·cases z
  ·refine(I.hok b u z).stay (λc v _ q=>q) (λc q=> ?_) λc xs q=> ?_
   ·rw[if_neg (ne c _ q (by intro g w;cases w))];exact q
   ·rw[if_neg (ne c _ q (by intro g w;cases w))];exact q
end
def xF (P:ce)(w:ci)(g:aa->Prop):uC:=λouter H s E ev s'=> ∃(e C T:ac) (od:Option ac) (cx:aa) (H':Hp),ev= .ref e/\g cx/\E 5#5 od H'/\s'.os=s.os/\AllBare s'.gens/\Un (w5 outer) [] H H' s.heap s'.heap/\xG P w H' s'.heap/\
 oA s'.heap e C od cx T .none/\H' e=none/\H' T=none/\s.heap.objs.size<=e/\s.heap.objs.size<=T
section
variable {P:ce} {w:ci} {K:Frag} {mg:Str->Option aa} {base:cn} {N:List Str} {qual:Str} {scope:ll} {f:ac} {cd:aa} {A:cw} {outer:List ly} {s0:ai} {H0:Hp} {E:XK} {g g':aa->Prop}
theorem zlX {zc:List 7#3}{σ:St}{H:Hp}{s:ai}{e C:ac}{od:Option ac}{cx:aa}{ch:List ac}(I:z4 8#5 zc σ H s)(x:cS s.heap e C od cx ch)(hg:g cx)(ne:H e=none)
  (hch: ∀b∈ch,pJ 8#5 zc b/\H b=none) (me:e∈ch) (q:E 5#5 od H):(vY (xF P w g) P w K mg base N qual scope f cd A outer s0 H0 E).xe 4#9 s:=by
 show ay (bc P w) (A.deeper (envOfC qual scope s0.heap.objs.size f cd)) (leaving (envOfC qual scope s0.heap.objs.size f cd) 4#9) (λ_ s''=>xF P w g outer H0 s0 E 4#9 s'') (λe' s''=>xF P w g outer H0 s0 E e' s'') s;unfold leaving;refine ad (zmz I.ok.frames I.stack rfl x λh1 T st zT fl=> ?_);have I1:=I.stays st hch;have zT0:s0.heap.objs.size<=T:=bh I.sz zT;have nT:H T=none:=I.hok.fresh zT;have pT:=I.priv zT;refine gY fl λh2 zi fl2=> ?_;have I2:=I1.stays (h':=h2) (ch:= [T]) ⟨zi.size,λb o z n m=>zi.keep b o z 3#0 m,zi.slot,zi.there⟩ (λb m=>by rw[ao.mp m];exact⟨pT,nT⟩);have e0:s0.heap.objs.size<=e:=by
  rcases(hch e me).1.1 with z | z
  ·exact absurd (show e∈([]:List ac)from z) 3#0
  ·exact z
 exact⟨e,C,T,od,cx,H,rfl,hg,q,I2.os,I2.bare,I2.base,I2.hok,fl2,ne,nT,e0,zT0⟩
theorem zfo (gg: ∀v,g' v->g v:=by exact λ_ z=>z):rK (xF P w g') 8#5 E:=by
 rintro zc σ H s ev s' I ⟨e,C,T,od,cx,H',rfl,hg,q,os,bare,un,hok,fl,ne,nT,ze,zT⟩;have J:=I.call' (s':=s') (ch:= []) os un hok bare (λb z=>absurd z 3#0);refine zlX J (.inr ⟨T,rfl,fl⟩) (gg _ hg) ne (λb m=> ?_) 3#0 q;rcases bo.mp m with rfl | m
 ·exact⟨I.priv ze,ne⟩
 ·rw[ao.mp m];exact⟨I.priv zT,nT⟩
end
end L2
namespace L3
open PySem PySem.Spec PyProof.Rows L2
def oE (w:ci)(K:Frag)(a:ac)(us:List (z8×V)):Prop:=8#14=false/\∃(vs:List (z8×aa)),KV us vs/\∀(P:ce) (h:cn),K.In h->h.DictOf (wD P w) a vs
def txE (w:ci)(x:Str×nv×aa):rq:=⟨zlT w (.inr x.1),.str x.1 x.2.1,x.2.2⟩
theorem zmP {P:ce}{w:ci} : ∀l:List (Str×nv×aa),Pairs (wD P w) (l.map (txE w)) (l.map λx=>(Sum.inr x.1,x.2.2))
 | []=> .nil
 | x::l=> .cons (zfc P w x.1 x.2.1) rfl (zmP l)
theorem zlS {w:ci}{K:Frag}{a:ac}{n:Nat}{l:List (Str×nv×aa)}{us:List (z8×V)}(h:K.lookup a=some ⟨.type 76#1,none,.dict (l.map (txE w)).toArray n,#[]⟩)(ha:8#14=false)
  (hu:KV us (l.map λx=>(Sum.inr x.1,x.2.2))) (hn:((l.map λx=>(Sum.inr x.1:z8))).Nodup):oE w K a us:=by
 refine⟨ha,_,hu,λP hp X=>⟨_,_,_,X _ _ h,⟨rfl,rfl,rfl⟩,rfl,λe he=> ?_,by rw[rb];exact zmP l,by rw[bx];exact hn⟩⟩;obtain⟨x,_,rfl⟩:=cb.mp (List.mem_toArray.mp he);exact⟨.inr x.1,zfc P w x.1 x.2.1,rfl⟩
def zf9 (kvs:List 2#3):PV->z5->K3->Prop:=λy st Q=>match vI y with | some k=>(match zH kvs k with | some z=>Q z st | none=>False) | none=>False
def e7 (kvs:List 2#3):PV->z5->K3->Prop:=λy st Q=>match vI y with | some k=>Q (.bl (zH kvs k).isSome) st | none=>False
theorem zid {kvs:List 2#3}{x:Str}{st:z5}{Q:K3} :e7 kvs (.str x) st Q=Q (.bl (zH kvs (.inr x)).isSome) st:=rfl
theorem zlU {kvs:List 2#3}{x:Str}{z:PV}{st:z5}{Q:K3}(h:zH kvs (.inr x)=some z)(q:Q z st):zf9 kvs (.str x) st Q:=by
 show(match zH kvs (.inr x)with | some z=>Q z st | none=>False);rw[h];exact q
section
variable {X:Cx} {a b:Expr} {x:Str} {D:ac} {us:List (z8×V)} {kvs:List (z8×PV)} {Ta:zC} {pos p:fe}
theorem zrK (d:oE X.w X.K D us):qH X (λx y H Q=> ∃k v,x= .ref D/\y=kV k/\vF us k=some v/\Q v H):=by
 intro value slice zc s σ H x y vv ww Q I rx ry h hs;obtain⟨k,v,rfl,rfl,l,q⟩:=h;cases rx;obtain⟨_,vs,zg,dd⟩:=d;have dd:=dd X.prog _ I.kIn;have hT:=dd.typeIs;unfold subscriptTail;refine ad ?_;rw[wa hT.not_modules];refine ad (ja hT ue.lookup ?_);obtain⟨w',hw,rw'⟩:=uE.some_of (v:=v) (o:=valueAt vs k) (by rw[<- l];exact zg.val k);have fin:ay 1#2 X.A (subscripted slice false 7#15 ww) (λr s₃=>ay 1#2 X.A (letTemporaryGo value 7#15 r >>= λ_=>pure r) 7#4 X.xe s₃) X.xe s:=by
  rw[hs];exact wpAny_operating (wpAny_getItem_of (rS ry) dd.mapOf hw (ad (wz (az ⟨v,H,I.tok _,rw',q⟩))))
 first
  | exact az (ad fin)
  | exact ad (az (ad fin))
  | exact ad fin
theorem zrA (d:oE X.w X.K D us):yJ X (compareOp .In) (λx y H Q=> ∃k,y= .ref D/\x=kV k/\Q (.bl (vF us k).isSome) H):=by
 intro zc s σ H x y vv ww Q I rx ry h;obtain⟨k,rfl,rfl,q⟩:=h;cases ry;obtain⟨hd,vs,zg,dd⟩:=d;have dd:=dd X.prog _ I.kIn;refine wpAny_in_of (rS rx) hd dd.mapOf ?_;refine⟨.bl _,H,I.tok _,rfl,?_⟩;rw[<- (zg.val k).isSome_eq];exact q
theorem znh (hg:Gl X x)(hm:X.mg x=some 7#15)(d:oE X.w X.K D us)(hv: ∀A H,RKs X.K A H kvs us)(hb:PE X b 9#4)(hs:iW b)(hd:8#3=false:=by decide):PE X (.Subscript (.Name x p) b pos) (zK X.K (lQ (zf9 kvs) Ta)):=by
 refine xP (zmT (zrK d) (mU (v:= .ref D) hg hm rfl hd) hb hs) λσ H Q ⟨A,env,st,Q3,zg,h,k⟩=> ?_;refine⟨A,env,st,_,zg,h,λA1 H1 zd y v g1 s1 e1 h1=> ?_⟩;unfold zf9 at h1
 split at h1
 ·rename_i kk ek
  split at h1
  ·rename_i z e
   rcases(hv A1 H1).val (k:=kk)with⟨x',v',e1',e2,r'⟩ | ⟨e1',e2⟩
   ·rw[e]at e1';cases e1'
    exact⟨kk,v',rfl,sX e1 ek,e2,k A1 H1 zd _ _ g1 s1 (.val r') h1⟩
   ·rw[e]at e1';cases e1'
  ·exact h1.elim
 ·exact h1.elim
theorem zq3 {σ:St}{H:Hp}{Q:VK}(hv: ∀A H,RKs X.K A H kvs us):zK X.K (lQ (e7 kvs) Ta) σ H Q->lN (λx y H Q=> ∃k,y= .ref D/\x=kV k/\Q (.bl (vF us k).isSome) H) 9#4 (tC 7#15) σ H Q:=by
 rintro⟨A,env,st,Q3,zg,h,k⟩;refine⟨A,env,st,_,zg,h,λA1 H1 zd y v g1 s1 e1 h1=> ?_⟩;unfold e7 at h1
 split at h1
 ·rename_i kk ek
  refine⟨kk,rfl,sX e1 ek,?_⟩;have e:(vF us kk).isSome=(zH kvs kk).isSome:=by
   rcases(hv A1 H1).val (k:=kk)with⟨x',v',e1',e2,r'⟩ | ⟨e1',e2⟩
   ·rw[e1',e2];rfl
   ·rw[e1',e2];rfl
  rw[e];exact k A1 H1 zd _ _ g1 s1 7#7 h1
 ·exact h1.elim
theorem zv3 (hg:Gl X x)(hm:X.mg x=some 7#15)(d:oE X.w X.K D us)(hv: ∀A H,RKs X.K A H kvs us)(ha:PE X a 9#4)(hk:behindInMarks .In (.Name x p)=false)(hd:8#3=false:=by decide):
  PT X (.Compare a [.In] [.Name x p] pos) (x9 X.K (nJ (lQ (e7 kvs) Ta))):=by
 refine fP (znc (zrA d) ha (mU (v:= .ref D) hg hm rfl hd) hk) λσ H Q h=> ?_;have:=zhF h;exact zq3 hv this
end
end L3
namespace L2
open PySem PySem.Spec PyProof.Rows
section
variable {M:Model} {A:cw} {E:aa->ai->Prop} {env:ly}
variable {nm q:Str} {C N:ac} {bs bm:List aa} {hdct:Bool} {sn:List Str} {sub:List aa} {ab:Bool} {col:Option Bool} {dd:Option ac} {k0 k1 k2 k3 k5:Option aa} {newId:String}
theorem znq {s:ai}{x:Sem aa}{Q:Flow->ai->Prop}(hb:bm.contains (.type 19#1)=true)(hh:A.handled=none)
  (h:ay M A x (λv s1=> ∃e t od,v= .ref e/\s1.heap.get? C=some 3#6/\s1.heap.get? e=some (v7 C od t)/\E 4#9 s1) E s):ay M A (raiseStmt env (some x) none) Q E s:=by
 have hc:(Value.ref C::bm).contains (.type 19#1)=true:=by rw[my,hb,yc]
 unfold raiseStmt;refine ad (zL h λv s1 ⟨e,t,od,ev,hC,he,hE⟩=> ?_);subst ev;obtain⟨hp,g,d,tk,os⟩:=s1
 repeat(first | with_reducible refine gx he ?_ | with_reducible refine gx hC ?_ | (with_reducible refine mj hC ?_;rw[hc]) | wp_step)
 exact wpAny_raiseNew_none hh hE
end
def pL (X:Cx)(g:aa->Prop)(W:XK):Prop:= ∀(zc:List 7#3) (σ:St) (H:Hp) (s:ai) (e C:ac) (od:Option ac) (cx:aa) (ch:List ac),z4 X zc σ H s->cS s.heap e C od cx ch->g cx->H e=none->(∀b∈ch,pJ X zc b/\H b=none)->e∈ch->W 5#5 od H->X.xe 4#9 s
theorem zgs {P:ce}{w:ci}{K:Frag}{mg:Str->Option aa}{base:cn}{N:List Str}{qual:Str}{scope:ll}{f:ac}{cd:aa}{A:cw}{outer:List ly}{s0:ai}{H0:Hp}{E:XK}{g:aa->Prop} :
  pL 8#5 g E:=λ_ _ _ _ _ _ _ _ _ I x hg ne hch me q=>zlX I x hg ne hch me q
section
variable {X:Cx} {CX:uC} {k:Nat} {f C HE:ac} {fd:bu} {ps:List Str} {sp:Sp} {E:XK}
theorem zn0 {zc:List 7#3}{σ:St}{H:Hp}{s:ai}{Q:VK}{us:List aa}{vs:List V}(T:uV X.K HE)(M:xN X.K HE C)(MI:sO X.K C f)(len: ∀vs H Q E,sp vs H Q E->vs.length=ps.length)(run: ∀(s:ai) (H:Hp) (args:Args) (us':List aa) (vs:List V) (Q:VK) (E:XK),uR X.prog X.w X.K X.mg X.base (X.A.under (.builtin 85#1 ⟨.ref C::us,[]⟩)) X.stack s H->BindsTo s fd args (ps.zip us')->zJ vs us'->sp vs H Q E->
   kf 1#2 (X.A.under (.builtin 85#1 ⟨.ref C::us,[]⟩)) (.call 2#8 args) (CR CX X.stack X.prog X.w H s Q E) s) (hb:xI X.K fd ps [])
  (hx:rK CX X E) (I:z4 X zc σ H s) (r:zJ vs us) (hz:us.length<=1000)
  (h: ∀e,H e=none->s.heap.objs.size<=e->sp (.ref e::vs) (upd H e (wI e C none)) (λv H2=>v= .non/\Q 4#9 H2) E):
  ay 1#2 X.A (call 5#5 us) 7#4 X.xe s:=by
 obtain⟨hp,gg,d,tk,os⟩:=s;have KX:X.K.In hp:=I.kIn;obtain⟨nm,q,N,bs,sn,sub,ab,col,dd,k0,k1,k2,k3,k5,l⟩:=M.ob;have hf:PySem.W.typeIn X.K 2#8=some (.type "function"):=beq_iff_eq.mp MI.fn;have hq:=h 2#10 (I.hok.fresh (iu _)) (iu _);have eX:((hp.push {cls:= .type 18#1,data:= .seq us.toArray}).push (v7 C none hp.objs.size)).get? 2#10=some (v7 C none hp.objs.size):=by heap_get
 have I2:z4 X zc σ (upd H 2#10 (wI 2#10 C none)) ⟨(hp.push {cls:= .type 18#1,data:= .seq us.toArray}).push (v7 C none hp.objs.size),gg,d,tk,os⟩:=
  I.laid (t':=tk) (λb u z=>ap _ (ap _ z)) (iu _) (xok eX)
 have r2:zJ (V.ref 2#10::vs) (Value.ref 2#10::us):= .cons rfl r;have hl:(Value.ref 2#10::us++ []).length=ps.length:=by
  have e:=r2.length;rw[len _ _ _ _ hq]at e;simpa using e.symm
 have bd:=hb _ (Value.ref 2#10::us) I2.kIn hl;rw[da]at bd;refine lw (zrd (T.tail hp KX) (KX _ _ l) (uv KX MI.init) (λself=>PySem.W.bind_fn KX self hf) (bh hz 2#0) ?_);refine lj (run _ _ ⟨Value.ref 2#10::us,[]⟩ (Value.ref 2#10::us) _ _ E (I2.env0.make C us []) bd r2 hq) λrr s' hq'=> ?_;cases rr with
 | error e=>exact hx zc σ _ _ e s' I2 hq'
 | ok fl=>
  cases fl with
  | ret u=>
   obtain⟨v,H',I3,rv,ev,q3⟩:=I2.after hq';subst ev;exact⟨rv,⟨V.ref 2#10,H',I3,rfl,q3⟩⟩
  | next=>exact False.elim hq'
  | brk=>exact False.elim hq'
  | cont=>exact False.elim hq'
theorem znz {zc:List 7#3}{σ:St}{H:Hp}{s:ai}{Q:VK}{us:List aa}{vs:List V}(T:uV X.K HE)(M:xN X.K HE C)(MI:sO X.K C f)(F:zM X.prog X.w X.K X.mg X.base CX k f fd ps sp)(hr:zI (k+1) X.A)(hb:xI X.K fd ps [])
  (hx:rK CX X E) (I:z4 X zc σ H s) (r:zJ vs us) (hz:us.length<=1000)
  (h: ∀e,H e=none->s.heap.objs.size<=e->sp (.ref e::vs) (upd H e (wI e C none)) (λv H2=>v= .non/\Q 4#9 H2) E):
  ay 1#2 X.A (call 5#5 us) 7#4 X.xe s:=
 zn0 T M MI F.len (λs H args us' vs Q E e0 bd r q=>F.run _ _ s H args us' vs Q E (hr.make C us []) e0 bd r q) hb hx I r hz h
variable {x:Str} {p pos pos':fe} {W:XK} {g:aa->Prop}
def zwb (C:ac)(sp:Sp)(E W:XK):TS:=λ_ _ H=> ∀(e:ac) (R:Hp->Prop),H e=none->(∀H2 od,H2 e=some (wI e C od)->W 5#5 od 9#14->R H2)->sp [.ref e] (upd H e (wI e C none)) (λv H2=>v= .non/\R H2) E
theorem zuV (T:uV X.K HE)(M:xN X.K HE C)(MI:sO X.K C f)(F:zM X.prog X.w X.K X.mg X.base CX k f fd ps sp)(hr:zI (k+1) X.A)(hg:Gl X x)(hm:X.mg x=some 5#5)(hb:xI X.K fd ps [])(hx:rK CX X E)(tw:pL X g W)(h0:g .none)(hc:X.calm=true)
  (hdb:8#3=false:=by decide):PS X 5#12 (zwb C sp E W):=⟨λzc s σ H D I h=>by
 obtain⟨nm,q,N,bs,sn,sub,ab,col,dd,k0,k1,k2,k3,k5,l⟩:=id M.ob;rw[wf];refine ad (ia ?_);refine znq (nm:=nm) (q:=q) (C:=C) (N:=N) (bs:=bs) (bm:= .ref HE::wO) (hdct:=true) (sn:=sn) (sub:=sub) (ab:=ab) (col:=col) (dd:=dd) (k0:=k0) (k1:=k1) (k2:=k2) (k3:=k3) (k5:=k5) (newId:= 22#1) 3#0 1#12 (ad ?_);have g:ay 1#2 X.A (eval (.Call (.Name x p) [] [] pos) X.env) (EP X zc σ λv H2=> ∃e od,v= .ref e/\pJ X zc e/\H2 e=some (wI e C od)/\W 5#5 od 9#14) X.xe s:=by
  refine ef (qU I hg hm ?_ hdb);refine xn I.kIn M.kp (znz (us:= []) T M MI F hr hb hx I .nil (fv _) λe he hz=> ?_);exact h e _ he λH2 od z w=>⟨e,od,rfl,I.priv hz,z,w⟩
 refine zL g λv s1 ⟨x1,H2,J,rx,e,od,ev,pe,he,w⟩=>ad (ia (az ?_));subst ev;obtain⟨t,hE⟩:=J.exc he;refine⟨e,t,od,rx,J.kIn _ _ l,hE,?_⟩;refine tw zc σ _ s1 e C od _ [e] (J.drop he) (.inl ⟨rfl,_,_,hE,rfl,rfl,rfl,rfl,rfl⟩) h0 (if_pos rfl) (λb m=> ?_) 3#0 w;rw[ao.mp m];exact⟨pe,if_pos rfl⟩⟩
end
def oN:HO->Bool | .tup _=>true | .frz _ (.tup _)=>true | _=>false
def wN (H:Hp):Hp:=λb=>match H b with | some u=>if oN u=true then some u else none | none=>none
theorem cG {H:Hp}{b:ac}{u:HO}(h:H b=some u)(t:oN u=true):wN H b=some u:=by unfold wN;rw[h];exact if_pos t
theorem zot {H:Hp}{b:ac}{u:HO}(h:wN H b=some u):oN u=true/\H b=some u:=by
 unfold wN at h
 split at h
 ·rename_i v e
  split at h
  ·rename_i t;cases h;exact⟨t,e⟩
  ·cases h
 ·cases h
theorem zgx {H:Hp}{b:ac}(h: ∀u,H b=some u->oN u=false):wN H b=none:=by
 cases e:wN H b with
 | none=>rfl
 | some u=>obtain⟨t,z⟩:=zot e;rw[h u z]at t;cases t
theorem zm7 {P:ce}{w:ci}{H H':Hp}{h:cn}{a:ac}{u:HO}(t:oN u=true)(x:xZ P w H h a u):xZ P w H' h a u:=by
 cases u with
 | tup xs=>exact x
 | frz o v=>cases v with
  | tup xs=>exact x
  | _=>cases t
 | _=>cases t
section
variable {X:Cx} {zc:List (ac×af)} {σ:St} {H H':Hp} {s s':ai}
theorem uR.tups {P:ce}{w:ci}{K:Frag}{mg:Str->Option aa}{base:cn}{A:cw}{outer:List ly}(e:uR P w K mg base A outer s H):uR P w K mg base A outer s (wN H):=by
 have no: ∀b,H b=none->wN H b=none:=λb z=>zgx λu q=>by rw[z]at q;cases q
 refine⟨e.frames,e.mod,λb o z=>⟨(e.bs b o z).1,no b (e.bs b o z).2⟩,e.bsz,e.funs,λb m=>no b (e.frf b m),λb u z=> ?_,e.bare⟩;obtain⟨t,q⟩:=zot z;exact zm7 t (e.hok b _ q)
theorem z4.behind (I:z4 X zc σ H s)(os:s'.os=s.os)(bare:AllBare s'.gens)(un:Un (w5 X.stack) [] (wN H) H' s.heap s'.heap)(hok:xG X.prog X.w H' s'.heap):z4 X zc σ H s':=by
 have no: ∀b,H b=none->wN H b=none:=λb z=>zgx λu q=>by rw[z]at q;cases q
 refine I.call' (ch:= []) os ⟨λb o e n nf nx=>un.keep b o e (no b n) nf nx,λb o e n nf nx=>un.slot b o e (no b n) nf nx,λb o e n _=>n,λb o e nx=>un.there b o e nx,λb xs z=>z,λb o u z=>z,λb ps z=>⟨#[],by simpa using z⟩⟩ (λb u z=> ?_) bare (λb z=>absurd z 3#0);cases ht:oN u with
 | true=>
  have h':H' b=some u:=by
   cases u with
   | tup xs=>exact un.tups b xs (cG z ht)
   | frz o v=>exact un.frzs b o v (cG z ht)
   | _=>cases ht
  exact zm7 ht (hok b u h')
 | false=>
  refine(I.hok b u z).stay (λc v hc q=> ?_) (λc q=>q) λc xs q=>q;have hH:H c≠none/\∀u,H c=some u->oN u=false:=by
   rcases hc with rfl | w
   ·exact⟨by rw[z];exact fc _,λu' w=>by rw[z]at w;cases w;exact ht⟩
   ·rw[w];exact⟨fc _,λu' w'=>by cases w';rfl⟩
  exact un.keep c v q (zgx hH.2) (λm=>hH.1 (I.stkFree c m)) 3#0
abbrev Cx.exc (X:Cx)(e:ac)(pn:List 7#3)(E:aa->ai->Prop):Cx:= {X with A:=X.A.mark (some 4#9),calm:=false,pn:=pn,xe:=E}
theorem Cx.Ok.exc {e:ac}{pn:List 7#3}{E:aa->ai->Prop}(k:X.Ok):(X.exc e pn E).Ok:=
 ⟨k.mod,k.kind,k.glob,k.blt,k.above,k.inj,k.has,k.cab,(λh=>absurd (show false=true from h) fz),k.frames,k.stk,k.exf,k.bs,k.bsz,k.noex,k.exfs,k.funs,k.frf⟩
theorem Cx.Ok.unexc {e:ac}{pn:List 7#3}{E:aa->ai->Prop}(k:(X.exc e pn E).Ok)(hd:X.calm=true->X.A.handled=none):X.Ok:=
 ⟨k.mod,k.kind,k.glob,k.blt,k.above,k.inj,k.has,k.cab,hd,k.frames,k.stk,k.exf,k.bs,k.bsz,k.noex,k.exfs,k.funs,k.frf⟩
theorem z4.exc_in {e:ac}{oe:af}{E:aa->ai->Prop}{vs:Array aa}(I:z4 X zc σ H s)(he:s.heap.get? e=some oe)(hd:oe.data= .fields vs)(ne:H e=none)(nl:e≠X.env.locals):z4 (X.exc e (X.pn++ [(e,oe)]) E) zc σ H s:=by
 refine⟨I.ok.exc,I.os,I.bare,I.base,I.loc,I.cell,I.free,I.freeC,λp hp=> ?_,I.hok,I.len⟩;rcases aq.mp hp with hp | hp
 ·rcases aq.mp hp with hp | hp
  ·exact I.pin p (ax _ hp)
  ·rw[ao.mp hp]
   refine⟨he,ne,nl,λm=> ?_,λv z=>by rw[hd]at z;cases z⟩;obtain⟨_,o,q,nf⟩:=I.funs.mem m;rw[he]at q;cases q;exact nf vs hd
 ·exact I.pin p (aj _ hp)
theorem z4.exc_out {e:ac}{pn:List 7#3}{E:aa->ai->Prop}(I:z4 (X.exc e (X.pn++pn) E) zc σ H s)(hd:X.calm=true->X.A.handled=none):z4 X zc σ H s:=
 ⟨I.ok.unexc hd,I.os,I.bare,I.base,I.loc,I.cell,I.free,I.freeC,λp hp=>I.pin p ((aq.mp hp).elim (λz=>ax _ (ax _ z)) λz=>aj _ z),I.hok,I.len⟩
theorem z4.gone1 {h':cn}{t':Nat}{m:Str->Option aa}{w:Option aa}{i:Nat}{n:Str}(I:z4 X zc σ H s)(hN:X.N.Nodup)(hi:X.N[i]?=some n)
  (hm: ∀(j:Nat) (x:Str) (v:V),X.N[j]?=some x->σ[j]?=some (some v)->kC X.env.scope x->∃u,zO v u/\zhj X.env s.heap m x u) (hn:h'.Ns X.env.locals (λx=>if x=n then w else m x)) (hs:Heap.SameBut X.env.locals s.heap h'):z4 X zc (σ.set i none) H {s with heap:=h',toks:=t'} :=by
 have lo: ∀b o,X.s₀.heap.get? b=some o->b≠X.env.locals:=λb o z=>bt (bp (be z) I.ok.above);refine⟨I.ok,I.os,I.bare,⟨λb o z n nf nx=>(hs.2 b (lo b o z)).trans (I.base.keep b o z n nf nx),λb o z n nf nx=> ?_,I.base.free,λb o z nx=> ?_,I.base.tups,I.base.frzs,I.base.tbls⟩,
  ⟨_,hn,λj x v e1 e2 e3=> ?_⟩,λx c z=> ?_,I.free,I.freeC,λp hp=> ?_,λb u z=> ?_,by rw[dq];exact I.len⟩
 ·obtain⟨sl,q⟩:=I.base.slot b o z n nf nx
  exact⟨sl,(hs.2 b (lo b o z)).trans q⟩
 ·obtain⟨o',q⟩:=I.base.there b o z nx
  exact⟨o',(hs.2 b (lo b o z)).trans q⟩
 ·have ne:i≠j:=λz=>by
   subst z;rw[List.getElem?_set]at e2
   split at e2
   ·split at e2 <;> cases e2
   ·rename_i q;exact q rfl
  rw[dw ne]at e2;have nx:x≠n:=λz=>ne ((dg (ah.mp hi).1 hN).mp (hi.trans (z▸e1.symm)));obtain⟨u,ru,lk⟩:=hm j x v e1 e2 e3;refine⟨u,ru,?_⟩;rcases lk with⟨k,e⟩ | ⟨k,c,ec,hc⟩
  ·exact .inl ⟨k,(if_neg nx).trans e⟩
  ·refine .inr ⟨k,c,ec,?_⟩
   obtain⟨o,ho,r⟩:=hc;exact⟨o,(hs.2 c (I.cne x c ec)).trans ho,r⟩
 ·obtain⟨v,o,ho,hv⟩:=I.cell x c z
  exact⟨v,o,(hs.2 c (I.cne x c z)).trans ho,hv⟩
 ·obtain⟨p1,p2,p3,p4⟩:=I.pin p hp
  exact⟨(hs.2 p.1 p3).trans p1,p2,p3,p4⟩
 ·refine(I.hok b u z).stay (λc v hc q=>(hs.2 c ?_).trans q) (λc q=>q) λc xs q=>q
  rintro rfl;rcases hc with w | w
  ·rw[<- w,I.free]at z;cases z
  ·rw[I.free]at w;cases w
end
section
variable {M:Model} {A:cw} {E:aa->ai->Prop}
variable {nm q:Str} {C N:ac} {bs bm:List aa} {hdct:Bool} {sn:List Str} {sub:List aa} {ab:Bool} {col:Option Bool} {dd:Option ac} {k0 k1 k2 k3 k5:Option aa} {newId:String}
theorem zs0 {h:cn}{g:Array uk}{d:Drawn}{t:Nat}{os:lz}{e D N2:ac}{oe:af}{nm2 q2:Str}{bs2 bm2:List aa}{hdct2:Bool}{sn2:List Str}{sub2:List aa}{ab2:Bool}{col2:Option Bool}{dd2:Option ac}{l0 l1 l2 l3 l5:Option aa}{newId2:String}{Q:Bool->ai->Prop}
  (hC:h.get? C=some 3#6) (hD:h.get? D=some (jj nm2 q2 D N2 bs2 bm2 hdct2 sn2 sub2 ab2 col2 dd2 l0 l1 l2 l3 l5 newId2)) (hm:bm2.contains (.type 19#1)=true) (he:h.get? e=some oe) (hc:oe.cls= .ref C) (h1:(Value.ref C::bm).contains 7#15=true)
  (hq:Q true ⟨h,g,d,t,os⟩):ay M A (excMatches 4#9 7#15) Q E ⟨h,g,d,t,os⟩:=by
 have h2:(Value.ref D::bm2).contains (.type 19#1)=true:=by rw[my,hm,yc]
 have f:=tc_notTuple;unfold excMatches
 repeat(first | (with_reducible refine gx he ?_;rw[hc]) | with_reducible refine gx hD ?_ | (with_reducible refine mj hC ?_;rw[h1]) | (with_reducible refine mj hD ?_;rw[h2]) | wp_step)
 exact hq
end
def bO (K:Frag)(HE:ac):Prop:= ∃(nm q:Str) (N:ac) (bs:List aa) (hd:Bool) (sn:List Str) (sub:List aa) (ab:Bool) (col:Option Bool) (dd:Option ac) (k0 k1 k2 k3 k5:Option aa) (nw:String),
 K.lookup HE=some (jj nm q HE N bs wO hd sn sub ab col dd k0 k1 k2 k3 k5 nw)
theorem zoT {K:Frag}{e C HE:ac}{ws:Array aa}{sl:Array 5#8}(T:uV K HE)(M:xN K HE C):PySem.W.KitX K 4#9 5#5 (λh=>h.get? e=some ⟨.ref C,none,.fields ws,sl⟩) where
 ty:=λM' h _ q=>(PySem.W.Looks.ld q).andThen .now
 it:=λM' h KX _=>by
  obtain⟨nm,qn,N,bs,sn,sub,ab,col,dd,k0,k1,k2,k3,k5,l⟩:=M.ob;intro A' Q' E' s' k q;unfold isType loadHead;exact ad (wpAny_loadPart (k _ _ (KX _ _ l)) (az q))
 ne:=λh tp dd zf n sl KX q=>by
  obtain⟨nm,qn,N,bs,sn,sub,ab,col,dd',k0,k1,k2,k3,k5,l⟩:=M.ob;refine Bool.eq_false_iff.mpr λz=> ?_;have w:C=tp:=Value.ref.inj (beq_iff_eq.mp z);subst w;have:=KX _ _ l;rw[q]at this;exact absurd (congrArg (λo:Option af=>o.map (·.cls)) this) 3#0
 ca:=λ{prog w A E Q s} KX q hQ=>by
  obtain⟨cd,hcl,hm,hdi⟩:=M.cls;refine zrb (odo:=none) KX ⟨q,rfl,rfl,trivial⟩ hcl hm M.ga M.gg ?_ hQ;unfold findObj;rw[hcl,mh,M.cc,mh];dsimp only;rw[T.dget,mh];dsimp only;rw[T.dset]
  rfl
theorem zhB {X:Cx}{e C HE:ac}{ws:Array aa}{sl:Array 5#8}(T:uV X.K HE)(M:xN X.K HE C)(hp:(e,(⟨.ref C,none,.fields ws,sl⟩:af))∈X.pn):
  wA X (.builtin "isinstance") (λxs H Q=> ∃c cv b,xs= [.ref e,c]/\nX c=some cv/\sj X.K 5#5 cv=some b/\Q (.bl b) H):=by
 intro zc s σ H xs us Q I r h;obtain⟨c,cv,b,rfl,rc,hk,q⟩:=h;obtain⟨u1,u2,rfl,ru1,ru2⟩:=zJ.two r;cases ru1;obtain rfl:=zq7 rc ru2;exact PySem.W.kia_one (zoT T M) I.kIn (I.pin _ (ax _ hp)).1 hk (by intro z;cases z) λtk=>⟨.bl b,H,I.tok _,rfl,q⟩
end L2
namespace L3
open PySem PySem.Spec PyProof.Rows L2
mutual
def yW:PV->Bool
 | .tup xs=>tupVs xs
 | .non=>true
 | .bl _=>true
 | .int _=>true
 | .str _=>true
 | .ty _=>true
 | _=>false
def tupVs:List PV->Bool
 | []=>true
 | x::xs=>yW x&&tupVs xs
end
section
variable {K:Frag} {A:List ac} {H:Hp}
theorem tK.tups {a:ac}{vs:List V}(h:tK K A H a vs):tK K [] (wN H) a vs:=by
 rcases h with⟨h | ⟨o,h⟩,_⟩ | h
 ·exact .inl ⟨.inl (cG h rfl),3#0⟩
 ·exact .inl ⟨.inr ⟨o,cG h rfl⟩,3#0⟩
 ·exact .inr h
mutual
theorem RV.tups {x:PV}{v:V} :RV K A H x v->yW x=true->RV K [] (wN H) x v
 | .non,_=> .non
 | .bl b,_=> .bl b
 | .int i,_=> .int i
 | .str x,_=> .str x
 | .ty n,_=> .ty n
 | .tup t z r,h=> .tup t.tups z (RVs.tups r (by unfold yW at h;exact h))
 | .lst t z r,h=>by unfold yW at h;cases h
 | .dct t z r,h=>by unfold yW at h;cases h
 | .itb e n,h=>by unfold yW at h;cases h
 | .clo e,h=>by unfold yW at h;cases h
theorem RVs.tups {xs:List PV}{vs:List V} :RVs K A H xs vs->tupVs xs=true->RVs K [] (wN H) xs vs
 | .nil,_=> .nil
 | .cons r t,h=>by
  unfold tupVs at h;have h:=kc.mp h;exact .cons (RV.tups r h.1) (RVs.tups t h.2)
end
theorem RE.rvT {x:PV}{v:V}(h:RE K A H x v)(t:yW x=true):RV K A H x v:=by
 cases h with
 | val r=>exact r
 | obj e=>unfold yW at t;cases t
end
def zxO:yS:=λ_ _ _=>True
section
variable {X:Cx} {k:Nat} {f C HE:ac} {fd:bu} {E:XK} {x:Str} {p pos pos':fe} {g:aa->Prop}
def spX0 (C:ac):Sp:=λvs H Q _=> ∃e,vs= [.ref e]/\H e=some (wI e C none)/\Q .non H
theorem zvy (T:uV X.K HE)(M:xN X.K HE C)(MI:sO X.K C f)(F:zM X.prog X.w X.K X.mg X.base zY k f fd ["self"] (spX0 C))(hr:zI (k+1) X.A)(hg:Gl X x)(hm:X.mg x=some 5#5)(hb:xI X.K fd ["self"] [])(tw:pL X g E)(h0:g .none)(hE: ∀H',E 5#5 none H')(hc:X.calm=true)
  (hdb:8#3=false:=by decide):PS X 5#12 (yZ X.K zxO):=
 t8 (zuV (E:=E0) T M MI F hr hg hm hb fJ tw h0 hc hdb) λD σ H _ e R he hR=>⟨e,rfl,yM,rfl,hR _ none yM (hE _)⟩
end
end L3
namespace L2
open PySem PySem.Spec PyProof.Rows
section
variable {K:Frag} {HE C:ac}
theorem xN.sub (M:xN K HE C)(b:aa):subIn K 5#5 b=some ((Value.ref C:: .ref HE::wO).contains b):=by
 obtain⟨cd,hcl,hm,hd⟩:=M.cls;show mroIn K C b=_;unfold mroIn;rw[hcl,mh,hm]
 rfl
theorem xN.kit_ve (M:xN K HE C):sj K 5#5 (.type 27#1)=some true:=by
 unfold sj;rw[if_neg (by intro z;cases(beq_iff_eq.mp z))];show(if kitMeta 27#1 =true then subIn K 5#5 (.type 27#1)else none)=_;rw[if_pos (show kitMeta 27#1 =true by decide+kernel),M.sub]
 congr 1
end
end L2
namespace L3
open PySem PySem.Spec PyProof.Rows L2
section
variable {X:Cx}
def zf6 (neg:Bool):R3:=λx y st Q=>match x,y with | .bl a,.bl b=>Q (.bl (if neg then !(a==b)else a==b)) st | _,_=>False
theorem zqM {neg a b:Bool}{st:z5}{Q:K3} :zf6 neg (.bl a) (.bl b) st Q=Q (.bl (if neg then !(a==b)else a==b)) st:=rfl
theorem ztk:yJ X (compareOp .IsNot) (xV X.K (zf6 true)):=uJ λzc s σ H A st x y v w vv ww Q3 Q I rs ex ey rv rw h k=>by
 unfold zf6 at h
 split at h
 ·rename_i a b
  cases ex with | val ex=>cases ex;cases ey with | val ey=>cases ey;cases rv;cases rw;exact ad (az (az ⟨.bl (!(a==b)),H,I,(by cases a <;> cases b <;> rfl),k.now rs 7#7 h⟩))
 ·exact h.elim
end
section
variable {X:Cx} {a b e:Expr} {es:List Expr} {x:Str} {p pos pos':fe} {k:Nat} {Ta Tb:zC} {TA:yK}
theorem qx (hr:zI k X.A)(ha:PE X a 9#4)(hb:PE X b (zK X.K Tb))(hs:iW b:=by exact λ_ _=>rfl):PE X (.Subscript a b pos) (zK X.K (rG r6 Ta Tb)):=uA (zti hr) ha hb hs
theorem qn (i:Nat)(hN:X.N.Nodup)(hi:X.N[i]?=some x:=by rfl)(hx:tW X.env.scope x:=by exact Or.inl rfl)(hf:X.fn x=true∨X.env.scope.names.lookup x=some .local:=by first | exact .inl rfl | exact .inr rfl | assumption):PG X 3#16 (u5 X.K (gN i)):=znj hN hi hx hf
theorem qz (i:Nat)(hN:X.N.Nodup)(he:PE X e 9#4)(hi:X.N[i]?=some x:=by rfl)(hx:tW X.env.scope x:=by exact Or.inl rfl)(hs:swapsWith e 4#12 pos.line X.env=pure false:=by rfl)(hf:X.fn x=true∨X.env.scope.names.lookup x=some .local:=by first | exact .inl rfl | exact .inr rfl | assumption):
  PS X (.Assign [.Name x pos'] e pos) (yZ X.K (nH Ta (gN i))):=fU hN hi hx he hs hf
theorem qc {op:CmpOp}{R:R3}(ho:yJ X (compareOp op) (xV X.K R))(ha:PE X a 9#4)(hb:PE X b (zK X.K Tb))(hm:behindInMarks op b=false:=by exact qV _):PT X 8#15 (x9 X.K (nJ (rG R Ta Tb))):=tF ho ha hb hm
theorem qk {S:zP}{f:ac}{fd:bu}{ps:List Str}{q:Str}{st:cu}(F:zM X.prog X.w X.K X.mg X.base zY k f fd ps (zX X.K S))(hr:zI k X.A)(hm:X.mg x=some 2#8)(hk:yA X.K x q st f fd)(hb:xI X.K fd ps [])
  (ha:PA X (e::es) 1#11) (hg:Gl X x:=by rfl) (hdb:8#3=false:=by decide) (he:starEach (e::es) X.env=5#3::starEach es X.env:=by rfl) (Al:(backTo pos 1#4).any (·.1)=false:=by rfl):
  PE X 3#4 (zK X.K (qF S TA)):=zvm F hr hg hm hk.kp hb ha hdb he Al
end
end L3
namespace L2
open PySem PySem.Spec PyProof.Rows
section
variable {X:Cx} {CX:uC} {k:Nat} {f C HE:ac} {fd:bu} {ps:List Str} {sp:Sp} {E W:XK} {x:Str} {p pos pos':fe} {a:Expr} {as:List Expr} {t:TA} {g:aa->Prop}
def zwc (C:ac)(sp:Sp)(E W:XK)(t:TA):TS:=λ_ σ H=>t σ H λvs H1=>vs.length<=1000/\∀(e:ac) (R:Hp->Prop),H1 e=none->(∀H2 od,H2 e=some (wI e C od)->W 5#5 od 9#14->R H2)->sp (.ref e::vs) (upd H1 e (wI e C none)) (λv H2=>v= .non/\R H2) E
theorem zuW (T:uV X.K HE)(M:xN X.K HE C)(MI:sO X.K C f)(F:zM X.prog X.w X.K X.mg X.base CX k f fd ps sp)(hr:zI (k+1) X.A)(hg:Gl X x)(hm:X.mg x=some 5#5)(hb:xI X.K fd ps [])(hx:rK CX X E)(tw:pL X g W)(h0:g .none)(hc:X.calm=true)(ha:PA X (a::as) t)
  (hdb:8#3=false:=by decide) (he:starEach (a::as) X.env=0#6::starEach as X.env:=by rfl) (Al:(backTo pos (starEach as X.env)).any (·.1)=false:=by rfl):
  PS X (.Raise (some (.Call (.Name x p) (a::as) [] pos)) none pos') (zwc C sp E W t):=⟨λzc s σ H D I h=>by
 obtain⟨nm,q,N,bs,sn,sub,ab,col,dd,k0,k1,k2,k3,k5,l⟩:=id M.ob;rw[wf];refine ad (ia ?_);refine znq (nm:=nm) (q:=q) (C:=C) (N:=N) (bs:=bs) (bm:= .ref HE::wO) (hdct:=true) (sn:=sn) (sub:=sub) (ab:=ab) (col:=col) (dd:=dd) (k0:=k0) (k1:=k1) (k2:=k2) (k3:=k3) (k5:=k5) (newId:= 22#1) 3#0 1#12 (ad ?_);have g:ay 1#2 X.A (eval (.Call (.Name x p) (a::as) [] pos) X.env) (EP X zc σ λv H2=> ∃e od,v= .ref e/\pJ X zc e/\H2 e=some (wI e C od)/\W 5#5 od 9#14) X.xe s:=by
  refine ef (qU I hg hm ?_ hdb);refine wm (h₀:=X.base) I.ok.mod.kin M.kp (zL 6#12 λus s1 ⟨vs,H1,I1,r,q1,q2⟩=>⟨I1.kIn,?_⟩) he Al;exact znz T M MI F hr hb hx I1 r (show us.length<=1000 by rw[<- r.length];exact q1) λe he hz=>q2 e _ he λH2 od z w=>⟨e,od,rfl,I1.priv hz,z,w⟩
 refine zL g λv s1 ⟨x1,H2,J,rx,e,od,ev,pe,he,w⟩=>ad (ia (az ?_));subst ev;obtain⟨t,hE⟩:=J.exc he;refine⟨e,t,od,rx,J.kIn _ _ l,hE,?_⟩;refine tw zc σ _ s1 e C od _ [e] (J.drop he) (.inl ⟨rfl,_,_,hE,rfl,rfl,rfl,rfl,rfl⟩) h0 (if_pos rfl) (λb m=> ?_) 3#0 w;rw[ao.mp m];exact⟨pe,if_pos rfl⟩⟩
def znT (C:ac)(f:Str)(ok:V->Prop):Sp:=λvs H Q _=> ∃e v,vs= [.ref e,v]/\ok v/\H e=some (wI e C none)/\∀dx,H dx=none->Q .non (upd (upd H dx (.xd [(f,v)])) e (wI e C (some dx)))
end
end L2
namespace L3
open PySem PySem.Spec PyProof.Rows L2
abbrev XW:=ac->Option (Str×PV)->Prop
def fQ:PV->Option V | .str x=>some (.str x) | .int i=>some 1#6 | _=>none
def EW (W:XW):XK:=λc od H=> ∃C,c= .ref C/\((od=none/\W C none)∨∃dx f v y,od=some dx/\H dx=some (.xd [(f,v)])/\fQ y=some v/\W C (some (f,y)))
abbrev uF:=List PV->z5->K3->XW->Prop
def vM (K:Frag)(S:uF):Sp:=λvs H Q E=> ∃A st xs Q3 W,RS K A H st/\yT K A H xs vs/\S xs st Q3 W/\xR K A H Q3 Q/\∀c od H',EW W c od H'->E c od H'
theorem j5 {P:ce}{w:ci}{K:Frag}{mg:Str->Option aa}{base:cn}{x qual:Str}{st:cu}{f:ac}{fd:bu}{N ps:List Str}{k:Nat}{S:uF}{g:aa->Prop}(keep:Nat)(F:yA K x qual st f fd)(sc:yL N ps (zQ st))(len: ∀xs st Q W,S xs st Q W->xs.length=ps.length)
  (hB: ∃T:XW->yS,(∀(zr:aa) (A:cw) (outer:List ly) (s:ai) (H:Hp) (E:XK) (W:XW),zI k 8#12->(∀c od H',EW W c od H'->E c od H')->xC (vY (xF P w g) P w K mg base N qual (zQ st) f zr A outer s H E) (sR st) (yZ K (T W)))/\
   ∀xs sto Q W,S xs sto Q W->T W {nx:=λ_ s'=>xB (sto.length+keep) Q .non s',rt:=xB (sto.length+keep) Q} (qC N xs) sto):zM P w K mg base (xF P w g) (k+1) f fd ps (vM K S):=by
 obtain⟨T,hT,hb⟩:=hB;obtain⟨oc,od,kV,doc,pm,an,zr,ct,AC,rfl,lk,hcd⟩:=F.ex;refine zlx lk hcd sc (λvs H Q E h=> ?_) λA outer s H vs Q E hr Aq=> ?_
 ·obtain⟨A,sto,xs,Q3,W,rs,ex,hS,_⟩:=h
  rw[<- len xs sto Q3 W hS];exact(jh ex).symm
 ·obtain⟨A0,sto,xs,Q3,W,rs,ex,hS,kk,hE⟩:=Aq
  have hm:A0.length<=sto.length+keep:=by rw[rs.len];grobner
  refine⟨_,hT zr A outer s H E W hr hE,A0,qC N xs,sto,_,yY.begin rs ex,hb xs sto Q3 W hS,⟨λA' H' σ' zq zl g r q=> ?_,kk.exit hm,λA' H' σ' zq zl g r q=>q.elim,λA' H' σ' zq zl g r q=>q.elim⟩⟩;exact kk.exit hm A' H' zl .non .non g r.rs (.val .non) q
section
variable {X:Cx} {k:Nat} {f C HE:ac} {fd:bu} {ps:List Str} {S:uF} {E:XK} {W:XW} {x g:Str} {p pos pos':fe} {e a:Expr} {es:List Expr} {TA:yK} {Ta:zC} {ok:V->Prop} {gv:aa->Prop}
def vCX (S:uF)(W:XW)(T:yK):zC:=λenv st Q=>T env st λxs zd=>S xs zd Q W
theorem fR (F:zM X.prog X.w X.K X.mg X.base (xF X.prog X.w gv) k f fd ps (vM X.K S))(hr:zI k X.A)(hm:X.mg x=some 2#8){q:Str}{sm:cu}(hk:yA X.K x q sm f fd)(hb:xI X.K fd ps [])(hx:rK (xF X.prog X.w gv) X E)(hE: ∀c od H',EW W c od H'->E c od H')(ha:PA X (e::es) 1#11)
  (hg:Gl X x:=by rfl) (hdb:8#3=false:=by decide) (he:starEach (e::es) X.env=5#3::starEach es X.env:=by rfl) (Al:(backTo pos 1#4).any (·.1)=false:=by rfl):
  PE X 3#4 (zK X.K (vCX S W TA)):=by
 refine xP (zmS F hr hg hm hk.kp hb .nil hx ha hdb he Al) λσ H Q ⟨A,env,st,Q3,zg,h,k⟩=> ?_;refine⟨A,env,st,_,zg,h,λA1 H1 zd xs vs g1 s1 e1 h1=> ?_⟩;show vM X.K S (vs++ []) H1 Q E;rw[da];exact⟨A1,zd,xs,Q3,W,s1,e1,h1,k.after g1,hE⟩
def zoD (C:ac)(g:Str)(ok:V->Prop)(W:XW)(T:zC):yS:=λ_ env st=>T env st λy _=> ∃v,fQ y=some v/\ok v/\W C (some (g,y))
theorem zvf {K:Frag}{A:List ac}{H:Hp}{y:PV}{v u:V}(h:fQ y=some v)(r:RE K A H y u):u=v:=by
 cases y with
 | str x=>cases h;cases r with | val r=>cases r;rfl
 | int i=>cases h;cases r with | val r=>cases r;rfl
 | _=>cases h
theorem zv0 (T:uV X.K HE)(M:xN X.K HE C)(MI:sO X.K C f)(F:zM X.prog X.w X.K X.mg X.base zY k f fd ["self",g] (znT C g ok))(hr:zI (k+1) X.A)(hm:X.mg x=some 5#5)(hb:xI X.K fd ["self",g] [])(tw:pL X gv E)(h0:gv .none)(hE: ∀c od H',EW W c od H'->E c od H')(hc:X.calm=true)(ha:PE X a 9#4)
  (hg:Gl X x:=by rfl) (hdb:8#3=false:=by decide) (he:starEach [a] X.env= [0#6]:=by rfl):
  PS X (.Raise (some (.Call (.Name x p) [a] [] pos)) none pos') (yZ X.K (zoD C g ok W Ta)):=by
 refine t8 (zuW (E:=E0) (W:=E) T M MI F hr hg hm hb fJ tw h0 hc (vJ ha rZ he) hdb he rfl) λD σ H ⟨A,env,st,D3,zg,h,k⟩=> ?_;refine⟨A,env,st,_,zg,h,λA1 H1 zd y v g1 s1 e1 ⟨u,h1,h2,h3⟩=> ?_⟩;cases zvf h1 e1;refine⟨by show [v].length<=1000;simp,λe R he hR=>⟨e,v,rfl,h2,yM,λdx hd=>⟨rfl,hR _ (some dx) yM (hE _ _ _ ⟨C,rfl,.inr ⟨dx,g,v,y,rfl,?_,h1,h3⟩⟩)⟩⟩⟩;have ne:dx≠e:=λz=>by rw[z,yM]at hd;cases hd
 show(if dx=e then none else _)=_;rw[if_neg ne,yD ne,yM]
end
end L3
namespace L2
open PySem PySem.Spec PyProof.Rows
theorem zqU:wq table "proto.unchain" =some Builtin.«proto.unchain»:=entryFor_of_fast 7#14
section
variable {prog:ce} {w:ci} {A:cw} {E:aa->ai->Prop} {env:ly}
theorem zvP {α:Type}{s:ai}{e h0:ac}{oe oh:af}{vs hs:Array aa}{Q:α->ai->Prop}(hh:A.handled=some (.ref h0))(ne:h0≠e)(he:s.heap.get? e=some oe)(hd:oe.data= .fields vs)(hv:2 < vs.size)
  (h0e:s.heap.get? h0=some oh) (h0d:oh.data= .fields hs) (h02:hs[2]?=some .none)
  (h:E 4#9 {s with heap:=s.heap.update e (Obj.mapFields (·.setIfInBounds 2 (.ref h0)))}):ay 9#2 A (raiseNew 4#9:Sem α) Q E s:=by
 unfold raiseNew;refine ad (wpAny_handled ?_);rw[hh];dsimp only;rw[if_pos (show(Value.ref h0 !=Value.ref e)=true from by simpa using ne)];refine ad (dj (runValue_entry zqU ?_));unfold Builtin.«proto.unchain»;refine ad (ij h0e h0d h02 ?_);rw[if_pos (show(Value.none==Value.none)=true from rfl)];refine ad (az (az ⟨_,rfl,?_⟩));refine ad ?_;unfold updateField;refine ad (wpAny_load he ?_);rw[hd];dsimp only;rw[if_pos hv];exact wpAny_update he (wpAny_throw h)
variable {nm q:Str} {C N:ac} {bs bm:List aa} {hdct:Bool} {sn:List Str} {sub:List aa} {ab:Bool} {col:Option Bool} {dd:Option ac} {k0 k1 k2 k3 k5:Option aa} {newId:String}
theorem zvQ {s:ai}{x c:Sem aa}{Q:Flow->ai->Prop}{h0:ac}(hb:bm.contains (.type 19#1)=true)(hh:A.handled=some (.ref h0))(hc: ∀(Q':aa->ai->Prop) s1,Q' .none s1->ay 9#2 A c Q' E s1)
  (h:ay 9#2 A x (λv s1=> ∃e t od oh hs,v= .ref e/\h0≠e/\s1.heap.get? C=some 3#6/\s1.heap.get? e=some (v7 C od t)/\s1.heap.get? h0=some oh/\oh.data= .fields hs/\hs[2]?=some .none/\∀h',xU [] [e] s1.heap h'->(∃oe vs,h'.get? e=some oe/\oe.cls= .ref C/\oe.dict=od/\oe.data= .fields vs/\vs[1]?=some .none/\vs[2]?=some (.ref h0))->E 4#9 {s1 with heap:=h'}) E s):
  ay 9#2 A (raiseStmt env (some x) (some c)) Q E s:=by
 have hcb:(Value.ref C::bm).contains (.type 19#1)=true:=by rw[my,hb,yc]
 unfold raiseStmt;refine ad (zL h λv s1 w9=> ?_);obtain⟨e,t,od,oh,hs,ev,ne,hC,he,h0e,h0d,h02,hE⟩:=w9;subst ev;refine ad (dj (hc _ _ (ad (az ?_))));obtain⟨hp,g,d,tk,os⟩:=s1;refine ad (dj ?_);unfold excFromValue
 repeat(first | with_reducible refine gx he ?_ | with_reducible refine gx hC ?_ | (with_reducible refine mj hC ?_;rw[hcb]) | wp_step)
 have nC:e≠C:=λz=>by
  subst z;have:=hC.symm.trans he;exact absurd (congrArg (λo:Option af=>o.map (·.cls)) this) 3#0
 obtain⟨h2,eh2⟩: ∃h2,(hp.update e (Obj.mapFields λx=>x.setIfInBounds 3 Value.none)).update e (Obj.mapFields λx=>x.setIfInBounds 4 (Value.bool true))=h2:=⟨_,rfl⟩;have he1:(hp.update e (Obj.mapFields λx=>x.setIfInBounds 3 Value.none)).get? e=some (Obj.mapFields (·.setIfInBounds 3 Value.none) (v7 C od t)):=fb _ he rfl;have he2:h2.get? e=some (Obj.mapFields (·.setIfInBounds 4 (Value.bool true)) (Obj.mapFields (·.setIfInBounds 3 Value.none) (v7 C od t))):=by rw[<- eh2];exact fb _ he1 rfl
 have hC2:h2.get? C=some 3#6:=by rw[<- eh2,cj _ _ nC,cj _ _ nC];exact hC
 have h0e2:h2.get? h0=some oh:=by rw[<- eh2,cj _ _ (fw ne),cj _ _ (fw ne)];exact h0e
 have st:xU [] [e] hp h2:=by rw[<- eh2];exact(xU.upd he 3#0 rfl).trans (xU.upd he1 3#0 rfl)
 rw[eh2]
 repeat(first | with_reducible refine gx he2 ?_ | with_reducible refine gx hC2 ?_ | wp_step)
 refine zvP hh ne he2 rfl 3#0 h0e2 h0d h02 (hE _ (st.trans (xU.upd he2 3#0 rfl)) ⟨_,_,fb _ he2 rfl,rfl,rfl,rfl,rfl,rfl⟩)
end
theorem zrs {CX:uC}{P:ce}{w:ci}{K:Frag}{mg:Str->Option aa}{base:cn}{f h:ac}{name qual:Str}{params:Arguments}{body:List cu}{scope:ll}{dV kV doc pm zr ct oc:aa}{an od:Option ac}
  {AC:Array 5#8} {N ps:List Str} {A:cw} {outer:List ly} {s:ai} {H:Hp} {args:Args} {us:List aa} {vs:List V} {Q:VK} {E:XK} (lk:K.lookup f=some ⟨oc,od,.func 1#7,AC⟩) (hcd:codeIn K zr qual=true) (S:yL N ps scope)
  (hh:A.handled=some (.ref h)) (dp:A.depth < recursionLimit) (e0:uR P w K mg base A outer s H) (hb:BindsTo s 1#7 args (ps.zip us)) (r:zJ vs us) (hl:vs.length=ps.length)
  (hbody: ∃t,xC ((vY CX P w K mg base N qual scope f zr {A with handled:=none} outer s H E).exc h [] 6#7) body t/\t {nx:=λ_ H'=>Q .non H',rt:=Q} (start N vs) H):kf (bc P w) A (.call 2#8 args) (CR CX outer P w H s Q E) s:=by
 have KX:K.In s.heap:=e0.mod.kin.keeps λb o e=>(e0.bs b o e).1;have lim:s.heap.NoLimit:=e0.mod.nolimit.keeps λb o e=>(e0.bs b o e).1;have hkind: ∀y∈ps.zip us,scope.names.lookup y.1=some .local∨(scope.names.lookup y.1=some .cell/\((cellsFrom (s.heap.objs.size+1) scope.names []).lookup y.1).isSome=true):=λ⟨n,v⟩ hy=>by
  rcases S.par n (qi hy).1 with q | q
  ·exact .inl q
  ·exact .inr ⟨q,vt _ _ _ (.inl q)⟩
 refine vw dp (KX _ _ lk) rfl S.co S.gen rfl (codeRec_of KX hcd) (hb _ _ _ _ ?_);refine sv S.kind hkind λenv he s1 x=> ?_;subst he;refine⟨lim.keeps x.toInCall.keep,codeAny_func ?_⟩;obtain⟨t,ht,hq⟩:=hbody;have e1:uR P w K mg base {A with handled:=none} outer s H:=⟨e0.frames,e0.mod,e0.bs,e0.bsz,e0.funs,e0.frf,e0.hok,e0.bare⟩;have I0:z4 (vY CX P w K mg base N qual scope f zr {A with handled:=none} outer s H E) [] (start N vs) H s1:=zlF S rfl e1 hl r x;have I:z4 ((vY CX P w K mg base N qual scope f zr {A with handled:=none} outer s H E).exc h [] 6#7) [] (start N vs) H s1:=⟨I0.ok.exc,I0.os,I0.bare,I0.base,I0.loc,I0.cell,I0.free,I0.freeC,I0.pin,I0.hok,I0.len⟩;have eA:(({A with handled:=none} :cw).deeper 9#7).mark (some (.ref h))=A.deeper 9#7:=by
  obtain⟨a1,a2,a3,a4,a5⟩:=A;cases hh;rfl
 have go:ay (bc P w) ((({A with handled:=none} :cw).deeper 9#7).mark (some (.ref h))) (execs body 9#7) _ 6#7 s1:=ht [] s1 (start N vs) H _ I hq;rw[eA]at go;refine jy go (λfl s' hs=> ?_) λe s' hs=>hs.elim;cases fl with
 | ret u=>obtain⟨v,σ',H',J,rv,q⟩:=hs;exact⟨v,H',J.os,J.bare,J.base,J.hok,rv,q⟩
 | next=>obtain⟨σ',H',J,q⟩:=hs;exact⟨.non,H',J.os,J.bare,J.base,J.hok,rfl,q⟩
 | brk=>obtain⟨_,_,_,q⟩:=hs;exact False.elim q
 | cont=>obtain⟨_,_,_,q⟩:=hs;exact False.elim q
def bJ (P:ce)(w:ci)(K:Frag)(mg:Str->Option aa)(base:cn)(f:ac)(fd:bu)(C:ac):Prop:= ∀(A:cw) (outer:List ly) (h:ac) (s:ai) (H:Hp) (args:Args) (us:List aa) (vs:List V) (Q:VK) (E:XK),A.handled=some (.ref h)->A.depth < recursionLimit->uR P w K mg base A outer s H->BindsTo s fd args ((["self"]:List Str).zip us)->zJ vs us->L3.spX0 C vs H Q E->
 kf (bc P w) A (.call 2#8 args) (CR zY outer P w H s Q E) s
def zpD (K:Frag)(D:ac):Prop:= ∃(nm q:Str) (N:ac) (bs bm:List aa) (hd:Bool) (sn:List Str) (sub:List aa) (ab:Bool) (col:Option Bool) (dd:Option ac) (k0 k1 k2 k3 k5:Option aa) (nw:String),
 K.lookup D=some (jj nm q D N bs bm hd sn sub ab col dd k0 k1 k2 k3 k5 nw)/\bm.contains (.type 19#1)=true
section
variable {X:Cx} {zc:List (ac×af)} {σ:St} {H:Hp} {s s':ai} {ev:aa} {E:XK} {g:aa->Prop} {y:Str} {yp hpos:fe} {nm:Option Str} {body:List cu} {HE Dc:ac} {Q:Flow->ai->Prop}
theorem zhH (I:z4 X zc σ H s)(hq:xF X.prog X.w g X.stack (wN H) s E ev s')(Ag:X.stack=X.env::X.outer)(xJ:X.env.frame=some X.env.locals)
  (hE: ∀c od H,E c od H->∃C,c= .ref C/\xN X.K HE C/\(Value.ref C:: .ref HE::wO).contains (.ref Dc)=true) (Z:zpD X.K Dc) (hgy:Gl X y) (hmy:X.mg y=some (.ref Dc)) (hdy:(y==(11#1 :Str))=false)
  (k: ∀(e C T:ac) (od:Option ac) (cx:aa) (h2:cn) (H':Hp),g cx->E 5#5 od H'->oA h2 e C od cx T .none->H e=none->e≠X.env.locals->z4 X zc σ H {s' with heap:=h2} ->(∀{s2:ai} {h3:cn},z4 X zc σ H s2->xU [] [T] s2.heap h3->z4 X zc σ H {s2 with heap:=h3})->
   kf 1#2 (X.A.mark (some 4#9)) (.handlers 4#9 [.ExceptHandler none nm body hpos] X.env) (λr s₂=>match r with
    | .ok f=>(match nm with
     | none=>Q f s₂
     | some n=>ay 1#2 X.A (do bindName X.env n .none;unbindBehindTheSuite X.env n hpos) (λ_ s₃=>Q f s₃) X.xe s₂)
    | .error x=>cameBackBy 1#2 X.A X.env X.xe x s₂) {s' with heap:=h2}):
  ay 1#2 X.A (noteFrame ev X.env) (λ_ s₂=>ay 1#2 X.A (setFlight ev none) (λ_ s₃=>ay 1#2 X.A (handleBy ev X.env [.ExceptHandler (some (.Name y yp)) nm body hpos]) Q X.xe s₃) X.xe s₂) X.xe s':=by
 obtain⟨e,C',T,od,cx,H',rfl,hg,eE,os,bare,un,hok,fl,_,_,ze,zT⟩:=hq;obtain⟨C,eC,M,hc⟩:=hE _ _ _ eE;cases eC;have J:=I.behind os bare un hok;have ne:H e=none:=I.hok.fresh ze;have nT:H T=none:=I.hok.fresh zT;refine zmz (L:=X.env.locals) (by rw[J.ok.frames,Ag]) (Ag▸J.stack) xJ (.inr ⟨T,rfl,fl⟩) λh1 T1 st zT1 fl1=> ?_;have J1:=J.stays (h':=h1) (ch:= [e,T]) (Ag▸st) (λb m=>by
  rcases bo.mp m with rfl | m
  ·exact⟨I.priv ze,ne⟩
  ·rw[ao.mp m];exact⟨I.priv zT,nT⟩)
 have pT1:=J.priv zT1;have nT1:H T1=none:=J.hok.fresh zT1;have on: ∀{s2:ai} {h2:cn},z4 X zc σ H s2->xU [] [T1] s2.heap h2->z4 X zc σ H {s2 with heap:=h2} :=λ{s2 h2} I2 zi=>
  I2.stays (ch:= [T1]) ⟨zi.size,λb o z n m=>zi.keep b o z 3#0 m,zi.slot,zi.there⟩ (λb m=>by rw[ao.mp m];exact⟨pT1,nT1⟩)
 refine gY fl1 λh2 zi fl2=> ?_;have J2:=on J1 zi;have nl:e≠X.env.locals:=(I.priv ze).2.1;refine wpAny_handleBy_cons (codeAny_handlers_test ?_) (by intro q;cases q);obtain⟨oe,ws,eo,oc,_,odt,_⟩:=id fl2.ob;refine qU (X:=X.exc e (X.pn++ [(e,oe)]) 6#7) (J2.exc_in eo odt ne nl) hgy hmy ?_ hdy;obtain⟨nm,qq,N,bs,sn,sub,ab,col,dd,k0,k1,k2,k3,k5,l⟩:=id M.ob;obtain⟨nm',q',N',bs',bm',hd',sn',sub',ab',col',dd',l0,l1,l2,l3,l5,nw',l',hbm⟩:=Z;exact zs0 (J2.kIn _ _ l) (J2.kIn _ _ l') hbm eo oc hc (k e _ T1 od cx h2 H' hg eE fl2 ne nl J2 on)
end
section
variable {X:Cx} {k k2 i j4:Nat} {f f2 C C2 HE:ac} {fd fd2:bu} {ps:List Str} {sp:Sp} {E W:XK} {x y x2 n:Str} {p zv epos yp hpos pos p2 cp2 p3 p4:fe} {a:Expr} {as:List Expr} {b0:cu} {suite:List cu} {ta:TA} {gt:aa->Prop}
def zwe (sp:Sp)(E W:XK)(C2:ac)(ta:TA):TS:=λD σ H=>ta σ H λvs H1=>sp vs H1 (λ_ H2=>D.nx σ H2) (λ_ _ _=>False)∨(sp vs (wN H1) 6#7 E/\∀H,W (.ref C2) none H)
theorem zuZ (F:zM X.prog X.w X.K X.mg X.base (xF X.prog X.w λv=>v= .none) k f fd ps sp)(hr:zI k X.A)(hg:Gl X x)(hm:X.mg x=some 2#8)(hk:keepIn X.K 2#8=true)(hb:xI X.K fd ps [])(ha: ∀EE,PA (X.wish EE) (a::as) ta)
  (hE: ∀c od H,E c od H->∃C,c= .ref C/\xN X.K HE C) (Z:bO X.K HE) (hgy:Gl X y) (hmy:X.mg y=some (.ref HE)) (Ag:X.stack=X.env::X.outer) (xJ:X.env.frame=some X.env.locals) (hc:X.calm=true)
  (T2:uV X.K HE) (M2:xN X.K HE C2) (MI2:sO X.K C2 f2) (F2:bJ X.prog X.w X.K X.mg X.base f2 fd2 C2) (hr2:zI 1 X.A) (hg2:Gl X x2) (hm2:X.mg x2=some (.ref C2)) (hb2:xI X.K fd2 ["self"] [])
  (tw:pL X gt W) (hgt: ∀v,gt v) (hp: ∀hd,PassesOwnAt 1#2 (X.A.mark hd) X.A X.env X.xe)
  (hdb:8#3=false:=by decide) (hdy:(y==(11#1 :Str))=false:=by decide) (hd2:(x2==(11#1 :Str))=false:=by decide) (AF:swapsWith 6#4 none epos.line X.env=pure false:=by rfl)
  (he:starEach (a::as) X.env=0#6::starEach as X.env:=by rfl) (Al:(backTo zv (starEach as X.env)).any (·.1)=false:=by rfl):
  PS X (.Try [.Expr 6#4 epos] [.ExceptHandler (some (.Name y yp)) none [.Raise (some (.Call (.Name x2 p2) [] [] cp2)) (some (.Constant .none j4 p4)) p3] hpos] [] [] pos) (zwe sp E W C2 ta):=⟨λzc s σ H D I h=>by
 have hA: ∀EE:aa->ai->Prop,ay 1#2 X.A (spliced (backTo zv (starEach (a::as) X.env))) (AP (X.wish EE) zc σ λvs H1=>sp vs H1 (λ_ H2=>D.nx σ H2) (λ_ _ _=>False)∨(sp vs (wN H1) 6#7 E/\∀H,W (.ref C2) none H)) EE s:=λEE=>(ha EE).run zv zc s σ H _ (I.wish EE) h;refine wpAny_Try_except (nq (wpAny_Expr_any ?_ I.quiet AF));refine ef (qU I hg hm ?_ hdb);refine wm (h₀:=X.base) I.ok.mod.kin hk (zL (hA _) λus s1 ⟨vs,H1,I1,r,q⟩=>⟨I1.kIn,?_⟩) he Al;have I1:=I1.unwish;have zu:vs.length=ps.length:=q.elim (F.len _ _ _ _) (λq=>F.len _ _ _ _ q.1);have hl:(us++ []).length=ps.length:=by rw[da,<- r.length];exact zu
 have bd:=hb s1 us I1.kIn hl;rw[da]at bd;rcases q with q | ⟨q,hW⟩
 ·refine lw (lj (F.run X.A X.stack s1 H1 ⟨us,[]⟩ us vs _ _ hr I1.env0 bd r q) λrr s' hq=> ?_)
  cases rr with
  | ok fl=>
   cases fl with
   | ret u=>
    obtain⟨v,H',I3,rv,q3⟩:=I1.after hq;exact jz (jz ⟨σ,H',I3,q3⟩)
   | next=>exact False.elim hq
   | brk=>exact False.elim hq
   | cont=>exact False.elim hq
  | error ev=>obtain⟨e,C',T,od,cx,H',_,_,z,_⟩:=hq;exact z.elim
 ·refine lw (lj (F.run X.A X.stack s1 (wN H1) ⟨us,[]⟩ us vs _ E hr I1.env0.tups bd r q) λrr s' hq=> ?_)
  cases rr with
  | ok fl=>
   cases fl with
   | ret u=>obtain⟨_,_,_,_,_,_,_,z⟩:=hq;exact z.elim
   | next=>exact False.elim hq
   | brk=>exact False.elim hq
   | cont=>exact False.elim hq
  | error ev=>
   refine zhH I1 hq Ag xJ (λc od H z=>by obtain⟨C,e,M⟩:=hE c od H z;exact⟨C,e,M,3#0⟩) (by obtain⟨_,_,_,_,_,_,_,_,_,_,_,_,_,_,_,_,l⟩:=id Z;exact⟨_,_,_,_,_,_,_,_,_,_,_,_,_,_,_,_,_,l,rfl⟩) hgy hmy hdy λe C T1 od cx h2 H' hg _ fl2 ne nl J2 on=> ?_;cases hg;refine codeAny_handlers_suite (gY fl2 λh3 Ab fl3=> ?_);have J3:=on J2 Ab;obtain⟨oe,ws,eo,oc,od,odt,_,h02⟩:=fl3.ob;have J4:=J3.exc_in (E:=notedBy 1#2 (X.A.mark (some 4#9)) X.env (cameBackBy 1#2 X.A X.env X.xe)) eo odt ne nl;refine nq ?_;rw[wf];refine ad (ia ?_);obtain⟨nm2,q2,N2,bs2,sn2,sub2,ab2,col2,dd2,m0,m1,m2,m3,m5,l2⟩:=id M2.ob;refine zvQ (nm:=nm2) (q:=q2) (C:=C2) (N:=N2) (bs:=bs2) (bm:= .ref HE::wO) (hdct:=true) (sn:=sn2) (sub:=sub2) (ab:=ab2) (col:=col2) (dd:=dd2) (k0:=m0) (k1:=m1) (k2:=m2) (k3:=m3) (k5:=m5) (newId:= 22#1) (h0:=e) 3#0 rfl (λQ' s1 z=>ad (wpAny_Constant_none (ad (ia (az z))))) (ad ?_);have g:ay 1#2 (X.A.mark (some 4#9)) (eval (.Call (.Name x2 p2) [] [] cp2) X.env) (EP (X.exc e (X.pn++ [(e,oe)]) 8#7) zc σ λv H2=> ∃e2,v= .ref e2/\pJ (X.exc e (X.pn++ [(e,oe)]) 8#7) zc e2/\H2 e2=some (wI e2 C2 none)) 8#7 {s' with heap:=h3} :=by
    refine ef (qU J4 hg2 hm2 ?_ hd2);refine xn J4.kIn M2.kp (zn0 (X:=X.exc e (X.pn++ [(e,oe)]) _) (E:=E0) (us:= []) T2 M2 MI2 (λvs H Q E ⟨_,z,_⟩=>by rw[z];rfl) (λs H args us' vs Q E e0 bd r q=>F2 _ _ e s H args us' vs Q E rfl ?_ e0 bd r q) hb2 fJ J4 .nil (fv _) λe2 he hz=>⟨e2,rfl,yM,rfl,e2,rfl,J4.priv hz,yM⟩);rw[zmi];have:=hr2.dp;show X.A.depth+1 < _;grobner
   refine zL g λv s5 w9=>ad (ia (az ?_));obtain⟨x1,H2,J5,rx,e2,ev,pe,he2⟩:=w9;subst ev;obtain⟨t,hE2⟩:=J5.exc he2;have ne2:e≠e2:=pe.2.2.2 (e,oe) (ax _ 8#18);refine⟨e2,t,none,oe,ws,rx,ne2,J5.kIn _ _ l2,hE2,(J5.pin (e,oe) (ax _ 8#18)).1,odt,h02,λh' st5 fx=>hp _ _ _ ?_⟩;have J6:=(J5.exc_out I.ok.hd).drop he2;have pe6: ∀b∈ [e2],pJ X zc b/\(if b=e2 then none else H2 b)=none:=λb m=>by
    rw[ao.mp m];exact⟨⟨pe.1,pe.2.1,pe.2.2.1,λp hp=>pe.2.2.2 p ((aq.mp hp).elim (λz=>ax _ (ax _ z)) λz=>aj _ z)⟩,if_pos rfl⟩
   refine tw zc σ _ _ e2 C2 none 4#9 [e2] (J6.stays (ch:= [e2]) ⟨st5.size,λb o z n m=>st5.keep b o z 3#0 m,st5.slot,st5.there⟩ pe6) (.inl ⟨rfl,fx⟩) (hgt _) (if_pos rfl) pe6 3#0 (hW _)⟩
variable {t1:ac->TS} {z:Str} {zp:fe} {j:Nat}
def zwd (i j:Nat)(sp:Sp)(E:XK)(ta:TA)(t1:ac->TS):TS:=λD σ H=>ta σ H λvs H1=>sp vs H1 (λv H2=>D.nx (σ.set j (some v)) H2) (λ_ _ _=>False)∨(sp vs (wN H1) 6#7 E/\∀e,t1 e {nx:=λσ' H'=>D.nx (σ'.set i none) H',rt:=λ_ _=>False} (σ.set i (some 4#9)) H1)
theorem zuY {g:aa->Prop}(F:zM X.prog X.w X.K X.mg X.base (xF X.prog X.w g) k f fd ps sp)(hr:zI k X.A)(hg:Gl X x)(hm:X.mg x=some 2#8)(hk:keepIn X.K 2#8=true)(hb:xI X.K fd ps [])(ha: ∀EE,PA (X.wish EE) (a::as) ta)
  (hE: ∀c od H,E c od H->c= .ref C/\od=none) (M:xN X.K HE C) (hgy:Gl X y) (hmy:X.mg y=some 5#5) (Ag:X.stack=X.env::X.outer) (xJ:X.env.frame=some X.env.locals) (hc:X.calm=true)
  (hN:X.N.Nodup) (hi:X.N[i]?=some n) (hx:X.env.kindOf n=some .local) (hj:X.N[j]?=some z) (hz:X.env.kindOf z=some .local) (hs: ∀e ws sl EE,xC (X.exc e (X.pn++ [(e,⟨.ref C,none,.fields ws,sl⟩)]) EE) (b0::suite) (t1 e))
  (hdb:8#3=false:=by decide) (hdy:(y==(11#1 :Str))=false:=by decide) (AF:swapsWith 6#4 (some (.Name z zp)) epos.line X.env=pure false:=by rfl)
  (he:starEach (a::as) X.env=0#6::starEach as X.env:=by rfl) (Al:(backTo zv (starEach as X.env)).any (·.1)=false:=by rfl):
  PS X (.Try [.Assign [.Name z zp] 6#4 epos] [.ExceptHandler (some (.Name y yp)) (some n) (b0::suite) hpos] [] [] pos) (zwd i j sp E ta t1):=⟨λzc s σ H D I h=>by
 have hA: ∀EE:aa->ai->Prop,ay 1#2 X.A (spliced (backTo zv (starEach (a::as) X.env))) (AP (X.wish EE) zc σ λvs H1=>sp vs H1 (λv H2=>D.nx (σ.set j (some v)) H2) (λ_ _ _=>False)∨(sp vs (wN H1) 6#7 E/\∀e,t1 e {nx:=λσ' H'=>D.nx (σ'.set i none) H',rt:=λ_ _=>False} (σ.set i (some 4#9)) H1)) EE s:=λEE=>(ha EE).run zv zc s σ H _ (I.wish EE) h;refine wpAny_Try_except (nq (wpAny_Assign_Name ?_ AF));refine ef (qU I hg hm ?_ hdb);refine wm (h₀:=X.base) I.ok.mod.kin hk (zL (hA _) λus s1 ⟨vs,H1,I1,r,q⟩=>⟨I1.kIn,?_⟩) he Al;have I1:=I1.unwish;have zu:vs.length=ps.length:=q.elim (F.len _ _ _ _) (λq=>F.len _ _ _ _ q.1);have hl:(us++ []).length=ps.length:=by rw[da,<- r.length];exact zu
 have bd:=hb s1 us I1.kIn hl;rw[da]at bd;rcases q with q | ⟨q,q1⟩
 ·refine lw (lj (F.run X.A X.stack s1 H1 ⟨us,[]⟩ us vs _ _ hr I1.env0 bd r q) λrr s' hq=> ?_)
  cases rr with
  | ok fl=>
   cases fl with
   | ret u=>
    obtain⟨v,H',I3,rv,q3⟩:=I1.after hq;exact lI I3 hN hj (.inl hz) rv (λs4 I4=>jz (jz ⟨_,H',I4,q3⟩)) (.inr hz)
   | next=>exact False.elim hq
   | brk=>exact False.elim hq
   | cont=>exact False.elim hq
  | error ev=>obtain⟨e,C',T,od,cx,H',_,_,z,_⟩:=hq;exact z.elim
 ·refine lw (lj (F.run X.A X.stack s1 (wN H1) ⟨us,[]⟩ us vs _ E hr I1.env0.tups bd r q) λrr s' hq=> ?_)
  cases rr with
  | ok fl=>
   cases fl with
   | ret u=>obtain⟨_,_,_,_,_,_,_,z⟩:=hq;exact z.elim
   | next=>exact False.elim hq
   | brk=>exact False.elim hq
   | cont=>exact False.elim hq
  | error ev=>
   refine zhH I1 hq Ag xJ (λc od H z=>⟨C,(hE c od H z).1,M,3#0⟩) (by obtain⟨_,_,_,_,_,_,_,_,_,_,_,_,_,_,l⟩:=id M.ob;exact⟨_,_,_,_,_,_,_,_,_,_,_,_,_,_,_,_,_,l,3#0⟩) hgy hmy hdy λe C' T1 od cx h2 H' _ eE fl2 ne nl J2 on=> ?_;obtain⟨eC,rfl⟩:=hE _ _ _ eE;cases eC;refine codeAny_handlers_suite_as (gY fl2 λh3 Ab fl3=> ?_);have J3:=on J2 Ab;obtain⟨⟨c9,d9,t9,sl9⟩,ws,eo,oc,od,odt,_⟩:=fl3.ob;cases oc;cases od;cases odt;refine lI (X:=X.exc e (X.pn++ [(e,_)]) 6#7) (v:= .ref e) (J3.exc_in eo rfl ne nl) hN hi (.inl hx) rfl (λs4 J4=> ?_) (.inr hx);refine zL ((hs e ws sl9 _).run zc s4 _ H1 _ ((J4.wish _)) (q1 e)) λf s5 hf=> ?_;cases f with
   | next=>
    obtain⟨σ5,H5,J5,q5⟩:=hf;have J5:=J5.exc_out I.ok.hd;obtain⟨m,hn,hmm⟩:=J5.loc;exact wpAny_nameGoes_keeps hx hn (by rw[J5.ok.kind];rfl) λh6 v6 hn6 hs6=>⟨_,H5,J5.gone1 hN hi hmm hn6 hs6,q5⟩
   | ret u=>obtain⟨_,_,_,_,_,z⟩:=hf;exact z.elim
   | brk=>obtain⟨_,_,_,z⟩:=hf;exact z.elim
   | cont=>obtain⟨_,_,_,z⟩:=hf;exact z.elim⟩
theorem zqt {X:Cx}{e C HE:ac}{ws:Array aa}{sl:Array 5#8}(T:uV X.K HE)(M:xN X.K HE C)(hp:(e,(⟨.ref C,none,.fields ws,sl⟩:af))∈X.pn):
  wA X (.builtin "isinstance") (λxs H Q=> ∃(p:ac) (cs:List ac) (b:Bool),xs= [.ref e,.ref p]/\H p=some (.tup (cs.map V.ref))/\kitAny X.K 5#5 (cs.map Value.ref)=some b/\Q (.bl b) H):=by
 intro zc s σ H xs us Q I r h;obtain⟨p,cs,b,rfl,hp',hk,q⟩:=h;obtain⟨u1,u2,rfl,ru1,ru2⟩:=zJ.two r;cases ru1;cases ru2;obtain⟨_,zf,hv,⟨oc,od,odt,AC⟩,ho,rfl,n,rfl,rfl⟩:=I.hok p _ hp';have ei: ∀(cs:List ac) (zf:List aa),zJ (cs.map V.ref) zf->zf=cs.map Value.ref:=by
  intro cs
  induction cs with
  | nil=>intro zf h;cases h;rfl
  | cons c cs ih=>intro zf h;cases h with | cons a b=>rw[ih _ b,show _=Value.ref c from a];rfl
 rw[ei cs zf hv]at ho;exact PySem.W.kia_tup (zoT T M) I.kIn (I.pin _ (ax _ hp)).1 ho hk (by intro z;cases z) λtk=>⟨.bl b,H,I.tok _,rfl,q⟩
end
end L2
namespace L3
open PySem PySem.Spec PyProof.Rows L2
section
variable {X:Cx} {k i j j4:Nat} {f f2 C C2 HE:ac} {fd fd2:bu} {ps:List Str} {S:uF} {E:XK} {W:XW} {x y x2 n z:Str} {p zv epos yp hpos pos p2 cp2 p3 p4 zp:fe} {a:Expr} {as:List Expr} {TA:yK} {gt:aa->Prop} {b0:cu} {suite:List cu} {t1:ac->TS}
def rW:XW:=λ_ _=>False
theorem EW.no {c:aa}{od:Option ac}{H:Hp}(h:EW rW c od H):False:=by
 obtain⟨C,_,⟨_,z⟩ | ⟨_,_,_,_,_,_,_,z⟩⟩:=h <;> exact z
theorem zou {K:Frag}{A:List ac}{H:Hp} : ∀{xs:List PV} {vs:List V},yT K A H xs vs->tupVs xs=true->yT K [] (wN H) xs vs
 | [],_,.nil,_=> .nil
 | x::xs,_,.cons r t,h=>by
  unfold tupVs at h;have h:=kc.mp h;exact .cons (.val ((r.rvT h.1).tups h.1)) (zou t h.2)
theorem znG {K:Frag}{A:List ac}{H:Hp}{xs:List PV}{vs:List V}{E:XK}(e:yT K A H xs vs)(t:tupVs xs=true)(h:S xs [] 6#7 W)(hE: ∀c od H',EW W c od H'->E c od H'):vM K S vs (wN H) 6#7 E:=
 ⟨[],[],xs,_,W,⟨3#0,rfl,λi a o h=>by cases h⟩,zou e t,h,λA' H' zl r v _ _ _ q=>q,hE⟩
def zoJ (S:uF)(G:ac->Prop)(W:XW)(C2:ac)(TA:yK):yS:=λD env st=>TA env st λxs zd=>S xs zd (λ_ zi=>D.nx env zi) rW∨(tupVs xs=true/\S xs [] 6#7 (λC _=>G C)/\W C2 none)
theorem zvu {G:ac->Prop}(hG: ∀C,G C->xN X.K HE C)(F:zM X.prog X.w X.K X.mg X.base (xF X.prog X.w λv=>v= .none) k f fd ps (vM X.K S))(hr:zI k X.A)(hm:X.mg x=some 2#8){q:Str}{sm:cu}(hk:yA X.K x q sm f fd)(hb:xI X.K fd ps [])(ha: ∀EE,PA (X.wish EE) (a::as) 1#11)
  (Z:bO X.K HE) (hmy:X.mg y=some (.ref HE)) (T2:uV X.K HE) (M2:xN X.K HE C2) (MI2:sO X.K C2 f2) (F2:bJ X.prog X.w X.K X.mg X.base f2 fd2 C2) (hr2:zI 1 X.A) (hm2:X.mg x2=some (.ref C2)) (hb2:xI X.K fd2 ["self"] [])
  (tw:pL X gt E) (hgt: ∀v,gt v) (hE: ∀c od H',EW W c od H'->E c od H') (hp: ∀hd,PassesOwnAt 1#2 (X.A.mark hd) X.A X.env X.xe) (Ag:X.stack=X.env::X.outer) (xJ:X.env.frame=some X.env.locals) (hc:X.calm=true)
  (hg:Gl X x:=by rfl) (hgy:Gl X y:=by rfl) (hg2:Gl X x2:=by rfl) (hdb:8#3=false:=by decide) (hdy:(y==(11#1 :Str))=false:=by decide) (hd2:(x2==(11#1 :Str))=false:=by decide) (AF:swapsWith 6#4 none epos.line X.env=pure false:=by rfl)
  (he:starEach (a::as) X.env=0#6::starEach as X.env:=by rfl) (Al:(backTo zv (starEach as X.env)).any (·.1)=false:=by rfl):
  PS X (.Try [.Expr 6#4 epos] [.ExceptHandler (some (.Name y yp)) none [.Raise (some (.Call (.Name x2 p2) [] [] cp2)) (some (.Constant .none j4 p4)) p3] hpos] [] [] pos) (yZ X.K (zoJ S G W C2 TA)):=by
 refine t8 (zuZ (E:=λc _ _=> ∃C,c= .ref C/\xN X.K HE C) F hr hg hm hk.kp hb ha (λc od H h=>h) Z hgy hmy Ag xJ hc T2 M2 MI2 F2 hr2 hg2 hm2 hb2 tw hgt hp hdb hdy hd2 AF he Al) λD σ H ⟨A,env,st,D3,zg,h,k⟩=> ?_;refine⟨A,env,st,_,zg,h,λA1 H1 zd xs vs g1 s1 e1 h1=> ?_⟩;rcases h1 with h1 | ⟨t,h1,h2⟩
 ·exact .inl ⟨A1,zd,xs,_,rW,s1,e1,h1,λA' H' zl r v g' s' _ q=>k.nx A' H' σ env zl (g1.trans g') (zg.grow (g1.trans g') s') q,λc od H' z=>z.no.elim⟩
 ·exact .inr ⟨znG e1 t h1 λc od H' ⟨C,e,z⟩=>⟨C,e,hG C (z.elim (·.2) λ⟨_,_,_,_,_,_,_,z⟩=>z)⟩,λH=>hE _ _ _ ⟨_,rfl,.inl ⟨rfl,h2⟩⟩⟩
def zoI (S:uF)(C:ac)(i r j:Nat)(TA:yK):yS:=λD env st=>TA env st λxs zd=>S xs zd (λv zi=>D.nx (env.set j (some v)) zi) rW∨(tupVs xs=true/\env[i]?=some none/\S xs [] 6#7 (λC' od=>C'=C/\od=none)/\D.nx (env.set r (some 6#8)) zd)
theorem yY.tryA {K:Frag}{A:List ac}{H:Hp}{σ:St}{env:zF}{st:z5}{v:V}{i r:Nat}(h:yY K A H σ env st)(hi:env[i]?=some none)(nr:i≠r):yY K A H ((((σ.set i (some v)).set r (some 6#8)).set r (some 6#8)).set i none) (env.set r (some 6#8)) st:=by
 refine⟨h.rs,by simp only[dq];exact h.len,λm x e=> ?_⟩;by_cases em:r=m
 ·subst em
  have hl:r < env.length:=by have:=(ah.mp e).1;rwa [dq]at this
  rw[dv hl]at e;cases e;have hl':=h.len▸hl;exact⟨.bl true,by rw[dw nr,dv (by simp only[dq];exact hl')],.val 6#8⟩
 ·rw[dw em]at e
  have ni:i≠m:=λz=>by subst z;rw[hi]at e;cases e
  obtain⟨u,e1,r1⟩:=h.at_ m x e;exact⟨u,by rw[dw ni,dw em,dw em,dw ni];exact e1,r1⟩
theorem zvt {r:Nat}{g:aa->Prop}(F:zM X.prog X.w X.K X.mg X.base (xF X.prog X.w g) k f fd ps (vM X.K S))(hr:zI k X.A)(hm:X.mg x=some 2#8){q:Str}{sm:cu}(hk:yA X.K x q sm f fd)(hb:xI X.K fd ps [])(ha: ∀EE,PA (X.wish EE) (a::as) 1#11)
  (M:xN X.K HE C) (hmy:X.mg y=some 5#5) (Ag:X.stack=X.env::X.outer) (xJ:X.env.frame=some X.env.locals) (hc:X.calm=true)
  (hN:X.N.Nodup) (hi:X.N[i]?=some n) (hx:X.env.kindOf n=some .local) (hj:X.N[j]?=some z) (hz:X.env.kindOf z=some .local) (nr:i≠r) (hs: ∀e ws sl EE,xC (X.exc e (X.pn++ [(e,⟨.ref C,none,.fields ws,sl⟩)]) EE) (b0::suite) (t1 e))
  (ht: ∀e D σ H,i < σ.length->σ[i]?=some (some 4#9)->r < σ.length->(∀p vs,H p=none->D.nx ((σ.set r (some 6#8)).set r (some 6#8)) (upd H p (.tup vs)))->t1 e D σ H) (hri:i < X.N.length/\r < X.N.length)
  (hg:Gl X x:=by rfl) (hgy:Gl X y:=by rfl) (hdb:8#3=false:=by decide) (hdy:(y==(11#1 :Str))=false:=by decide) (AF:swapsWith 6#4 (some (.Name z zp)) epos.line X.env=pure false:=by rfl)
  (he:starEach (a::as) X.env=0#6::starEach as X.env:=by rfl) (Al:(backTo zv (starEach as X.env)).any (·.1)=false:=by rfl):
  PS X (.Try [.Assign [.Name z zp] 6#4 epos] [.ExceptHandler (some (.Name y yp)) (some n) (b0::suite) hpos] [] [] pos) (yZ X.K (zoI S C i r j TA)):=by
 have J:=zuY (yp:=yp) (hpos:=hpos) (pos:=pos) (E:=λc od _=>c= .ref C/\od=none) F hr hg hm hk.kp hb ha (λc od H h=>h) M hgy hmy Ag xJ hc hN hi hx hj hz hs hdb hdy AF he Al;refine⟨λzc s σ H D I ⟨A,env,st,D3,zg,h,k⟩=>J.run zc s σ H D I ⟨A,env,st,_,zg,h,λA1 H1 zd xs vs g1 s1 e1 h1=> ?_⟩⟩;have hl:σ.length=X.N.length:=I.len;rcases h1 with h1 | ⟨t,e0,h1,h2⟩
 ·exact .inl ⟨A1,zd,xs,_,rW,s1,e1,h1,λA' H' zl r v g' s' e' q=>k.nx A' H' _ _ zl (g1.trans g') ((zg.grow (g1.trans g') s').set j e') q,λc od H' z=>z.no.elim⟩
 ·refine .inr ⟨znG e1 t h1 λc od H' ⟨C',e,z⟩=> ?_,λe=>ht e _ _ _ (by rw[dq];grobner) (dv 0#0) (by rw[dq];grobner) λp vs hp=> ?_⟩
  ·rcases z with⟨rfl,z,_⟩ | ⟨_,_,_,_,_,_,_,_,z⟩
   ·exact⟨by rw[e,z],rfl⟩
   ·cases z
  ·exact k.nx A1 _ _ _ zd (g1.trans (zU.new hp)) (((zg.grow g1 s1).grow (zU.new hp) (s1.new hp)).tryA e0 nr) h2
abbrev qP:aa->Prop:=λv=>v= .none
abbrev gW:aa->Prop:=λ_=>True
theorem zui {P:ce}{w:ci}{g:aa->Prop} :rK (xF P w g) X (λ_ _ _=>False):=λ_ _ _ _ _ _ _ ⟨_,_,_,_,_,_,_,_,z,_⟩=>z.elim
theorem zng {e:Expr}{es:List Expr}{g:aa->Prop}(F:zM X.prog X.w X.K X.mg X.base (xF X.prog X.w g) k f fd ps (vM X.K S))(hr:zI k X.A)(hm:X.mg x=some 2#8){q:Str}{sm:cu}(hk:yA X.K x q sm f fd)(hb:xI X.K fd ps [])(ha:PA X (e::es) 1#11)
  (hg:Gl X x:=by rfl) (hdb:8#3=false:=by decide) (he:starEach (e::es) X.env=5#3::starEach es X.env:=by rfl) (Al:(backTo pos 1#4).any (·.1)=false:=by rfl):
  PE X 3#4 (zK X.K (vCX S rW TA)):=fR F hr hm hk hb zui (λ_ _ _ z=>z.no) ha hg hdb he Al
def zoC (C:ac)(W:XW):yS:=λ_ _ _=>W C none
theorem zvz {pos':fe}(T:uV X.K HE)(M:xN X.K HE C)(MI:sO X.K C f)(F:zM X.prog X.w X.K X.mg X.base zY k f fd ["self"] (spX0 C))(hr:zI (k+1) X.A)(hm:X.mg x=some 5#5)(hb:xI X.K fd ["self"] [])(tw:pL X gt E)(h0:gt .none)(hE: ∀c od H',EW W c od H'->E c od H')(hc:X.calm=true)
  (hg:Gl X x:=by rfl) (hdb:8#3=false:=by decide):PS X 5#12 (yZ X.K (zoC C W)):=
 ⟨λzc s σ H D I ⟨A,env,st,D3,zg,h,k⟩=>(zvy T M MI F hr hg hm hb tw h0 (λH'=>hE _ _ _ ⟨C,rfl,.inl ⟨rfl,h⟩⟩) hc hdb).run zc s σ H D I ⟨A,env,st,D3,zg,trivial,k⟩⟩
end
@[simp] theorem z1f {S:uF}{W:XW}{T:yK}{env:zF}{st:z5}{Q:K3} :vCX S W T env st Q=(T env st λxs zd=>S xs zd Q W):=rfl
@[simp] theorem z15 {C:ac}{g:Str}{ok:V->Prop}{W:XW}{T:zC}{D:xK}{env:zF}{st:z5} :zoD C g ok W T D env st=(T env st λy _=> ∃v,fQ y=some v/\ok v/\W C (some (g,y))):=rfl
@[simp] theorem z14 {C:ac}{W:XW}{D:xK}{env:zF}{st:z5} :zoC C W D env st=W C none:=rfl
@[simp] theorem z1A {S:uF}{G:ac->Prop}{W:XW}{C:ac}{T:yK}{D:xK}{env:zF}{st:z5} :zoJ S G W C T D env st=(T env st λxs zd=>S xs zd (λ_ zi=>D.nx env zi) rW∨(tupVs xs=true/\S xs [] 6#7 (λC _=>G C)/\W C none)):=rfl
@[simp] theorem z1_ {S:uF}{C:ac}{i r j:Nat}{T:yK}{D:xK}{env:zF}{st:z5} :zoI S C i r j T D env st=(T env st λxs zd=>S xs zd (λv zi=>D.nx (env.set j (some v)) zi) rW∨(tupVs xs=true/\env[i]?=some none/\S xs [] 6#7 (λC' od=>C'=C/\od=none)/\D.nx (env.set r (some 6#8)) zd)):=rfl
end L3
namespace L2
open PySem PySem.Spec PyProof.Rows
def Sm (n:Nat)(x:Str):Prop:=x.length<=n
theorem lG {x:Str} :Sm x.length x:=ar _
theorem dW:Sm 0 Str.empty:=ar _
theorem pC {n m:Nat}{x y:Str}(a:Sm n x)(b:Sm m y):Sm (n+m) (x++y):=by
 unfold Sm at *;rw[iw];grobner
theorem jV {n:Nat}{x:Str}(a:Sm n x)(h:n<=100000):x.length<=ak:=bh a (bh h 2#0)
def wX (x:Str):Prop:= ∀c∈x.cps.toList,c < 16 ^ 8
theorem wX.app {x y:Str}(a:wX x)(b:wX y):wX (x++y):=λc hc=>by
 have e:(x++y).cps.toList=x.cps.toList++y.cps.toList:=by
  show(x.cps++y.cps).toList=_;simp
 rw[e]at hc;rcases aq.mp hc with h | h
 ·exact a c h
 ·exact b c h
theorem zme {sep:Str}(hs:wX sep): ∀{ys:List Str},(∀y∈ys,wX y)->wX (Str.join sep ys)
 | [],_=>λc hc=>by cases hc
 | [y],h=>h y 3#0
 | y::z::r,h=>by
  show wX (y++sep++Str.join sep (z::r));exact((h y 3#0).app hs).app (zme hs λw hw=>h w (bf _ hw))
theorem zsp {sep:Str}{ys:List Str}(hs:wX sep)(h: ∀y∈ys,wX y):wX (Txt.join sep ys):=by
 show wX (Builtin.Str.glued sep ys);rw[vy];exact zme hs h
def spX0 (C:ac):Sp:=λvs H Q _=> ∃e,vs= [.ref e]/\H e=some (wI e C none)/\Q .non H
def t6 (v:V):Prop:= ∃i:Int,v= .int i/\0<=i/\i < 1200
end L2
set_option maxHeartbeats 1000000
namespace N72
open PySem L2 L3
def top (i:Nat):cu:=PySem.Challenge.pw_copiedhouse_k72_joins_exchanged.main.body.getD i (.Pass ⟨0,0,0,0⟩)
theorem qK:bootBuiltins 18#1 =some (.type 18#1):=1#0
theorem nV:bootBuiltins 76#1 =some (.type 76#1):=1#0
theorem nW:bootBuiltins "int" =some (.type "int"):=1#0
abbrev c7:cu:=top 13
local macro_rules | `(tactic| ac_rfl)=> `(tactic| exact⟨rfl,rfl,rfl,by decide+kernel,rfl,by decide+kernel,by decide+kernel⟩)
theorem zwr:yL ["term"] ["term"] (zQ c7):=by ac_rfl
abbrev dI:cu:=top 14
theorem zwh:yL [73#1] [73#1] (zQ dI):=by ac_rfl
abbrev c5:cu:=top 15
theorem zwp:yL ["deed"] ["deed"] (zQ c5):=by ac_rfl
abbrev c6:cu:=top 16
theorem zwq:yL ["deed"] ["deed"] (zQ c6):=by ac_rfl
abbrev jR:cu:=top 18
theorem zwi:yL ["tuples",66#1] ["tuples",66#1] (zQ jR):=by ac_rfl
abbrev dJ:cu:=top 19
theorem zwj:yL [4#1,"H"] [4#1,"H"] (zQ dJ):=by ac_rfl
abbrev jW:cu:=top 20
theorem zfW:yL [4#1,"kind","named","hand"] [4#1,"kind"] (zQ jW):=by ac_rfl
abbrev jT:cu:=top 21
theorem jP:yL [4#1,"splits","order","waiting",66#1] [4#1] (zQ jT):=by ac_rfl
abbrev dN:cu:=top 25
theorem zwl:yL [4#1] [4#1] (zQ dN):=by ac_rfl
abbrev dU:cu:=top 26
theorem zfV:yL ["tuples","met","one"] ["tuples"] (zQ dU):=by ac_rfl
abbrev lF:cu:=top 27
theorem jQ:yL 2#17 [4#1] (zQ lF):=by ac_rfl
abbrev dQ:cu:=top 28
theorem zwm:yL [73#1,"taken"] [73#1,"taken"] (zQ dQ):=by ac_rfl
abbrev dO:cu:=top 29
theorem zn8:yL [73#1,33#1,"deed"] [73#1,33#1] (zQ dO):=by ac_rfl
abbrev dS:cu:=top 30
theorem zn9:yL ["term",33#1,"inner"] ["term",33#1] (zQ dS):=by ac_rfl
abbrev dR:cu:=top 31
theorem zwn:yL ["S",33#1,"fitting"] ["S",33#1,"fitting"] (zQ dR):=by ac_rfl
abbrev jU:cu:=top 32
theorem zfU:yL [4#1,"come_to","hand"] [4#1] (zQ jU):=by ac_rfl
abbrev dP:cu:=top 33
theorem zfT:yL [4#1,"ends","left"] [4#1] (zQ dP):=by ac_rfl
abbrev dL:cu:=top 34
theorem dH:yL [4#1,"rows_of","ends",66#1] [4#1] (zQ dL):=by ac_rfl
abbrev dM:cu:=top 35
theorem zfS:yL ["rows","ends","held",73#1] ["rows","ends"] (zQ dM):=by ac_rfl
abbrev jS:cu:=top 36
theorem zwk:yL [4#1,"held"] [4#1,"held"] (zQ jS):=by ac_rfl
abbrev n9:cu:=top 38
theorem jO:yL 3#5 [4#1,"H","k"] (zQ n9):=by ac_rfl
abbrev eO:cu:=top 40
theorem jK:yL [8#1,25#1,"_law_cell","_law_seed"] [8#1,25#1] (zQ eO):=by ac_rfl
abbrev dC:cu:=top 41
theorem zfR:yL [0#1,21#1,"_law_digit","_law_one"] [0#1,21#1] (zQ dC):=by ac_rfl
abbrev jI:cu:=top 42
theorem tT:yL [0#1,21#1,"_law_letters",25#1,"_law_common",44#1,"_law_first","_law_longer",26#1,69#1,"_law_own"] [0#1,21#1] (zQ jI):=by ac_rfl
abbrev eZ:cu:=top 43
theorem zn6:yL [0#1,"_law_form"] [0#1] (zQ eZ):=by ac_rfl
abbrev dD:cu:=top 44
theorem oZ:yL [0#1,5#1,79#1,"_law_deep","_law_form","_law_third","_law_one","_law_other","_law_half"] 0#9 (zQ dD):=by ac_rfl
abbrev eN:cu:=top 45
theorem zn3:yL [0#1,5#1,79#1] [0#1,5#1] (zQ eN):=by ac_rfl
abbrev eW:cu:=top 46
theorem jM:yL [0#1,46#1,54#1,69#1,"_law_three","_law_term_here"] [0#1,46#1,54#1] (zQ eW):=by ac_rfl
abbrev jG:cu:=top 47
theorem jJ:yL [0#1,12#1,10#1,26#1,69#1,21#1] [0#1,12#1,10#1] (zQ jG):=by ac_rfl
abbrev eV:cu:=top 48
theorem jL:yL [0#1,51#1,10#1,26#1,"_law_ks",12#1,"_law_begin_here"] [0#1,51#1,10#1] (zQ eV):=by ac_rfl
abbrev eP:cu:=top 49
theorem oX:yL [0#1,"_law_shelf",5#1,10#1,"_law_ks",12#1,"_law_begin_here",69#1,"_law_term_here"] [0#1,"_law_shelf",5#1,10#1] (zQ eP):=by ac_rfl
abbrev dA:cu:=top 50
theorem lA:yL [0#1,59#1,10#1,"_law_own","_law_asked",5#1,"_law_row_here"] [0#1,59#1,10#1] (zQ dA):=by ac_rfl
abbrev eS:cu:=top 51
theorem zn5:yL [0#1,29#1,38#1,74#1,"_law_other"] [0#1,29#1,38#1,74#1] (zQ eS):=by ac_rfl
abbrev eR:cu:=top 52
theorem oY:yL [8#1,44#1,29#1,24#1,0#1,59#1,38#1,74#1,25#1,"_law_kind","_law_other"] 5#16 (zQ eR):=by ac_rfl
abbrev dE:cu:=top 54
theorem pA:yL [0#1,"_law_form","_law_some","_law_x","_law_y","_law_z",44#1] [0#1] (zQ dE):=by ac_rfl
abbrev l4:cu:=top 55
theorem tS:yL 0#3 [8#1,44#1,46#1,54#1,64#1] (zQ l4):=by ac_rfl
abbrev jH:cu:=top 56
theorem l9:yL 0#16 5#18 (zQ jH):=by ac_rfl
abbrev dB:cu:=top 57
theorem jN:yL [3#1,15#1,25#1,64#1,"_law_one",38#1] 6#14 (zQ dB):=by ac_rfl
abbrev dF:cu:=top 58
theorem lB:yL [3#1,15#1,25#1,"_law_refused",26#1,"e"] 6#14 (zQ dF):=by ac_rfl
abbrev eQ:cu:=top 59
theorem zn4:yL [3#1,15#1,25#1,38#1] 6#14 (zQ eQ):=by ac_rfl
abbrev zgb:cu:=top 60
theorem pB:yL [8#1,3#1,15#1,38#1,25#1,"_law_due_here",26#1,"_law_first"] [8#1] (zQ zgb):=by ac_rfl
def Dn (K:Frag)(mg:Str->Option aa)(x:Str)(st:cu)(ps:List Str):Prop:= ∃f fd,yA K x x st f fd/\xI K fd ps []/\mg x=some 2#8
def mdP:List 2#3:= [(.inr "set",.tup [.str "last",.str 84#1]),(.inr "more",.tup [.str "sum"]),(.inr "in",.tup [.str "bag"]),(.inr "out",.tup [.str "bag"]),(.inr "lay",.tup [.str 73#1]),(.inr "drop",.tup [.str 73#1])]
def kX:List 2#3:= [(.inr "shelf",.tup [.str "last",.str "sum",.str 84#1]),(.inr "many",.tup [.str "bag"]),(.inr "long",.tup [.str 73#1])]
def inI (i:Nat):cu:=match top i with
 | .ClassDef (body:=b) .. =>b.getD 0 (.Pass ⟨0,0,0,0⟩)
 | _=> .Pass ⟨0,0,0,0⟩
theorem zqn:bootBuiltins 27#1 =some (.type 27#1):=1#0
abbrev l7:cu:=inI 7
abbrev l8:cu:=inI 10
theorem zwg:yL ["self",66#1] ["self",66#1] (zQ l7):=⟨rfl,rfl,rfl,1#0,rfl,1#0,1#0⟩
theorem zn7:yL ["self"] ["self"] (zQ l8):=⟨rfl,rfl,rfl,1#0,rfl,1#0,1#0⟩
structure XE (K:Frag)(mg:Str->Option aa)(HE C J:ac)(fj:bu)(D I:ac)(fi:bu)(A9 B9:ac):Prop where
 top:uV K HE
 head:bO K HE
 gh:mg "HouseError" =some (.ref HE)
 nh:xN K HE C
 nhi:sO K C J
 gn:mg "NotHeld" =some 5#5
 nf:yA K 7#1 82#1 l7 J fj
 nb:xI K fj ["self",66#1] []
 na:bH K C 66#1
 nt:xN K HE D
 nti:sO K D I
 gt:mg "NoTurn" =some 7#15
 tf:yA K 7#1 87#1 l8 I fi
 tb:xI K fi ["self"] []
 ga:mg "NoAsk" =some (.ref A9)
 gb:mg "TooMany" =some (.ref B9)
 kh:sj K 7#15 (.ref HE)=some true
 ka:kitAny K 7#15 [.ref C,.ref A9,.ref B9]=some false
def vX (x:Str):Prop:=x.length<=16/\wX x
def mT (v:V):Prop:= ∃x,v= .str x/\vX x
structure Mo (w:ci)(K:Frag)(mg:Str->Option aa):Prop where
 len:mg "len" =none
 int:mg "int" =none
 range:mg 53#1 =none
 tuple:mg 18#1 =none
 isinstance:mg "isinstance" =none
 bool:mg "bool" =none
 str:mg "str" =none
 dict:mg 76#1 =none
 list:mg 14#1 =none
 sorted:mg "sorted" =none
 min:mg "min" =none
 max:mg "max" =none
 all:mg "all" =none
 set:mg "set" =none
 enumerate:mg "enumerate" =none
 reversed:mg 6#1 =none
 ValueError:mg 27#1 =none
 terms_in:Dn K mg "terms_in" c7 ["term"]
 deed_of:Dn K mg "deed_of" dI [73#1]
 shelf_of:Dn K mg "shelf_of" c5 ["deed"]
 term_of:Dn K mg "term_of" c6 ["deed"]
 first_called:Dn K mg 49#1 jR ["tuples",66#1]
 hand_named:Dn K mg 62#1 dJ [4#1,"H"]
 named_by_hands:Dn K mg 32#1 jW [4#1,"kind"]
 in_split_order:Dn K mg 36#1 jT [4#1]
 look:Dn K mg "look" dN [4#1]
 look_for_twice:Dn K mg 34#1 dU ["tuples"]
 look_at_rows:Dn K mg 47#1 lF [4#1]
 look_at_named_hand:Dn K mg 17#1 dQ [73#1,"taken"]
 look_at_doing:Dn K mg 43#1 dO [73#1,33#1]
 look_at_term:Dn K mg 40#1 dS ["term",33#1]
 look_at_shelf:Dn K mg 41#1 dR ["S",33#1,"fitting"]
 look_at_splits:Dn K mg 35#1 jU [4#1]
 look_at_joins:Dn K mg 42#1 dP [4#1]
 held_at_ends:Dn K mg 48#1 dL [4#1]
 held_behind:Dn K mg 55#1 dM ["rows","ends"]
 in_order_of_hands:Dn K mg 20#1 jS [4#1,"held"]
 exchanged:Dn K mg 68#1 n9 [4#1,"H","k"]
 _law_box:Dn K mg "_law_box" eO [8#1,25#1]
 _law_take:Dn K mg 78#1 dC [0#1,21#1]
 _law_words:Dn K mg 63#1 jI [0#1,21#1]
 _law_number:Dn K mg 56#1 eZ [0#1]
 _law_term:Dn K mg 70#1 dD 0#9
 _law_any_term:Dn K mg 45#1 eN [0#1,5#1]
 _law_manner:Dn K mg 57#1 eW [0#1,46#1,54#1]
 _law_begin:Dn K mg 65#1 jG [0#1,12#1,10#1]
 _law_leaves:Dn K mg 58#1 eV [0#1,51#1,10#1]
 _law_deed:Dn K mg 81#1 eP [0#1,"_law_shelf",5#1,10#1]
 _law_row:Dn K mg "_law_row" dA [0#1,59#1,10#1]
 _law_join:Dn K mg 80#1 eS [0#1,29#1,38#1,74#1]
 _law_hand:Dn K mg 72#1 eR 5#16
 _law_three_words:Dn K mg 23#1 dE [0#1]
 _law_program:Dn K mg 52#1 l4 [8#1,44#1,46#1,54#1,64#1]
 _law_held:Dn K mg 71#1 jH 5#18
 _law_swapped:Dn K mg 50#1 dB 6#14
 _law_told:Dn K mg 77#1 dF 6#14
 _law_due:Dn K mg "_law_due" eQ 6#14
 MD: ∃a us,mg 61#1 =some 8#9/\oE w K a us/\∀A H,RKs K A H mdP us
 MT: ∃a us,mg 60#1 =some 8#9/\oE w K a us/\∀A H,RKs K A H kX us
 XEs: ∃HE C J fj D I fi A B,XE K mg HE C J fj D I fi A B
local macro_rules | `(tactic| simp_all? only[$ts,*])=> `(tactic| ((try dsimp[uP]);repeat(simp only[cB,zh9,u6,kL,zhX,zhY,Nat.reduceAdd,Nat.reduceSub,Nat.reduceLT,Nat.reduceLeDiff,Int.reduceLT,Int.reduceLE,Int.reducePow,Int.reduceNeg,Int.reduceMul,Int.reduceAdd,Int.reduceSub,Int.reduceToNat,$ts,*];(try dsimp[uP]))))
local macro_rules | `(tactic| simp? only[$ts,*])=> `(tactic| ((try dsimp);repeat(simp only[cB,zh9,u6,kL,zhX,zhY,Nat.reduceAdd,Nat.reduceSub,Nat.reduceLT,Nat.reduceLeDiff,Int.reduceLT,Int.reduceLE,Int.reducePow,Int.reduceNeg,Int.reduceMul,Int.reduceAdd,Int.reduceSub,Int.reduceToNat,$ts,*];(try dsimp))))
theorem aB:iE 10 18:=⟨2#0,2#0,2#0⟩
def yE (a b:Int):Prop:=0<=a/\0<=b/\b<=2147483647
abbrev zA (a b:Int):PO:= .lst [.int a,.int b]
def zw3:zP:=λxs st Q=> ∃(ns:List Int) (k:Int),xs= [.lst (ns.map .int),.int k]/\ns.length<=63/\0<=k/\∀a b,yE a b->Q 5#2 (st++ [zA a b])
def znQ:zP:=λxs st Q=> ∃(i:Nat) (many a b:Int),xs= [.obj i,.int many]/\st[i]?=some 3#3/\yE a b/\0 < many/\many < 1099511627776/\∀d a b,0<=d->d < many->yE a b->Q (.int d) 5#11
inductive Tm (L:Type) where | num (k:Int) | lf (l:L) | op (s:Str)(a b:Tm L) | ite (a b c:Tm L)
def Tm.rank {L:Type} :Tm L->Nat
 | .op _ a b=>max a.rank b.rank+1
 | .ite a b c=>max a.rank (max b.rank c.rank)+1
 | _=>0
def Sg (s:Str):Prop:=s= "+" ∨s= "-" ∨s= "*" ∨s= "<" ∨s= "="
def opv (s:Str)(a b:Int):Int:=if s= "+" then(a+b) % 4294967296 else if s= "-" then(a - b) % 4294967296 else if s= "*" then a * b % 4294967296 else if s= "<" then(if a < b then 1 else 0)else(if a=b then 1 else 0)
def In (i:Int):Prop:=0<=i/\i < 4294967296
def Tm.val {L:Type}(lv:L->Int):Tm L->Int
 | .num k=>k
 | .lf l=>lv l
 | .op s a b=>opv s (a.val lv) (b.val lv)
 | .ite a b c=>if a.val lv=0 then c.val lv else b.val lv
def Tm.ok {L:Type}(lo:L->Prop):Tm L->Prop
 | .num k=>In k
 | .lf l=>lo l
 | .op s a b=>Sg s/\a.ok lo/\b.ok lo
 | .ite a b c=>a.ok lo/\b.ok lo/\c.ok lo
def Tm.pv {L:Type}(lp:L->PV):Tm L->PV
 | .num k=> .tup [.str "num",.int k]
 | .lf l=>lp l
 | .op s a b=> .tup [.str "op",.str s,a.pv lp,b.pv lp]
 | .ite a b c=> .tup [.str "if",a.pv lp,b.pv lp,c.pv lp]
def nN {L:Type}(lp:L->PV):Prop:= ∀l,∃(kd:Str) (zR:List PV),lp l= .tup (.str kd::zR)/\kd≠ "num" /\kd≠ "op" /\kd≠ "if"
inductive tI where | was | mine | yours
def tI.pv:tI->PV | .was=> .tup [.str "was"] | .mine=> .tup [.str "mine"] | .yours=> .tup [.str "yours"]
def tI.val (w m y:Int):tI->Int | .was=>w | .mine=>m | .yours=>y
theorem zlW:nN tI.pv:=λl=>by cases l <;> exact⟨_,[],rfl,1#0,1#0,1#0⟩
theorem zx8 (ys:List Str)(n:Nat)(h: ∀y∈ys,y.length<=n):(ys.map (·.length)).sum<=n * ys.length:=by
 induction ys with
 | nil=>simp
 | cons y r ih=>
  have h1:=h y aw;have h2:=ih λz hz=>h z (bf _ hz);rw[av,tq,bv,Nat.mul_succ];grobner
theorem ze6 {α:Type}{f:PV->Option PV}{g h:α->PV}(l:List α)(e: ∀x,f (g x)=some (h x)):(l.map g).filterMap f=l.map h:=by
 induction l with
 | nil=>rfl
 | cons x l ih=>rw[av,cp,e x,ih];rfl
theorem zfY {t u:yS}{D:xK}{env:zF}{st:z5}(h:t {D with nx:=u D} env st):uP t u D env st:=h
local macro_rules | `(tactic| symm)=> `(tactic| refine zfY ?_)
local macro_rules | `(tactic| ac_nf)=> `(tactic| simp? only[true_and])
abbrev Sh:=Str×PV×PV
def y7 (s:Sh):PV:= .tup [.str s.1,s.2.1,s.2.2]
inductive Hv where | int (v:Int) | bag (l:List (Str×Int)) | row (ws:List Str)
def Hv.pv:Hv->PV | .int v=> .int v | .bag l=>qJ l | .row ws=> .tup 6#3
inductive Lf where | shelf (s:Str) | many (s t:Str) | long (s:Str)
def Lf.pv:Lf->PV | .shelf s=> .tup [.str "shelf",.str s] | .many s t=> .tup [.str "many",.str s,.str t] | .long s=> .tup [.str "long",.str s]
theorem f6:nN Lf.pv:=λl=>by cases l <;> exact⟨_,_,rfl,1#0,1#0,1#0⟩
def zeK (sh:List Sh)(hs:List Hv)(s:Str):Option Hv:=((sh.map (·.1)).findIdx? λn=>n==s).bind λi=>hs[i]?
def Lf.val (sh:List Sh)(hs:List Hv):Lf->Option Int
 | .shelf s=>(match zeK sh hs s with | some (.int v)=>some v | _=>none)
 | .many s t=>(match zeK sh hs s with | some (.bag l)=>some (zoM l t % 4294967296) | _=>none)
 | .long s=>(match zeK sh hs s with | some (.row ws)=>some ws.length | _=>none)
theorem zwt: ∀d:Int,0<=d->d < 5->∃c,atI (("+-*<=" :Str)).cps.toList d=some c/\Sg ⟨#[c]⟩:=λd d0 d1=>by
 have:d=0∨d=1∨d=2∨d=3∨d=4:=0#0
 rcases this with rfl | rfl | rfl | rfl | rfl
 ·exact⟨43,1#0,.inl 1#0⟩
 ·exact⟨45,1#0,.inr (.inl 1#0)⟩
 ·exact⟨42,1#0,.inr (.inr (.inl 1#0))⟩
 ·exact⟨60,1#0,.inr (.inr (.inr (.inl 1#0)))⟩
 ·exact⟨61,1#0,.inr (.inr (.inr (.inr 1#0)))⟩
theorem zf1 {L:Type}{lp:L->PV}(hlp:nN lp)(t:Tm L):yU (t.pv lp)=true:=by
 cases t with
 | lf l=>obtain⟨kd,zR,e,_⟩:=hlp l;show yU (lp l)=true;rw[e];rfl
 | _=>rfl
theorem zxt {α:Type}{st:List α}{i:Nat}{x:α} :(st.set i x).take st.length=st.set i x:=cC
theorem zii {L:Type}{lp:L->PV}{m:Nat}{Q:K3}{st:z5}{t:Tm L}(hlp:nN lp)(h:Q (t.pv lp) 2#11):xB m Q (t.pv lp) st:=by
 cases t with
 | lf l=>
  obtain⟨kd,zR,e,_⟩:=hlp l;have h':Q (lp l) 2#11:=h;show xB m Q (lp l) st;rw[e]at h'⊢;exact h'
 | _=>exact h
def jZ {L:Type}(lp:L->PV)(d:Nat):zP:=λxs st Q=> ∃(i:Nat) (ls:List L) (room deep a b:Int),xs= [.obj i,.lst (ls.map lp),.int room,.int deep]/\st[i]?=some 3#3/\yE a b/\nN lp/\ls.length<=1000/\0<=deep/\deep < d/\∀(t:Tm L) a b,t.ok (λl=>l∈ls)->(t.rank:Int)<=deep->yE a b->Q (t.pv lp) 5#11
theorem znS {L:Type}{lp:L->PV}{K:Frag}{vs:List V}{H:Hp}{Q:VK}{E:XK}(h:zX K (jZ lp 0) vs H Q E):False:=by
 obtain⟨_,_,_,_,_,_,⟨_,_,_,_,_,_,_,_,_,_,_,h0,h1,_⟩,_⟩:=h;grobner
theorem zlA {tc:xE}{t u:yS}{D:xK}{env:zF}{st:z5}{b:Bool}(h: ∀Q,tc env st Q=Q b st)(k:if b=true then t D env st else u D env st):cL tc t u D env st:=by
 show tc env st _;rw[h];exact k
def zgc {L:Type}(lp:L->PV):zP:=λxs st Q=> ∃(i:Nat) (ls:List L) (a b:Int),xs= [.obj i,.lst (ls.map lp)]/\st[i]?=some 3#3/\yE a b/\nN lp/\ls.length<=1000/\∀(t:Tm L) a b,t.ok (λl=>l∈ls)->t.rank < 7->yE a b->Q (t.pv lp) 5#11
def bE (s:Sh)(kd:Str):Prop:= ∃r,s.2.1= .tup (.str kd::r)
def nM (sh:List Sh)(l:Lf):Prop:= ∃s∈sh,∃kd,bE s kd/\((kd= "bag" /\∃t,l= .many s.1 t)∨(kd= 73#1 /\l= .long s.1)∨(kd≠ "bag" /\kd≠ 73#1 /\l= .shelf s.1))
def zwB:zP:=λxs st Q=> ∃(i:Nat) (sh:List Sh) (ws:List Str) (a b:Int),xs= [.obj i,.lst 2#6,.lst 6#3]/\st[i]?=some 3#3/\yE a b/\(∀s∈sh,∃kd,bE s kd)/\sh.length<=100/\ws≠ []/\ws.length<=1000/\∀(ls:List Lf) a b,ls.length=sh.length->(∀l∈ls,nM sh l)->yE a b->Q (.lst (ls.map Lf.pv)) 5#11
def lfV (sh:List Sh)(hs:List Hv)(l:Lf):Int:=(l.val sh hs).getD 0
def zwE:zP:=λxs st Q=> ∃(i:Nat) (a b:Int),xs= [.obj i]/\st[i]?=some 3#3/\yE a b/\∀d a b,0<=d->d < 4294967296->yE a b->Q (.int d) 5#11
def zwL:zP:=λxs st Q=> ∃(i:Nat) (many a b:Int),xs= [.obj i,.int many]/\st[i]?=some 3#3/\yE a b/\1<=many/\many<=10/\∀(ws:List Str) a b,(ws.length:Int)=many->ws.Nodup->(∀w∈ws,vX w)->yE a b->Q (.lst 6#3) 5#11
theorem zxT {A B z z':Str}{c c':Nat}(h:A++⟨#[c]⟩++B++z=A++⟨#[c']⟩++B++z'):c=c':=by
 have e:=congrArg (λs:Str=>s.cps.toList) h;have cps: ∀a b:Str,(a++b).cps=a.cps++b.cps:=λa b=>rfl;simp only[cps,Array.toList_append,bi,io,jc]at e;have e2:=vb e;injection e2
theorem zlZ {d:Int}(d0:0<=d)(d1:d < 26):atI ((13#1 :Str)).cps.toList d=some (97+d.toNat):=by
 have h: ∀n < 26,((13#1 :Str)).cps.toList[n]?=some (97+n):=1#0
 obtain⟨n,rfl⟩: ∃n:Nat,d=n:=⟨d.toNat,0#0⟩;exact wK (h n 0#0)
def oG (A B:Str)(first:Int)(ws:List Str):Prop:= ∀(m:Nat) (w:Str),ws[m]?=some w->∃z:Str,w=A++⟨#[97+((first+5 * (0+(m:Int))) % 26).toNat]⟩++B++z
theorem oG.snoc {A B:Str}{first:Int}{ws:List Str}{z:Str}(h:oG A B first ws){k:Nat}(hk:ws.length=k):oG A B first (ws++ [A++⟨#[97+((first+5 * 6#15) % 26).toNat]⟩++B++z]):=λm w hw=>by
 subst hk;rcases Nat.lt_or_ge m ws.length with hl | hl
 ·rw[bw hl]at hw;exact h m w hw
 ·rw[ba hl]at hw
  have:m=ws.length:=by
   have:=(ah.mp hw).1;simp at this;grobner
  subst this;rw[ig]at hw;injection hw with hw
  exact⟨z,hw.symm⟩
theorem oG.nodup {A B:Str}{first:Int}{ws:List Str}(h:oG A B first ws)(hl:ws.length<=10):ws.Nodup:=by
 refine df.mpr λi j hi hj Av e=> ?_;obtain⟨z,e1⟩:=h i _ (bz hi);obtain⟨z',e2⟩:=h j _ (bz hj);rw[e1,e2]at e;have:=zxT e;grobner
theorem zta {α:Type}{ws:List α}{w:α}(h:ws.Nodup)(n:w∉ws)(k:Nat):(ws.set k w).Nodup:=by
 refine df.mpr λi j hi hj Av e=> ?_;rw[dq]at hi hj;rw[yn,yn]at e;have hp:=df.mp h i j hi hj Av
 split at e
 ·split at e
  ·grobner
  ·exact n (e▸jg hj)
 ·split at e
  ·exact n (e▸jg hi)
  ·exact hp e
theorem zrJ {m n:Nat}(h:n < m):wS m (n:Int)=some n:=by
 unfold wS
 first | (rw[if_neg 0#0];simp[h];done) | (simp;grobner)
def j6:List Str:= ["shelf","hand","set","more","in","out","lay","drop","tell","when",31#1,28#1,"last","sum","bag",73#1,84#1,"many","long","if","was","mine","yours","house","none","end","story"]
def iR (kd:Str)(r:List PV):Prop:=((kd= "last" ∨kd= "sum" ∨kd= "bag" ∨kd= 73#1)/\r= [])∨kd= 84#1 /\∃(n:Int) (t:Tm tI),r= [.int n,t.pv tI.pv]/\2<=n/\n < 6/\t.rank < 7
def mI:PV:= .lst [.str "last",.str "sum",.str "bag",.str 73#1,.str 84#1]
def zwC:zP:=λxs st Q=> ∃(i:Nat) (a b:Int),xs= [.obj i,mI,.bl false]/\st[i]?=some 3#3/\yE a b/\∀kd r a b,iR kd r->yE a b->Q (.tup (.str kd::r)) 5#11
def HvN (n:Nat)(kd:Str):Hv->Prop
 | .int v=>kd≠ "bag" /\kd≠ 73#1 /\In v
 | .bag l=>kd= "bag" /\(l.map (·.1)).Nodup/\l.length<=n
 | .row ws=>kd= 73#1 /\ws.length<=n
abbrev zhh (kd:Str):Hv->Prop:=HvN 40 kd
def zw2:zP:=λxs st Q=> ∃(i:Nat) (kd:Str) (r:List PV) (ws:List Str) (a b:Int),xs= [.obj i,.tup (.str kd::r),.lst 6#3]/\st[i]?=some 3#3/\yE a b/\iR kd r/\ws≠ []/\ws.length<=40/\ws.Nodup/\∀(h:Hv) a b,zhh kd h->yE a b->Q h.pv 5#11
def rL (s:Sh):Prop:= ∃(kd:Str) (r:List PV) (h:Hv),s.2.1= .tup (.str kd::r)/\iR kd r/\s.2.2=h.pv/\zhh kd h
theorem zl6 (h:Hv):yU h.pv=true:=by cases h <;> rfl
theorem oM {w:Str}{ws:List Str} :xD (.str w) 6#3=decide (w∈ws):=by
 unfold xD;rw[List.any_map,show((λy=>yB y (.str w)) ∘ PV.str)=(λn:Str=>n==w)from funext λs=>u6.2.1,yq];simp
theorem ztd {w:Str}{ws:List Str}{n:Nat}{st:z5}{Q:K3}(h:st[n]?=some (.lst 6#3)):xQ true (.str w) (.obj n) st Q=Q (.bl (!decide (w∈ws))) st:=by
 have hf:(ws.map PV.str).all xM=true:=by rw[xy];exact la.mpr λ_ _=>rfl
 have e:uN (.obj n) st=some 6#3:=by unfold uN;dsimp only;rw[h]
 unfold xQ;rw[e];dsimp only;rw[oM,hf];simp[xM]
theorem Tm.ok_mono {L:Type}{lo lo':L->Prop}(h: ∀l,lo l->lo' l): ∀{t:Tm L},t.ok lo->t.ok lo'
 | .lf l,k=>h l k
 | .num n,k=>k
 | .op s x y,⟨a,b,c⟩=>⟨a,Tm.ok_mono h b,Tm.ok_mono h c⟩
 | .ite x y z,⟨a,b,c⟩=>⟨Tm.ok_mono h a,Tm.ok_mono h b,Tm.ok_mono h c⟩
inductive Dd where | tell (x:Tm Lf) | bag (up:Bool)(s t:Str) | set (s:Str)(x:Tm Lf) | more (s:Str)(x:Tm Lf) | lay (s:Str)(x:Tm Lf)(t:Str) | drop (s:Str)(x:Tm Lf)
abbrev xA (x:Tm Lf):PV:=x.pv Lf.pv
def Dd.pv:Dd->PV
 | .tell x=> .tup [.str "tell",xA x]
 | .bag true s t=> .tup [.str "in",.str s,.str t]
 | .bag false s t=> .tup [.str "out",.str s,.str t]
 | .set s x=> .tup [.str "set",.str s,xA x]
 | .more s x=> .tup [.str "more",.str s,xA x]
 | .lay s x t=> .tup [.str "lay",.str s,xA x,.str t]
 | .drop s x=> .tup [.str "drop",.str s,xA x]
def tv (sh:List Sh)(hs:List Hv)(x:Tm Lf):Int:=x.val (lfV sh hs)
def Dd.nm:Dd->Option Str | .tell _=>none | .bag _ s _ | .set s _ | .more s _ | .lay s _ _ | .drop s _=>some s
def Dd.tm:Dd->Option (Tm Lf) | .bag _ _ _=>none | .tell x | .set _ x | .more _ x | .lay _ x _ | .drop _ x=>some x
abbrev Rw:=Option (Tm Lf)×Dd
def Rw.pv:Rw->PV | (none,d)=>d.pv | (some x,d)=> .tup 1#18
def fE:Option Str->PV | none=> .non | some v=> .str v
theorem Dd.form (d:Dd){s:Str}(h:d.nm=some s): ∃(k:Str) (more:List PV),d.pv= .tup (.str k:: .str s::more)/\(k==("when" :Str))=false/\(k==("tell" :Str))=false:=by
 cases d with
 | tell x=>cases h
 | bag up a b=>cases h;cases up <;> exact⟨_,_,rfl,1#0,1#0⟩
 | set a x=>cases h;exact⟨_,_,rfl,1#0,1#0⟩
 | more a x=>cases h;exact⟨_,_,rfl,1#0,1#0⟩
 | lay a x b=>cases h;exact⟨_,_,rfl,1#0,1#0⟩
 | drop a x=>cases h;exact⟨_,_,rfl,1#0,1#0⟩
theorem zwv {sh:List Sh}{i:Nat}{s:Sh}(e:sh[i]?=some s):atI 2#6 (i:Int)=some (y7 s):=wK (by rw[br,e];rfl)
def zoX (nm kd:Str)(ls:List Lf)(d:Dd):Prop:=d.nm=some nm/\(∀x,d.tm=some x->x.ok (λl=>l∈ls)/\x.rank < 7)/\
 (match d with | .tell _=>False | .bag _ _ _=>kd= "bag" | .more _ _=>kd= "sum" | .set _ _=>kd≠ "bag" /\kd≠ 73#1 /\kd≠ "sum" | .lay _ _ _=>kd= 73#1 | .drop _ _=>kd= 73#1)
def zw5:zP:=λxs st Q=> ∃(i:Nat) (nm kd:Str) (r:List PV) (bg:PV) (ls:List Lf) (ws:List Str) (a b:Int),xs= [.obj i,.tup [.str nm,.tup (.str kd::r),bg],.lst (ls.map Lf.pv),.lst 6#3]/\yU bg=true/\st[i]?=some 3#3/\yE a b/\ws≠ []/\ws.length<=1000/\ls.length<=1000/\∀(d:Dd) a b,zoX nm kd ls d->yE a b->Q d.pv 5#11
theorem rF (t:Tm Lf):yU (t.pv Lf.pv)=true:=by
 cases t with
 | lf l=>cases l <;> rfl
 | _=>rfl
def iY (sh:List Sh)(x:Tm Lf):Prop:=x.ok (nM sh)/\x.rank < 7
def zp7 (kd:Str)(d:Dd):Prop:=match d with | .tell _=>False | .bag _ _ _=>kd= "bag" | .more _ _=>kd= "sum" | .set _ _=>kd≠ "bag" /\kd≠ 73#1 /\kd≠ "sum" | .lay _ _ _=>kd= 73#1 | .drop _ _=>kd= 73#1
def zgC (sh:List Sh)(d:Dd):Prop:=(∀x,d.tm=some x->iY sh x)/\∀s,d.nm=some s->∃sx∈sh,sx.1=s/\∃kd r,sx.2.1= .tup (.str kd::r)/\zp7 kd d
def pK (sh:List Sh)(r:Rw):Prop:=(∀x,r.1=some x->iY sh x)/\zgC sh r.2
def c4:zP:=λxs st Q=> ∃(i:Nat) (sh:List Sh) (ws:List Str) (a b:Int),xs= [.obj i,.tup 6#18,.lst 6#3]/\st[i]?=some 3#3/\yE a b/\(∀s∈sh,rL s)/\sh≠ []/\sh.length<=63/\ws≠ []/\ws.length<=1000/\∀(r:Rw) a b,pK sh r->yE a b->Q r.pv 5#11
theorem aF (d:Dd):yU d.pv=true:=by
 cases d with
 | bag up s t=>cases up <;> rfl
 | _=>rfl
theorem m6 {α:Type}{f:α->PV}{m:Nat} : ∀(l:List α),(∀x∈l,zE (f x)<=m)->dpts (l.map f)<=m
 | [],_=>by unfold dpts;exact fv _
 | x::l,h=>by
  rw[av];unfold dpts;exact Nat.max_le.mpr ⟨h x aw,m6 l λy hy=>h y (bf _ hy)⟩
theorem zqK (h:Hv):zE h.pv<=2:=by
 cases h with
 | int v=>unfold Hv.pv zE;decide
 | bag l=>
  unfold Hv.pv qJ zE;have:=m6 (f:=λq:Str×Int=>PV.tup [.str q.1,.int q.2]) (m:=1) l λx _=>by simp[zE,dpts]
  grobner
 | row ws=>
  unfold Hv.pv zE;have:=m6 (f:=PV.str) (m:=0) ws λx _=>by simp[zE]
  grobner
theorem m4: ∀t:Tm tI,zE (t.pv tI.pv)<=t.rank+1
 | .num k=>by unfold Tm.pv;simp[zE,dpts]
 | .lf l=>by cases l <;> (unfold Tm.pv tI.pv;simp[zE,dpts])
 | .op s a b=>by
  have h1:=m4 a;have h2:=m4 b;unfold Tm.pv Tm.rank;simp only[zE,dpts];grobner
 | .ite a b c=>by
  have h1:=m4 a;have h2:=m4 b;have h3:=m4 c;unfold Tm.pv Tm.rank;simp only[zE,dpts];grobner
theorem zwu {s:Sh}(h:rL s):zE (y7 s)<=12:=by
 obtain⟨kd,r,v,e1,hm,e2,_⟩:=h;have hv:=zqK v;unfold y7;rw[e1,e2];rcases hm with⟨_,rfl⟩ | ⟨_,n,t,rfl,_,_,hr⟩
 ·simp only[zE,dpts];grobner
 ·have:=m4 t
  simp only[zE,dpts];grobner
def zV (x:Str×List PV):PV:= .tup (.str x.1::x.2)
inductive Rh where | pl (r:Rw) | split (n:Str) | join (n:Str)
def Rh.pv:Rh->PV | .pl r=>r.pv | .split n=> .tup [.str 31#1,.str n] | .join n=> .tup [.str 28#1,.str n]
abbrev Hd:=Str×List Rh
def wP (h:Hd):Str×List PV:=(h.1,[.tup 5#4])
abbrev zW (h:Hd):PV:=zV (wP h)
abbrev Sn:=Str×List PV
def yF (sh:List Sn)(hs:List Hd):PV:= .tup 2#7
def Rh.deed:Rh->Option Dd | .pl r=>some r.2 | _=>none
def dvP:Option Dd->PV | none=> .non | some d=>d.pv
def Rh.on (S:Str)(r:Rh):Bool:=r.deed.bind Dd.nm==some S
theorem Dd.form2 (d:Dd): ∃(k:Str) (more:List PV),d.pv= .tup (.str k::more)/\(k==("when" :Str))=false/\xD (.str k) [.str 31#1,.str 28#1]=false:=by
 have h: ∀{k:Str},(k∉([31#1,28#1]:List Str))->xD (.str k) [.str 31#1,.str 28#1]=false:=λ{k} hk=>by
  have e:=oM (w:=k) (ws:= [31#1,28#1]);rw[av,av,jf]at e;rw[e];exact decide_eq_false hk
 cases d with
 | bag up a b=>cases up <;> exact⟨_,_,rfl,1#0,h 1#0⟩
 | _=>exact⟨_,_,rfl,1#0,h 1#0⟩
def zw4:zP:=λxs st Q=> ∃r:Rh,xs= [r.pv]/\Q (dvP r.deed) st
def zwG:zP:=λxs st Q=> ∃d:Dd,xs= [d.pv]/\Q (fE d.nm) st
def pP (S:Str):PV->Option PV:=λx=>match x with | .tup (.str n::r)=>if n==S then some (.tup (.str n::r))else none | _=>none
theorem zlq {S:Str} : ∀{l:List Sn},S∉l.map (·.1)->(l.map zV).filterMap (pP S)= []
 | [],_=>rfl
 | (n,r)::l,h=>by
  rw[av,bo,not_or]at h;have hb:(n==S)=false:=by simpa using λz:n=S=>h.1 z.symm
  have:pP S (zV (n,r))=none:=by show 4#18=_;rw[hb];rfl
  rw[av,cp,this];exact zlq h.2
theorem zlr {S:Str} : ∀{l:List Sn} {s:Sn},(l.map (·.1)).Nodup->s∈l->s.1=S->(l.map zV).filterMap (pP S)= [zV s]
 | (n,r)::l,s,hn,hm,e=>by
  rw[av,fg]at hn;rw[av,cp];by_cases hb:n=S
  ·have:pP S (zV (n,r))=some (zV (n,r)):=by show 4#18=_;rw[hb,if_pos (beq_self_eq_true _)];rfl
   rw[this,zlq (by rw[<- hb];exact hn.1)];rcases bo.mp hm with rfl | hm
   ·rfl
   ·exact absurd (cb.mpr ⟨s,hm,e.trans hb.symm⟩) hn.1
  ·have h1:(n==S)=false:=by simpa using hb
   have:pP S (zV (n,r))=none:=by show 4#18=_;rw[h1];rfl
   rw[this];rcases bo.mp hm with rfl | hm
   ·exact absurd e hb
   ·exact zlr hn.2 hm e
def zw6:zP:=λxs st Q=> ∃(l:List Sn) (S:Str) (s:Sn),xs= [.tup (l.map zV),.str S]/\(l.map (·.1)).Nodup/\s∈l/\s.1=S/\Q (zV s) st
def zw7:zP:=λxs st Q=> ∃(sh:List Sn) (hs:List Hd) (h:Hd),xs= [yF sh hs,.str h.1]/\(hs.map (·.1)).Nodup/\h∈hs/\Q (zW h) st
theorem zl5 {hs:List Hd} :(hs.map wP).map (·.1)=hs.map (·.1):=by rw[bx];rfl
def onF (S:Str):List Rh->Nat->List Nat
 | [],_=> []
 | r::rs,k=>(if r.on S then [k]else [])++onF S rs (k+1)
abbrev yR (k:Nat):PV:= .int (k:Int)
theorem pE {α:Type}{l:List α}{k:Nat}{x:α}(h:l[k]?=some x):l.take (k+1)=l.take k++ [x]:=by
 rw[yz,h];rfl
theorem zqZ {m:Nat}{Q:K3}{st:z5}{d:Dd}(h:Q d.pv st)(hm:st.take m=st:=by exact ck (ar _)):xB m Q d.pv st:=by
 obtain⟨k,more,e,_⟩:=d.form2;rw[e]at h⊢
 show Q _ 2#11;rw[hm];exact h
def Rh.sp:Rh->Option Str | .split n=>some n | _=>none
def Rh.jn:Rh->Option Str | .join n=>some n | _=>none
def mC (kind:Str):PV->Option PV:=λx=>match x with | .tup (.str k::x::_)=>if k==kind then some x else none | _=>none
theorem ze8 {kind:Str}{f:Rh->Option Str}(hf:(kind= 31#1 /\f=Rh.sp)∨(kind= 28#1 /\f=Rh.jn))(r:Rh):mC kind r.pv=(f r).map PV.str:=by
 have dd: ∀{k:Str} {more:List PV},xD (.str k) [PV.str 31#1,.str 28#1]=false->mC kind (.tup (.str k::more))=none:=λ{k more} hk=>by
  have e:=oM (w:=k) (ws:= [31#1,28#1]);rw[av,av,jf,hk]at e;have hm:k∉([31#1,28#1]:List Str):=of_decide_eq_false e.symm;have Ao:(k==kind)=false:=by
   rcases hf with⟨rfl,_⟩ | ⟨rfl,_⟩ <;> simp at hm⊢ <;> first | exact hm.1 | exact hm.2
  cases more with
  | nil=>rfl
  | cons x m=>show(if k==kind then _ else _)=_;rw[Ao];rfl
 cases r with
 | split n=>rcases hf with⟨rfl,rfl⟩ | ⟨rfl,rfl⟩ <;> rfl
 | join n=>rcases hf with⟨rfl,rfl⟩ | ⟨rfl,rfl⟩ <;> rfl
 | pl r=>
  have fn:f (.pl r)=none:=by rcases hf with⟨_,rfl⟩ | ⟨_,rfl⟩ <;> rfl
  rw[fn];obtain⟨g,d⟩:=r;cases g with
  | none=>obtain⟨k,more,e,_,h2⟩:=d.form2;show mC kind d.pv=none;rw[e];exact dd h2
  | some x=>exact dd (by unfold xD;simp[u6];decide+kernel)
theorem ze9 {kind:Str}{f:Rh->Option Str}(hf:(kind= 31#1 /\f=Rh.sp)∨(kind= 28#1 /\f=Rh.jn)): ∀rs:List Rh,(rs.map Rh.pv).filterMap (mC kind)=(rs.filterMap f).map PV.str
 | []=>rfl
 | r::rs=>by
  rw[av,cp,cp,ze8 hf r];cases f r with
  | none=>exact ze9 hf rs
  | some x=>rw[vg,av];dsimp only;rw[ze9 hf rs]
theorem znx (r:Rh): ∃(k:Str) (x:PV) (more:List PV),r.pv= .tup (.str k::x::more)/\yU x=true:=by
 cases r with
 | split n=>exact⟨_,_,_,rfl,by first | rfl | exact rF _⟩
 | join n=>exact⟨_,_,_,rfl,by first | rfl | exact rF _⟩
 | pl r=>
  obtain⟨g,d⟩:=r;cases g with
  | none=>
   cases d with
   | bag up a b=>cases up <;> exact⟨_,_,_,rfl,by first | rfl | exact rF _⟩
   | _=>exact⟨_,_,_,rfl,by first | rfl | exact rF _⟩
  | some x=>exact⟨_,_,_,rfl,by first | rfl | exact rF _⟩
def sC (f:Rh->Option Str)(hs:List Hd):List 2#3:=hs.map λh=>(.inr h.1,.lst ((h.2.filterMap f).map PV.str))
theorem j8 {kvs:List 2#3}{k:z8}{v:PV}(h:k∉kvs.map (·.1)):xY kvs k v=kvs++ [(k,v)]:=by
 unfold xY;rw[if_neg];intro z;obtain⟨p,hp,e⟩:=pw.mp z;exact h (cb.mpr ⟨p,hp,of_decide_eq_true e⟩)
def zwD:zP:=λxs st Q=> ∃(sh:List Sn) (hs:List Hd) (kind:Str) (f:Rh->Option Str),xs= [yF sh hs,.str kind]/\((kind= 31#1 /\f=Rh.sp)∨(kind= 28#1 /\f=Rh.jn))/\(hs.map (·.1)).Nodup/\hs.length<=1000/\Q (.dct (sC f hs)) st
def kids (f:Rh->Option Str)(hs:List Hd)(n:Str):List Str:=match hs.find? (λh=>h.1==n)with | some h=>h.2.filterMap f | none=> []
theorem zmt {f:Rh->Option Str}{n:Str} : ∀{hs:List Hd},n∈hs.map (·.1)->zH (sC f hs) (.inr n)=some (.lst ((kids f hs n).map PV.str))
 | [],h=>by simp at h
 | h0::hs,h=>by
  unfold sC zH kids;rw[av,db,db];by_cases e:h0.1=n
  ·rw[decide_eq_true (by rw[e]),show(h0.1==n)=true by rw[e];exact beq_self_eq_true _];rfl
  ·have e1:decide ((Sum.inr h0.1:z8)=Sum.inr n)=false:=decide_eq_false (λz=>e (jp z))
   have e2:(h0.1==n)=false:=by simpa using e
   rw[e1,e2];rw[av,bo]at h;exact zmt (h.resolve_left λz=>e z.symm)
theorem oO {f:Rh->Option Str} : ∀{hs:List Hd} {h:Hd},(hs.map (·.1)).Nodup->h∈hs->kids f hs h.1=h.2.filterMap f
 | h0::hs,h,hn,hm=>by
  rw[av,fg]at hn;unfold kids;rw[db];by_cases e:h0.1=h.1
  ·rw[show(h0.1==h.1)=true by rw[e];exact beq_self_eq_true _]
   rcases bo.mp hm with rfl | hm
   ·rfl
   ·exact absurd (cb.mpr ⟨h,hm,e.symm⟩) hn.1
  ·have e2:(h0.1==h.1)=false:=by simpa using e
   rw[e2];rcases bo.mp hm with rfl | hm
   ·exact absurd rfl e
   ·exact oO hn.2 hm
def yX (g:Str->List Str):Nat->Str->List Str
 | 0,_=> []
 | d+1,n=>n::(g n).flatMap (yX g d)
structure sN (g:Str->List Str)(names:List Str)(rk:Str->Nat):Prop where
 sub: ∀n∈names,∀m∈g n,m∈names
 down: ∀n∈names,∀m∈g n,rk m < rk n
 few: ∀n∈names,(g n).length<=7
theorem pQ {α β:Type}{f g:α->List β} : ∀{l:List α},(∀x∈l,f x=g x)->l.flatMap f=l.flatMap g
 | [],_=>rfl
 | x::l,h=>by rw[fk,fk,h x (aw ..),pQ λy hy=>h y (bf _ hy)]
theorem zfn {g:Str->List Str}{names:List Str}{rk:Str->Nat}(R:sN g names rk): ∀{d d':Nat} {n:Str},n∈names->rk n < d->rk n < d'->yX g d n=yX g d' n
 | 0,_,n,_,h,_=>0#0
 | _+1,0,n,_,_,h=>0#0
 | d+1,d'+1,n,hn,h,h'=>by
  unfold yX;rw[pQ λm hm=>zfn R (R.sub n hn m hm) (show rk m < d by have:=R.down n hn m hm;grobner) (show rk m < d' by have:=R.down n hn m hm;grobner)]
theorem fG {g:Str->List Str}{names:List Str}{rk:Str->Nat}(R:sN g names rk){d:Nat}{n:Str}(hn:n∈names)(h:rk n < d):yX g d n=n::(g n).flatMap (yX g d):=by
 cases d with
 | zero=>grobner
 | succ d=>
  show n::(g n).flatMap (yX g d)=_;rw[pQ λm hm=>zfn R (R.sub n hn m hm) (show rk m < d by have:=R.down n hn m hm;grobner) (show rk m < d+1 by have:=R.down n hn m hm;grobner)]
def bd:Nat->Nat | 0=>1 | r+1=>1+7 * bd r
theorem hU: ∀{a b:Nat},a<=b->bd a<=bd b
 | 0,0,_=>ar _
 | 0,b+1,_=>by unfold bd;grobner
 | a+1,b+1,h=>by unfold bd;have:=hU (show a<=b by grobner);grobner
theorem zlu {α β:Type}{f:α->List β}{m:Nat} : ∀{l:List α},(∀x∈l,(f x).length<=m)->(l.flatMap f).length<=l.length * m
 | [],_=>3#0
 | x::l,h=>by
  rw[fk,am,bv,Nat.succ_mul];have h1:=h x (aw ..);have h2:=zlu (m:=m) λy hy=>h y (bf x hy);grobner
theorem zfm {g:Str->List Str}{names:List Str}{rk:Str->Nat}(R:sN g names rk): ∀{d:Nat} {n:Str},n∈names->(yX g d n).length<=bd (rk n)
 | 0,n,_=>fv _
 | d+1,n,hn=>by
  unfold yX;rw[bv];cases hr:rk n with
  | zero=>
   have:g n= []:=by
    cases hg:g n with
    | nil=>rfl
    | cons m l=>have:=R.down n hn m (by rw[hg];exact aw ..);grobner
   rw[this];exact ar _
  | succ r=>
   have h1:=zlu (f:=yX g d) (m:=bd r) (l:=g n) λm hm=>bh (zfm R (R.sub n hn m hm)) (hU (by have:=R.down n hn m hm;grobner));have h2:=R.few n hn;have h3:=xa (bd r) h2;show _<=1+7 * bd r;grobner
theorem bW:bd 7=960800:=2#0
def nmF:PV->Option PV:=λx=>match x with | .tup (n::_)=>some n | _=>none
def zge:zP:=λxs st Q=> ∃(sh:List Sn) (h0:Hd) (hs:List Hd) (rk:Str->Nat),xs= [yF sh (h0::hs)]/\((h0::hs).map (·.1)).Nodup/\hs.length<=100/\sN (kids Rh.sp (h0::hs)) ((h0::hs).map (·.1)) rk/\(∀n∈(h0::hs).map (·.1),rk n<=7)/\Q (.tup ((yX (kids Rh.sp (h0::hs)) 8 h0.1).map PV.str)) st
theorem mQ {α:Type}[DecidableEq α]: ∀{l m:List α},l.Nodup->(∀x∈l,x∈m)->l.length<=m.length
 | [],m,_,_=>fv _
 | x::l,m,hn,hs=>by
  rw[fg]at hn;have hx:=hs x (aw ..);have h1:=mQ (l:=l) (m:=m.erase x) hn.2 λy hy=>(xb (λ(z:y=x)=>hn.1 (z▸hy))).mpr (hs y (bf _ hy));rw[List.length_erase_of_mem hx]at h1;have:0 < m.length:=List.length_pos_of_mem hx;rw[bv];grobner
def Rh.ps (k:Nat):Rh->List (Str×Nat) | .split n=> [(n,k)] | _=> []
def Rh.is (H:Str):Rh->Bool | .split n=>n==H | _=>false
def spos:List Rh->Nat->List (Str×Nat)
 | [],_=> []
 | r::rs,k=>r.ps k++spos rs (k+1)
theorem znU: ∀{l:List Rh} {k:Nat},(spos l k).map (·.1)=l.filterMap Rh.sp
 | [],k=>rfl
 | r::l,k=>by
  unfold spos;rw[bb,znU];cases r <;> rfl
abbrev Sps:=List (Str×(Str×Nat))
def SP1 (h:Hd)(l:List Rh):Sps:=(spos l 0).map λp=>(p.1,(h.1,p.2))
def nP (hs:List Hd):Sps:=hs.flatMap λh=>SP1 h h.2
def jF (r:Rh):Prop:=zE r.pv<=40
abbrev Ee:=Nat×List Nat
abbrev Re:=Nat×List Rh
def wR:List Ee->Nat->Nat
 | [],_=>0
 | (x,l)::E,y=>if y=x then 1+(l.map (wR E)).sum else wR E y
def wE (E:List Ee):Nat->Nat:=wR E.reverse
theorem zg9 {E:List Ee}{x:Nat}{l:List Nat}{y:Nat} :wE (E++ [(x,l)]) y=if y=x then 1+(l.map (wE E)).sum else wE E y:=by
 unfold wE;rw[iy];rfl
theorem zoS {E:List Ee}{y:Nat} : ∀{E1:List Ee},y∉E1.map (·.1)->wR (E1++E) y=wR E y
 | [],_=>rfl
 | (x,l)::E1,h=>by
  rw[av,bo,not_or]at h;rw[io];show(if y=x then _ else wR (E1++E) y)=_;rw[if_neg h.1];exact zoS h.2
theorem zg8 {E:List Ee}{y:Nat}{E1:List Ee}(h:y∉E1.map (·.1)):wE 7#6 y=wE E y:=by
 unfold wE;rw[iy];exact zoS (by rw[pz,qa];exact h)
theorem zmj {α β:Type}{f g:α->β}{l:List α}(h: ∀x∈l,f x=g x):l.map f=l.map g:=ko h
def iG (E1:List Ee):Prop:= ∀A B x l,E1=A++(x,l)::B->∀y∈l,y∈A.map (·.1)
theorem zg7 {E E1:List Ee}(hn:(E1.map (·.1)).Nodup)(hv:iG E1){x:Nat}{l:List Nat}(hm:(x,l)∈E1):wE 7#6 x=1+(l.map (wE 7#6)).sum:=by
 obtain⟨A,B,rfl⟩:=il hm;rw[bb,av]at hn;have h1:=bj.mp hn;have h2:=fg.mp h1.2.1;have e:E++(A++(x,l)::B)=(E++A++ [(x,l)])++B:=3#0
 rw[e,zg8 h2.1,zg9,if_pos rfl]
 congr 2
 refine zmj λy hy=> ?_;have hyA:=hv A B x l rfl y hy;have hyB:y∉B.map (·.1):=λz=>h1.2.2 y hyA y (bf _ z) rfl;have hyx:y≠x:=h1.2.2 y hyA x (aw ..);rw[zg8 hyB,zg9,if_neg hyx]
def tg (rs:List Rh):List Str:=rs.filterMap Rh.sp
def tgs (X:List Re):List Str:=X.flatMap λp=>tg p.2
theorem zgr {X Y:List Re} :tgs (X++Y)=tgs X++tgs Y:=by unfold tgs;simp
theorem zgq {X Y:List Rh} :tg (X++Y)=tg X++tg Y:=by unfold tg;simp
def oF (sh:List Sh):Rh->Prop | .pl r=>pK sh r | _=>True
def zoZ (nm:Nat->Str)(X:List Re):Prop:= ∀A k r B,X=A++(k,r)::B->∀m∈tg r,∃j∈A.map (·.1),m=nm j
structure LI (shl:List Sh)(nm:Nat->Str)(sp:List Nat)(E:List Ee)(zk ks:List Nat)(X:List Re)(E1:List Ee)(rs:List Rh)(hd:List Nat):Prop where
 xk:X.map (·.1)=ks
 ek:E1.map (·.1)=ks
 nd:(ks++zk).Nodup
 sub: ∀x∈ks++zk,x∈sp
 hk: ∀x∈hd,x∈ks
 ev:iG E1
 wt:(hd.map (wE 7#6)).sum<=ks.length
 tn:(tgs X++tg rs).Nodup
 ti: ∀m∈tgs X++tg rs,∃j∈ks,m=nm j
 er:zoZ nm X
 jn: ∀r∈rs,∀m,r.jn=some m->∃j∈ks,m=nm j
 jx: ∀p∈X,∀r∈p.2,∀m,r.jn=some m->∃j∈ks,m=nm j
 ro: ∀r∈rs,oF shl r
 rx: ∀p∈X,(∀r∈p.2,oF shl r)/\p.2.length<=30
section
variable {shl:List Sh} {nm:Nat->Str} {sp:List Nat} {E:List Ee} {zk ks:List Nat} {X:List Re} {E1:List Ee} {rs:List Rh} {hd:List Nat}
theorem LI.start (hs:sp.Nodup):LI shl nm sp E sp [] [] [] [] []:=
 ⟨rfl,rfl,by simpa using hs,3#0,3#0,(λA B x l h=>by cases A <;> cases h),3#0,by simp[tgs,tg],by simp[tgs,tg],(λA k r B h=>by cases A <;> cases h),3#0,3#0,3#0,3#0⟩
theorem LI.plain (I:LI shl nm sp E zk ks X E1 rs hd){r:Rw}(hr:pK shl r):LI shl nm sp E zk ks X E1 (rs++ [.pl r]) hd:=by
 have e:tg (rs++ [.pl r])=tg rs:=by rw[zgq];simp[tg,Rh.sp]
 refine{I with tn:=by rw[e];exact I.tn,ti:=by rw[e];exact I.ti,jn:=λr' h m hm=> ?_,ro:=λr' h=> ?_}
 ·rcases aq.mp h with h | h
  ·exact I.jn r' h m hm
  ·rw[ao.mp h]at hm;cases hm
 ·rcases aq.mp h with h | h
  ·exact I.ro r' h
  ·rw[ao.mp h];exact hr
theorem zoa {f:Nat->Nat} : ∀{l:List Nat} {k x:Nat},l[k]?=some x->(l.map f).sum=f x+((l.eraseIdx k).map f).sum
 | [],k,x,h=>by simp at h
 | y::l,0,x,h=>by simp at h;subst h;simp
 | y::l,k+1,x,h=>by
  have:=zoa (f:=f) (l:=l) (k:=k) (x:=x) (by simpa using h);simp[this];grobner
theorem LI.join (I:LI shl nm sp E zk ks X E1 rs hd){k x:Nat}{l:List Nat}(hx:hd[k]?=some x)(hl:(x,l)∈E1):LI shl nm sp E zk ks X E1 (rs++ [.join (nm x)]) (hd.eraseIdx k++l)/\((hd.eraseIdx k++l).map (wE 7#6)).sum+1=(hd.map (wE 7#6)).sum:=by
 have e:tg (rs++ [.join (nm x)])=tg rs:=by rw[zgq];simp[tg,Rh.sp]
 have hxk:=I.hk x (au.mpr ⟨k,hx⟩);have hn:(E1.map (·.1)).Nodup:=by rw[I.ek];exact(bj.mp I.nd).1
 have hs:((hd.eraseIdx k++l).map (wE 7#6)).sum+1=(hd.map (wE 7#6)).sum:=by
  rw[zoa (f:=wE 7#6) hx,zg7 hn I.ev hl,bb,yt];grobner
 refine⟨{I with tn:=by rw[e];exact I.tn,ti:=by rw[e];exact I.ti,hk:=λy hy=> ?_,wt:=by have:=I.wt;grobner,jn:=λr' h m hm=> ?_,ro:=λr' h=> ?_},hs⟩
 ·rcases aq.mp hy with hy | hy
  ·exact I.hk y (ot hy)
  ·obtain⟨A,B,eA⟩:=il hl
   have:=I.ev A B x l eA y hy;rw[<- I.ek,eA,bb];exact ax _ this
 ·rcases aq.mp h with h | h
  ·exact I.jn r' h m hm
  ·rw[ao.mp h]at hm;cases hm;exact⟨x,hxk,rfl⟩
 ·rcases aq.mp h with h | h
  ·exact I.ro r' h
  ·rw[ao.mp h];exact trivial
theorem rB {α:Type}{X Y A B:List α}{p:α}(h:X++Y=A++p::B):(∃B',X=A++p::B'/\B=B'++Y)∨∃A',A=X++A'/\Y=A'++p::B:=by
 rcases List.append_eq_append_iff.mp h with⟨a,h1,h2⟩ | ⟨c,h1,h2⟩
 ·exact .inr ⟨a,h1,h2⟩
 ·cases c with
  | nil=>simp at h1 h2;exact .inr ⟨[],by simp[h1],by simp[<- h2]⟩
  | cons q c=>rw[io]at h2;cases h2;exact .inl ⟨c,h1,rfl⟩
theorem LI.split (inj: ∀a∈sp,∀b∈sp,nm a=nm b->a=b)(I:LI shl nm sp E zk ks X E1 rs hd){i j:Nat}(hj:zk[i]?=some j){spc ksc:List Nat}{Xc:List Re}{E1c:List Ee}{rsc:List Rh}{Ay:List Nat}
  (C:LI shl nm (zk.eraseIdx i) 7#6 spc ksc Xc E1c rsc Ay) (zu:rsc.length<=30):
  LI shl nm sp E spc (ks++(ksc++ [j])) (X++(Xc++ [(j,rsc)])) 8#11 (rs++ [.split (nm j)]) (hd++ [j]):=by
 have hjs:j∈zk:=au.mpr ⟨i,hj⟩;have nd':=bj.mp I.nd;have hsub: ∀x∈ksc++spc,x∈zk/\x≠j:=λx hx=>by
  have h1:=C.sub x hx;refine⟨ot h1,λz=> ?_⟩;subst z;obtain⟨q,hq⟩:=au.mp h1;have hn:=nd'.2.1;rw[vp]at hq;have hi:=(ah.mp hj).1
  split at hq
  ·have:=(dg (ah.mp hq).1 hn).mp (hq.trans hj.symm);grobner
  ·have:=(dg (ah.mp hq).1 hn).mp (hq.trans hj.symm);grobner
 have cnd:=bj.mp C.nd;have hjk:j∉ks:=λz=>nd'.2.2 j z j hjs rfl;have hck: ∀x∈ksc,x∉ks:=λx hx z=>nd'.2.2 x z x (hsub x (ax _ hx)).1 rfl;have eT:tg (rs++ [.split (nm j)])=tg rs++ [nm j]:=by rw[zgq];simp[tg,Rh.sp]
 have eX:tgs (X++(Xc++ [(j,rsc)]))=tgs X++(tgs Xc++tg rsc):=by rw[zgr,zgr];simp[tgs]
 have insp: ∀x∈ks++(ksc++ [j]),x∈sp:=λx hx=>by
  rcases aq.mp hx with hx | hx
  ·exact I.sub x (ax _ hx)
  ·rcases aq.mp hx with hx | hx
   ·exact I.sub x (aj _ (hsub x (ax _ hx)).1)
   ·rw[ao.mp hx];exact I.sub j (aj _ hjs)
 have keys:(E1++(E1c++ [(j,Ay)])).map (·.1)=ks++(ksc++ [j]):=by rw[bb,bb,I.ek,C.ek];rfl
 have hndk:(ks++(ksc++ [j])).Nodup:=by
  refine bj.mpr ⟨nd'.1,bj.mpr ⟨cnd.1,3#0,λa ha b hb=> ?_⟩,λa ha b hb=> ?_⟩
  ·rw[ao.mp hb];exact(hsub a (ax _ ha)).2
  ·rcases aq.mp hb with hb | hb
   ·exact λz=>hck b hb (z▸ha)
   ·rw[ao.mp hb];exact λz=>hjk (z▸ha)
 have tiC: ∀m∈tgs Xc++tg rsc,∃q∈ksc,m=nm q:=C.ti;refine⟨by rw[bb,bb,I.xk,C.xk];rfl,keys,?_,?_,?_,?_,?_,?_,?_,?_,?_,?_,?_,?_⟩
 ·refine bj.mpr ⟨hndk,cnd.2.1,λa ha b hb=> ?_⟩
  have hb':=hsub b (aj _ hb);rcases aq.mp ha with ha | ha
  ·exact λz=>nd'.2.2 a ha b hb'.1 z
  ·rcases aq.mp ha with ha | ha
   ·exact cnd.2.2 a ha b hb
   ·rw[ao.mp ha];exact λz=>hb'.2 z.symm
 ·intro x hx
  rcases aq.mp hx with hx | hx
  ·exact insp x hx
  ·exact I.sub x (aj _ (hsub x (aj _ hx)).1)
 ·intro x hx
  rcases aq.mp hx with hx | hx
  ·exact ax _ (I.hk x hx)
  ·exact aj _ (aj _ hx)
 ·intro A B x l e y hy
  rcases rB e with⟨B',h1,_⟩ | ⟨A',rfl,h2⟩
  ·exact I.ev A B' x l h1 y hy
  ·rw[bb]
   refine aj _ ?_;rcases rB h2 with⟨B',h3,_⟩ | ⟨A'',rfl,h4⟩
   ·exact C.ev A' B' x l h3 y hy
   ·cases A'' with
    | nil=>cases h4;rw[da,C.ek];exact C.hk y hy
    | cons q A''=>cases A'' <;> cases h4
 ·have hw: ∀y∈hd,wE (E++8#11) y=wE 7#6 y:=λy hy=>by
   rw[<- bi];refine zg8 ?_;rw[bb,C.ek];intro z;rcases aq.mp z with z | z
   ·exact hck y z (I.hk y hy)
   ·have z':y=j:=by simpa using z
    exact hjk (z'▸I.hk y hy)
  have hwj:wE (E++8#11) j=1+(Ay.map (wE (E++E1++E1c))).sum:=by
   rw[<- bi,<- bi,zg9,if_pos rfl]
  rw[bb,yt,zmj hw,av,jf,hwj];have h1:=I.wt;have h2:=C.wt;simp only[am,cr,tq,List.sum_nil];grobner
 ·rw[eX,eT]
  have hp:(tgs X++(tgs Xc++tg rsc)++(tg rs++ [nm j])).Perm ((tgs X++tg rs)++((tgs Xc++tg rsc)++ [nm j])):=by
   generalize tgs Xc++tg rsc=Y;rw[bi (tgs X) Y,bi (tgs X) (tg rs)];refine ii _ ?_;rw[<- bi,<- bi (tg rs)];exact ib _ gu
  refine hp.nodup_iff.mpr (bj.mpr ⟨I.tn,bj.mpr ⟨C.tn,3#0,λa ha b hb z=> ?_⟩,λa ha b hb z=> ?_⟩)
  ·rw[ao.mp hb]at z
   obtain⟨q,hq,e⟩:=tiC a ha;have hq':=hsub q (ax _ hq);exact hq'.2 (inj q (I.sub q (aj _ hq'.1)) j (I.sub j (aj _ hjs)) (by rw[<- e,z]))
  ·obtain⟨p,hp,e⟩:=I.ti a ha
   rcases aq.mp hb with hb | hb
   ·obtain⟨q,hq,e'⟩:=tiC b hb
    have hq':=hsub q (ax _ hq);have:=inj p (I.sub p (ax _ hp)) q (I.sub q (aj _ hq'.1)) (by rw[<- e,<- e',z]);exact hck q hq (this▸hp)
   ·rw[ao.mp hb]at z
    have:=inj p (I.sub p (ax _ hp)) j (I.sub j (aj _ hjs)) (by rw[<- e,z]);exact hjk (this▸hp)
 ·rw[eX,eT]
  intro m hm;have h1: ∀m∈tgs X++tg rs,∃q∈ks++(ksc++ [j]),m=nm q:=λm hm=>let⟨q,hq,e⟩:=I.ti m hm;⟨q,ax _ hq,e⟩;have h2: ∀m∈tgs Xc++tg rsc,∃q∈ks++(ksc++ [j]),m=nm q:=λm hm=>let⟨q,hq,e⟩:=tiC m hm;⟨q,aj _ (ax _ hq),e⟩;rcases aq.mp hm with hm | hm
  ·rcases aq.mp hm with hm | hm
   ·exact h1 m (ax _ hm)
   ·exact h2 m hm
  ·rcases aq.mp hm with hm | hm
   ·exact h1 m (aj _ hm)
   ·exact⟨j,3#0,ao.mp hm⟩
 ·intro A k r B e m hm
  rcases rB e with⟨B',h1,_⟩ | ⟨A',rfl,h2⟩
  ·exact I.er A k r B' h1 m hm
  ·rw[bb]
   rcases rB h2 with⟨B',h3,_⟩ | ⟨A'',rfl,h4⟩
   ·obtain⟨q,hq,e'⟩:=C.er A' k r B' h3 m hm;exact⟨q,aj _ hq,e'⟩
   ·cases A'' with
    | nil=>cases h4;rw[da,C.xk];obtain⟨q,hq,e'⟩:=tiC m (aj _ hm);exact⟨q,aj _ hq,e'⟩
    | cons q A''=>cases A'' <;> cases h4
 ·intro r hr m hm
  rcases aq.mp hr with hr | hr
  ·obtain⟨q,hq,e⟩:=I.jn r hr m hm;exact⟨q,ax _ hq,e⟩
  ·rw[ao.mp hr]at hm;cases hm
 ·intro p hp r hr m hm
  rcases aq.mp hp with hp | hp
  ·obtain⟨q,hq,e⟩:=I.jx p hp r hr m hm;exact⟨q,ax _ hq,e⟩
  ·rcases aq.mp hp with hp | hp
   ·obtain⟨q,hq,e⟩:=C.jx p hp r hr m hm;exact⟨q,aj _ (ax _ hq),e⟩
   ·rw[ao.mp hp]at hr
    obtain⟨q,hq,e⟩:=C.jn r hr m hm;exact⟨q,aj _ (ax _ hq),e⟩
 ·intro r hr
  rcases aq.mp hr with hr | hr
  ·exact I.ro r hr
  ·rw[ao.mp hr];exact trivial
 ·intro p hp
  rcases aq.mp hp with hp | hp
  ·exact I.rx p hp
  ·rcases aq.mp hp with hp | hp
   ·exact C.rx p hp
   ·rw[ao.mp hp];exact⟨C.ro,zu⟩
end
def sg (n:Nat):Str:=⟨#[97+n]⟩
def gH (n:Nat):List Str:= [sg n,sg n++sg (n+1),sg (n+1),sg (n+1)++sg (n+2),sg (n+2),sg n++sg (n+2),sg n++sg (n+1)++sg (n+2),sg (n+2)++sg (n+1)]
theorem zqQ: ∀n < 24,(gH n).Nodup:=1#0
theorem zq_: ∀n:Nat,n < 24->Txt.slice (Txt.slice 13#1 (some (n:Int)) none) none (some 3)=⟨#[97+n,97+(n+1),97+(n+2)]⟩:=1#0
def zwK:zP:=λxs st Q=> ∃(i:Nat) (a b:Int),xs= [.obj i]/\st[i]?=some 3#3/\yE a b/\∀(us ns ts:List Str) a b,us.length=6->us.Nodup->ns.length=8->ns.Nodup->(∀w∈ns,vX w)->ts≠ []->ts.length<=40->ts.Nodup->yE a b->Q (.tup [.lst (us.map PV.str),.lst (ns.map PV.str),.lst (ts.map PV.str)]) 5#11
def vH (E:List Ee):List 2#3:=E.map λp=>(.inl (p.1:Int),.lst (p.2.map yR))
structure L4 (S:Int->Int->List PV->List PV->z5)(i p r h e:Nat)(kv:List 2#3)(E:List Ee):Prop where
 gi: ∀{a b w d},(S a b w d)[i]?=some 3#3
 si: ∀{a b w d a' b'},(S a b w d).set i (zA a' b')=S a' b' w d
 gr: ∀{a b w d},(S a b w d)[r]?=some (.lst w)
 sr: ∀{a b w d w'},(S a b w d).set r (.lst w')=S a b w' d
 gh: ∀{a b w d},(S a b w d)[h]?=some (.lst d)
 sh: ∀{a b w d d'},(S a b w d).set h (.lst d')=S a b w d'
 gp: ∀{a b w d},(S a b w d)[p]?=some (.rcd kv)
 ge: ∀{a b w d},(S a b w d)[e]?=some (.dct (vH E))
theorem L4.len {S:Int->Int->List PV->List PV->z5}{i p r h e:Nat}{kv:List 2#3}{E:List Ee}(L:L4 S i p r h e kv E){a b a' b':Int}{w w' d d':List PV} :(S a b w d).length=(S a' b' w' d').length:=by
 have h1:=congrArg List.length (L.si (a:=a) (b:=b) (w:=w) (d:=d) (a':=a') (b':=b'));have h2:=congrArg List.length (L.sr (a:=a') (b:=b') (w:=w) (d:=d) (w':=w'));have h3:=congrArg List.length (L.sh (a:=a') (b:=b') (w:=w') (d:=d) (d':=d'));rw[dq]at h1 h2 h3;grobner
theorem aK {α β:Type}{f:α->β} : ∀{l:List α} {k:Nat},(l.map f).eraseIdx k=(l.eraseIdx k).map f
 | [],_=>rfl
 | x::l,0=>rfl
 | x::l,k+1=>by rw[av,km,km,av,aK]
def zgf:zP:=λxs st Q=> ∃(S:Int->Int->List PV->List PV->z5) (i p r h e:Nat) (kv:List 2#3) (names:List Str) (E:List Ee) (a b:Int) (w0:List PV) (hd:List Nat),xs= [.obj i,.obj p,.obj r,.obj h]/\st=S a b w0 (hd.map yR)/\L4 S i p r h e kv E/\yE a b/\hd≠ []/\hd.length<=1000/\w0.length<=1000/\
 (zH kv (.inr "names")=some (.lst (names.map PV.str))/\zH kv (.inr "ends")=some (.obj e)/\∀x∈hd,x < names.length/\∃l:List Nat,l.length<=1000/\zH (vH E) 1#17=some 6#17)/\
 ∀(k x:Nat) (l:List Nat) (nm:Str) a b,hd[k]?=some x->names[x]?=some nm->zH (vH E) 1#17=some 6#17->yE a b->Q .non (S a b (w0++ [.tup [.str 28#1,.str nm]]) ((hd.eraseIdx k++l).map yR))
def tR:List Ee->Nat->List Nat
 | [],_=> []
 | (x,l)::E,y=>if y=x then y::l.flatMap (tR E)else tR E y
def tE (E:List Ee):Nat->List Nat:=tR E.reverse
theorem zgm {E:List Ee}{x:Nat}{l:List Nat}{y:Nat} :tE (E++ [(x,l)]) y=if y=x then y::l.flatMap (tE E)else tE E y:=by
 unfold tE;rw[iy];rfl
theorem zoi {E:List Ee}{y:Nat} : ∀{E1:List Ee},y∉E1.map (·.1)->tR (E1++E) y=tR E y
 | [],_=>rfl
 | (x,l)::E1,h=>by
  rw[av,bo,not_or]at h;rw[io];show(if y=x then _ else tR (E1++E) y)=_;rw[if_neg h.1];exact zoi h.2
theorem zgl {E:List Ee}{y:Nat}{E1:List Ee}(h:y∉E1.map (·.1)):tE 7#6 y=tE E y:=by
 unfold tE;rw[iy];exact zoi (by rw[pz,qa];exact h)
theorem zof {E E1:List Ee}(hn:(E1.map (·.1)).Nodup)(hv:iG E1){x:Nat}{l:List Nat}(hm:(x,l)∈E1):tE 7#6 x=x::l.flatMap (tE 7#6):=by
 obtain⟨A,B,rfl⟩:=il hm;rw[bb,av]at hn;have h1:=bj.mp hn;have h2:=fg.mp h1.2.1;have e:E++(A++(x,l)::B)=(E++A++ [(x,l)])++B:=3#0
 rw[e,zgl h2.1,zgm,if_pos rfl]
 congr 1
 refine pQ λy hy=> ?_;have hyA:=hv A B x l rfl y hy;have hyB:y∉B.map (·.1):=λz=>h1.2.2 y hyA y (bf _ z) rfl;have hyx:y≠x:=h1.2.2 y hyA x (aw ..);rw[zgl hyB,zgm,if_neg hyx]
def tN (en:Str->List Str)(hd:List Str):Rh->List Str
 | .split x=>hd++ [x]
 | .join x=>hd.filter (λy=>decide (y≠x))++en x
 | .pl _=>hd
def y9 (en:Str->List Str)(rs:List Rh):List Str:=rs.foldl (tN en) []
theorem oJ {en:Str->List Str}{rs:List Rh}{r:Rh} :y9 en (rs++ [r])=tN en (y9 en rs) r:=by unfold y9;rw[yf];rfl
def HV (en:Str->List Str)(rs:List Rh):Prop:= ∀A x B,rs=A++ .join x::B->x∈y9 en A
theorem bC {en:Str->List Str}{rs:List Rh}{r:Rh}(h:HV en rs)(hr: ∀x,r= .join x->x∈y9 en rs):HV en (rs++ [r]):=λA x B e=>by
 rcases rB e with⟨B',h1,_⟩ | ⟨A',rfl,h2⟩
 ·exact h A x B' h1
 ·cases A' with
  | nil=>cases h2;rw[da];exact hr x rfl
  | cons q A'=>cases A' <;> cases h2
def nK (nm:Nat->Str)(E1:List Ee)(en:Str->List Str):Prop:= ∀p∈E1,en (nm p.1)=p.2.map nm
def uZ (rs:List Rh):List Str:=rs.filterMap Rh.jn
def qR (X:List Re):List Str:=X.flatMap λp=>uZ p.2
theorem zeS {X Y:List Rh} :uZ (X++Y)=uZ X++uZ Y:=by unfold uZ;simp
theorem zlP {X Y:List Re} :qR (X++Y)=qR X++qR Y:=by unfold qR;simp
def zp4 (nm:Nat->Str)(X:List Re):Prop:= ∀A k r B,X=A++(k,r)::B->∀m∈uZ r,∃j∈A.map (·.1),m=nm j
structure LK (shl:List Sh)(nm:Nat->Str)(sp:List Nat)(E:List Ee)(zk ks:List Nat)(X:List Re)(E1:List Ee)(rs:List Rh)(hd:List Nat):Prop extends LI shl nm sp E zk ks X E1 rs hd where
 pj: ∃js:List Nat,((hd.flatMap (tE 7#6))++js).Perm ks/\(qR X++uZ rs).Perm (js.map nm)
 hb: ∀en,nK nm E1 en->hd.map nm=y9 en rs/\HV en rs
 hx: ∀en,nK nm E1 en->∀p∈X,y9 en p.2=en (nm p.1)/\HV en p.2
 je:zp4 nm X
section
variable {shl:List Sh} {nm:Nat->Str} {sp:List Nat} {E:List Ee} {zk ks:List Nat} {X:List Re} {E1:List Ee} {rs:List Rh} {hd:List Nat}
theorem LK.start (hs:sp.Nodup):LK shl nm sp E sp [] [] [] [] []:=
 {LI.start hs with pj:=⟨[],3#0,by simp[qR,uZ]⟩,hb:=λen _=>⟨rfl,λA x B e=>by cases A <;> cases e⟩,hx:=λen _ p hp=>by simp at hp,je:=λA k r B h=>by cases A <;> cases h}
theorem LK.plain (I:LK shl nm sp E zk ks X E1 rs hd){r:Rw}(hr:pK shl r):LK shl nm sp E zk ks X E1 (rs++ [.pl r]) hd:=
 by
 refine{I.toLI.plain hr with pj:= ?_,hb:=λen ha=> ?_,hx:=I.hx,je:=I.je}
 ·obtain⟨js,h1,h2⟩:=I.pj
  refine⟨js,h1,?_⟩;rw[zeS,show uZ [Rh.pl r]= []from rfl,da];exact h2
 ·obtain⟨h1,h2⟩:=I.hb en ha
  exact⟨by rw[oJ];exact h1,bC h2 λx e=>by cases e⟩
theorem zlt {f:Nat->List Nat} : ∀{l:List Nat} {k x:Nat},l[k]?=some x->(l.flatMap f).Perm (f x++(l.eraseIdx k).flatMap f)
 | [],k,x,h=>by simp at h
 | y::l,0,x,h=>by simp at h;subst h;simp
 | y::l,k+1,x,h=>by
  have:=zlt (f:=f) (l:=l) (k:=k) (x:=x) (by simpa using h);rw[fk,km,fk];refine(ii _ this).trans ?_;rw[<- bi,<- bi];exact ib _ gu
theorem zqX {l:List Nat}(hn:l.Nodup){k x:Nat}(hx:l[k]?=some x):l.eraseIdx k=l.filter λy=>decide (y≠x):=by
 induction l generalizing k with
 | nil=>simp at hx
 | cons y l ih=>
  rw[fg]at hn;cases k with
  | zero=>
   simp at hx;subst hx;rw[List.eraseIdx_cons_zero,ky,if_neg 3#0];symm;rw[List.filter_eq_self];intro a ha;exact decide_eq_true λz=>hn.1 (z▸ha)
  | succ k=>
   have hx':l[k]?=some x:=by simpa using hx
   have Ao:y≠x:=λz=>hn.1 (z▸au.mpr ⟨k,hx'⟩);rw[km,ky,if_pos (by simpa using Ao),ih hn.2 hx']
theorem LK.tin (I:LK shl nm sp E zk ks X E1 rs hd){x:Nat}(hx:x∈ks):x∈tE 7#6 x:=by
 have hn:(E1.map (·.1)).Nodup:=by rw[I.ek];exact(bj.mp I.nd).1
 obtain⟨⟨y,l⟩,hm,e⟩:=cb.mp (I.ek▸hx);have e':y=x:=e;subst e';rw[zof hn I.ev hm];exact aw ..
theorem znY {f:Nat->List Nat} : ∀{l:List Nat},(∀x∈l,x∈f x)->l.Sublist (l.flatMap f)
 | [],_=>List.Sublist.refl _
 | x::l,h=>by
  rw[fk];exact(List.singleton_sublist.mpr (h x (aw ..))).append (znY λy hy=>h y (bf _ hy))
theorem LK.hnd (I:LK shl nm sp E zk ks X E1 rs hd):hd.Nodup:=by
 obtain⟨js,h1,_⟩:=I.pj;have h2:=h1.nodup_iff.mpr (bj.mp I.nd).1;exact(bj.mp h2).1.sublist (znY λx hx=>I.tin (I.hk x hx))
theorem LK.join (inj: ∀a∈sp,∀b∈sp,nm a=nm b->a=b)(I:LK shl nm sp E zk ks X E1 rs hd){k x:Nat}{l:List Nat}(hx:hd[k]?=some x)(hl:(x,l)∈E1):LK shl nm sp E zk ks X E1 (rs++ [.join (nm x)]) (hd.eraseIdx k++l)/\((hd.eraseIdx k++l).map (wE 7#6)).sum+1=(hd.map (wE 7#6)).sum:=by
 have hn:(E1.map (·.1)).Nodup:=by rw[I.ek];exact(bj.mp I.nd).1
 have J:=I.toLI.join hx hl;refine⟨{J.1 with pj:= ?_,hb:=λen ha=> ?_,hx:=I.hx,je:=I.je},J.2⟩
 ·obtain⟨js,h1,h2⟩:=I.pj
  refine⟨js++ [x],?_,?_⟩
  ·refine List.Perm.trans ?_ h1
   have hp:=zlt (f:=tE 7#6) hx;rw[zof hn I.ev hl]at hp;rw[kq];generalize (hd.eraseIdx k).flatMap (tE 7#6)=a at hp⊢
   generalize l.flatMap (tE 7#6)=b at hp⊢
   refine List.Perm.trans ?_ (ib js hp.symm);rw[io,io];refine List.Perm.trans ?_ (List.perm_middle (a:=x) (l₁:= [])).symm;rw[jc,<- bi];refine(lr x _).trans (List.Perm.cons _ (ib _ gu))
  ·rw[zeS,bb,<- bi]
   refine(ib _ h2).trans (qr ?_);simp[uZ,Rh.jn]
 ·obtain⟨h1,h2⟩:=I.hb en ha
  have hxm:x∈hd:=au.mpr ⟨k,hx⟩;refine⟨?_,bC h2 λy e=>by cases e;rw[<- h1];exact cg hxm⟩;rw[oJ];show _=(y9 en rs).filter _++en (nm x);rw[<- h1,bb,ha _ hl,zqX I.hnd hx,yu]
  congr 2
  refine yg λy hy=> ?_;have hys:=I.sub y (ax _ (I.hk y hy));have hxs:=I.sub x (ax _ (I.hk x hxm));show decide (y≠x)=decide (nm y≠nm x);by_cases e:y=x
  ·rw[e];simp
  ·rw[decide_eq_true (show y≠x from e),decide_eq_true (show nm y≠nm x from λz=>e (inj y hys x hxs z))]
theorem LK.split (inj: ∀a∈sp,∀b∈sp,nm a=nm b->a=b)(I:LK shl nm sp E zk ks X E1 rs hd){i j:Nat}(hj:zk[i]?=some j){spc ksc:List Nat}{Xc:List Re}{E1c:List Ee}{rsc:List Rh}{Ay:List Nat}
  (C:LK shl nm (zk.eraseIdx i) 7#6 spc ksc Xc E1c rsc Ay) (zu:rsc.length<=30):
  LK shl nm sp E spc (ks++(ksc++ [j])) (X++(Xc++ [(j,rsc)])) 8#11 (rs++ [.split (nm j)]) (hd++ [j]):=by
 have S:=LI.split inj I.toLI hj C.toLI zu;have ag: ∀{en},nK nm 8#11 en->nK nm E1 en/\nK nm E1c en/\en (nm j)=Ay.map nm:=λ{en} h=>⟨λp hp=>h p (ax _ hp),λp hp=>h p (aj _ (ax _ hp)),h (j,Ay) 3#0⟩;have ndk:=(bj.mp S.nd).1;have keys:(E1++(E1c++ [(j,Ay)])).map (·.1)=ks++(ksc++ [j]):=S.ek;refine{S with pj:= ?_,hb:=λen ha=> ?_,hx:=λen ha p hp=> ?_,je:= ?_}
 ·obtain⟨js,h1,h2⟩:=I.pj
  obtain⟨jsc,c1,c2⟩:=C.pj;refine⟨js++jsc,?_,?_⟩
  ·have hw:hd.flatMap (tE (E++8#11))=hd.flatMap (tE 7#6):=pQ λy hy=>by
    rw[<- bi];refine zgl ?_;rw[bb,C.ek];intro z;exact(bj.mp ndk).2.2 y (I.hk y hy) y z rfl
   have hwj:tE (E++8#11) j=j::Ay.flatMap (tE (E++E1++E1c)):=by
    rw[<- bi,<- bi,zgm,if_pos rfl]
   rw[kq,hw,fk,yo,da,hwj];generalize hd.flatMap (tE 7#6)=a at h1⊢
   generalize Ay.flatMap (tE (E++E1++E1c))=b at c1⊢
   refine List.Perm.trans ?_ (h1.append (c1.append_right [j]));have p1:(a++j::b++(js++jsc)).Perm (a++(js++(j::b++jsc))):=by
    rw[bi];refine ii _ ?_;rw[<- bi,<- bi];exact ib _ gu
   refine p1.trans ?_;rw[bi];refine ii _ (ii _ ?_);rw[io];exact(lr j _).symm
  ·rw[zlP,zlP,zeS,bb]
   have e1:uZ [Rh.split (nm j)]= []:=rfl;have e2:qR [(j,rsc)]=uZ rsc:=by simp[qR]
   rw[e1,e2,da];refine List.Perm.trans ?_ (h2.append c2);generalize qR Xc++uZ rsc=y;rw[bi,bi];exact ii _ gu
 ·obtain⟨a1,a2,a3⟩:=ag ha
  obtain⟨h1,h2⟩:=I.hb en a1;refine⟨?_,bC h2 λx e=>by cases e⟩;rw[oJ,bb,h1];rfl
 ·obtain⟨a1,a2,a3⟩:=ag ha
  rcases aq.mp hp with hp | hp
  ·exact I.hx en a1 p hp
  ·rcases aq.mp hp with hp | hp
   ·exact C.hx en a2 p hp
   ·rw[ao.mp hp]
    obtain⟨c1,c2⟩:=C.hb en a2;exact⟨by rw[a3];exact c1.symm,c2⟩
 ·intro A k r B e m hm
  rcases rB e with⟨B',h1,_⟩ | ⟨A',rfl,h2⟩
  ·exact I.je A k r B' h1 m hm
  ·rw[bb]
   rcases rB h2 with⟨B',h3,_⟩ | ⟨A'',rfl,h4⟩
   ·obtain⟨q,hq,e'⟩:=C.je A' k r B' h3 m hm;exact⟨q,aj _ hq,e'⟩
   ·cases A'' with
    | nil=>
     cases h4;obtain⟨r',hr',e'⟩:=cy.mp hm;obtain⟨q,hq,e2⟩:=C.jn r' hr' m e';exact⟨q,aj _ (by rw[da,C.xk];exact hq),e2⟩
    | cons q A''=>cases A'' <;> cases h4
end
def zB (names:List Str)(i:Nat):Str:=names.getD i Str.empty
def u3 (nm:Nat->Str)(R:List Re):List 2#3:=R.map λp=>(.inl (p.1:Int),zW (nm p.1,p.2))
def G (a0:PO)(kv:List 2#3)(nm:Nat->Str)(sp:List Nat)(E:List Ee)(R:List Re)(m:z5):z5:=a0:: .lst (sp.map yR):: .dct (vH E):: .dct (u3 nm R):: .rcd kv::m
structure zhi (kv:List 2#3)(names zt:List Str)(shl:List Sh)(many:Nat):Prop where
 nms:zH kv (.inr "names")=some (.lst (names.map PV.str))
 tgs:zH kv (.inr "things")=some (.lst (zt.map PV.str))
 uses:zH kv (.inr "uses")=some (.lst (List.replicate many (.tup 8#6)))
 spare:zH kv (.inr "spare")=some (.obj 1)
 ends:zH kv (.inr "ends")=some (.obj 2)
 rows:zH kv (.inr "rows")=some (.obj 3)
section
variable {a0:PO} {kv:List (z8×PV)} {nm:Nat->Str} {sp:List Nat} {E:List Ee} {R:List Re} {m0 m:z5} {x y z u:PO}
theorem zhc:(G a0 kv nm sp E R m).length=m.length+5:=rfl
theorem zhb:G a0 kv nm sp E R m++m0=G a0 kv nm sp E R (m++m0):=rfl
theorem vS:(G a0 kv nm sp E R m)[1]?=some (.lst (sp.map yR)):=rfl
theorem vT:(G a0 kv nm sp E R m)[2]?=some (.dct (vH E)):=rfl
theorem vG:(G a0 kv nm sp E R m)[3]?=some (.dct (u3 nm R)):=rfl
theorem wW:(G a0 kv nm sp E R m)[4]?=some (.rcd kv):=rfl
theorem zpN:(m0++ [x,y,z])[m0.length]?=some x:=by rw[ba (ar _),ig];rfl
theorem zpO:(m0++ [x,y,z])[m0.length+1]?=some y:=by rw[ba 0#0,show m0.length+1 - m0.length=1 by grobner];rfl
theorem zpP:(m0++ [x,y,z])[m0.length+2]?=some z:=by rw[ba 0#0,show m0.length+2 - m0.length=2 by grobner];rfl
theorem zwO:(m0++ [x,y,z]).set m0.length u=m0++ [u,y,z]:=by rw[gm _ _ (ar _),ig];rfl
theorem zwP:(m0++ [x,y,z]).set (m0.length+1) u=m0++ [x,u,z]:=by rw[gm _ _ 0#0,show m0.length+1 - m0.length=1 by grobner];rfl
theorem zwQ:(m0++ [x,y,z]).set (m0.length+2) u=m0++ [x,y,u]:=by rw[gm _ _ 0#0,show m0.length+2 - m0.length=2 by grobner];rfl
theorem wB:(G a0 kv nm sp E R (m0++ [x,y,z]))[m0.length+5]?=some x:=zpN
theorem vU:(G a0 kv nm sp E R (m0++ [x,y,z]))[m0.length+6]?=some y:=zpO
theorem vO:(G a0 kv nm sp E R (m0++ [x,y,z]))[m0.length+7]?=some z:=zpP
theorem wJ:(G a0 kv nm sp E R (m0++ [x,y,z])).set (m0.length+5) u=G a0 kv nm sp E R (m0++ [u,y,z]):=congrArg (G a0 kv nm sp E R) zwO
theorem vV:(G a0 kv nm sp E R (m0++ [x,y,z])).set (m0.length+6) u=G a0 kv nm sp E R (m0++ [x,u,z]):=congrArg (G a0 kv nm sp E R) zwP
theorem vW:(G a0 kv nm sp E R (m0++ [x,y,z])).set (m0.length+7) u=G a0 kv nm sp E R (m0++ [x,y,u]):=congrArg (G a0 kv nm sp E R) zwQ
theorem zpl {l:List Nat} :(G a0 kv nm sp E R m).set 1 6#17=G a0 kv nm l E R m:=rfl
theorem zpm {E':List Ee} :(G a0 kv nm sp E R m).set 2 (.dct (vH E'))=G a0 kv nm sp E' R m:=rfl
theorem zpn {R':List Re} :(G a0 kv nm sp E R m).set 3 (.dct (u3 nm R'))=G a0 kv nm sp E R' m:=rfl
end
structure HP (ns:List Int)(at':Int)(n:Nat)(kv:List 2#3)(names zt:List Str)(shl:List Sh)(many:Nat)(sp:List Nat)(E:List Ee)(R:List Re):Prop where
 nl:ns.length<=63
 a0:0<=at'
 s7:sp.length<=7
 K:zhi kv names zt shl many
 nn:names.Nodup
 nml:many<=names.length
 n8:names.length=8
 nlt:n < many
 sh: ∀s∈shl,rL s
 se:shl≠ []
 sl:shl.length<=63
 te:zt≠ []
 tl:zt.length<=1000
 sn:sp.Nodup
 sm: ∀x∈sp,x < many
 ns':n∉sp
 nr:n∉R.map (·.1)
 dr: ∀x∈sp,x∉R.map (·.1)
 de: ∀x∈sp,x∉E.map (·.1)
 el:E.length+sp.length<=100
 rl:R.length+sp.length<=100
def dZ (d:Nat):zP:=λxs st Q=> ∃(ns:List Int) (at':Int) (n:Nat) (a0:PO) (kv:List 2#3) (names zt:List Str) (shl:List Sh) (many:Nat) (sp:List Nat) (E:List Ee) (R:List Re) (m0:z5),
 xs= [.lst 0#13,.int at',.obj 4,.int (n:Int)]/\st=G a0 kv 6#2 sp E R m0/\HP ns at' n kv names zt shl many sp E R/\sp.length < d/\
 ∀zk ks X E1 rs hd,LK shl 6#2 sp E zk ks X E1 rs hd->(n=0->hd= [])->rs.length<=30->Q (.lst (hd.map yR)) (G a0 kv 6#2 zk 7#6 (R++X++ [(n,rs)]) m0)
theorem znJ {K:Frag}{vs:List V}{H:Hp}{Q:VK}{E:XK}(h:zX K (dZ 0) vs H Q E):False:=by
 obtain⟨_,_,_,_,_,_,⟨_,_,_,_,_,_,_,_,_,_,_,_,_,_,_,_,h1,_⟩,_⟩:=h;grobner
theorem zqS {E E1:List Ee}{x:Nat}{l:List Nat}(he:x∉E.map (·.1))(hn:(E1.map (·.1)).Nodup)(hm:(x,l)∈E1):zH (vH 7#6) 1#17=some 6#17:=by
 have go: ∀{L:List Ee},(L.map (·.1)).Nodup->(x,l)∈L->zH (vH L) 1#17=some 6#17:=by
  intro L
  induction L with
  | nil=>intro _ h;simp at h
  | cons p L ih=>
   intro hn hm;rw[av,fg]at hn;unfold vH zH;rw[av,db];rcases bo.mp hm with rfl | hm
   ·rw[decide_eq_true rfl];rfl
   ·have:((p.1:Int))≠(x:Int):=λz=>hn.1 (cb.mpr ⟨_,hm,(po z).symm⟩)
    rw[decide_eq_false (λz=>this (ph z))];exact ih hn.2 hm
 have go2: ∀{L:List Ee},x∉L.map (·.1)->zH (vH (L++E1)) 1#17=zH (vH E1) 1#17:=by
  intro L
  induction L with
  | nil=>intro _;rfl
  | cons p L ih=>
   intro h;rw[av,bo,not_or]at h;unfold vH zH;rw[io,av,db];have:decide ((Sum.inl (p.1:Int):z8)=Sum.inl (x:Int))=false:=decide_eq_false (λz=>h.1 (po (ph z)).symm);show Option.map _ (match decide ((Sum.inl (p.1:Int):z8)=Sum.inl (x:Int))with | true=>_ | false=>_)=_;rw[this];exact ih h.2
 rw[go2 he,go hn hm]
theorem zxR {E E1:List Ee}(hn:(E1.map (·.1)).Nodup)(hv:iG E1){x:Nat}(hx:x∈E1.map (·.1)):1<=wE 7#6 x:=by
 obtain⟨⟨y,l⟩,hm,rfl⟩:=cb.mp hx;rw[zg7 hn hv hm];grobner
theorem zgi {f:Nat->Nat} : ∀{l:List Nat},(∀x∈l,1<=f x)->l.length<=(l.map f).sum
 | [],_=>ar _
 | x::l,h=>by
  have h1:=h x (aw ..);have h2:=zgi (l:=l) λy hy=>h y (bf _ hy);rw[av,tq,bv];grobner
theorem zob {f:Nat->Nat}{x:Nat} : ∀{l:List Nat},x∈l->f x<=(l.map f).sum
 | y::l,h=>by
  rw[av,tq];rcases bo.mp h with rfl | h
  ·grobner
  ·have:=zob (f:=f) h;grobner
section
variable {shl:List Sh} {nm:Nat->Str} {sp:List Nat} {E:List Ee} {zk ks:List Nat} {X:List Re} {E1:List Ee} {rs:List Rh} {hd:List Nat}
theorem LI.len (I:LI shl nm sp E zk ks X E1 rs hd):ks.length+zk.length<=sp.length:=by
 have:=mQ I.nd I.sub
 rwa [am]at this
theorem LI.pos (I:LI shl nm sp E zk ks X E1 rs hd){x:Nat}(hx:x∈ks):1<=wE 7#6 x:=zxR (by rw[I.ek];exact(bj.mp I.nd).1) I.ev (by rw[I.ek];exact hx)
theorem LI.hl (I:LI shl nm sp E zk ks X E1 rs hd):hd.length<=ks.length:=bh (zgi λx hx=>I.pos (I.hk x hx)) I.wt
theorem LI.val (I:LI shl nm sp E zk ks X E1 rs hd)(de: ∀x∈sp,x∉E.map (·.1)){x:Nat}(hx:x∈hd): ∃l:List Nat,l.length<=ks.length/\(x,l)∈E1/\zH (vH 7#6) 1#17=some 6#17:=by
 have hk:=I.hk x hx;have hn:(E1.map (·.1)).Nodup:=by rw[I.ek];exact(bj.mp I.nd).1
 obtain⟨⟨y,l⟩,hm,e⟩:=cb.mp (I.ek▸hk);have e':y=x:=e;subst e';refine⟨l,?_,hm,zqS (de y (I.sub y (ax _ hk))) hn hm⟩;have h1:=zg7 (E:=E) hn I.ev hm;have h2:=zob (f:=wE 7#6) hx;have h3:=I.wt;obtain⟨A,B,eA⟩:=il hm;have h4:l.length<=(l.map (wE 7#6)).sum:=zgi λz hz=>I.pos (by
  have:=I.ev A B y l eA z hz;rw[<- I.ek,eA,bb];exact ax _ this)
 grobner
end
theorem zqT {E:List Ee}{x:Nat}{l:List Nat}(h:x∉E.map (·.1)):xY (vH E) 1#17 6#17=vH (E++ [(x,l)]):=by
 rw[j8]
 ·unfold vH;rw[bb];rfl
 ·unfold vH;rw[bx];intro z
  obtain⟨p,hp,e⟩:=cb.mp z;exact h (cb.mpr ⟨p,hp,po (ph e)⟩)
theorem zvW {nm:Nat->Str}{R:List Re}{x:Nat}{rs:List Rh}(h:x∉R.map (·.1)):xY (u3 nm R) 1#17 (zW (nm x,rs))=u3 nm (R++ [(x,rs)]):=by
 rw[j8]
 ·unfold u3;rw[bb];rfl
 ·unfold u3;rw[bx];intro z
  obtain⟨p,hp,e⟩:=cb.mp z;exact h (cb.mpr ⟨p,hp,po (ph e)⟩)
theorem fB {names:List Str}{x:Nat}(h:x < names.length):names[x]?=some (zB names x):=by
 unfold zB;rw[tx,bz h];rfl
theorem kY {names:List Str}(hn:names.Nodup){a b:Nat}(ha:a < names.length)(hb:b < names.length)(e:zB names a=zB names b):a=b:=
 (dg ha hn).mp (by rw[fB ha,fB hb,e])
theorem zig {l:List Nat}(hn:l.Nodup){i j:Nat}(hj:l[i]?=some j){x:Nat}(h1:x∈l.eraseIdx i):x∈l/\x≠j:=by
 refine⟨ot h1,λz=> ?_⟩;subst z;obtain⟨q,hq⟩:=au.mp h1;rw[vp]at hq
 split at hq
 ·have:=(dg (ah.mp hq).1 hn).mp (hq.trans hj.symm);grobner
 ·have:=(dg (ah.mp hq).1 hn).mp (hq.trans hj.symm);grobner
theorem HP.kid {ns:List Int}{at':Int}{n:Nat}{kv:List 2#3}{names zt:List Str}{shl:List Sh}{many:Nat}{sp zk ks:List Nat}{E E1:List Ee}{R X:List Re}{rs:List Rh}{hd:List Nat}(H:HP ns at' n kv names zt shl many sp E R)(I:LI shl 6#2 sp E zk ks X E1 rs hd){i j:Nat}(hj:zk[i]?=some j):
  HP ns at' j kv names zt shl many (zk.eraseIdx i) 7#6 (R++X):=by
 have hjs:j∈zk:=au.mpr ⟨i,hj⟩;have hl:=I.len;have nd:=bj.mp I.nd;have er: ∀x∈zk.eraseIdx i,x∈zk/\x≠j:=λx hx=>zig nd.2.1 hj hx;have hel:=mo zk i;have h7:=H.s7;have ex:X.length=ks.length:=by rw[<- I.xk,ae]
 have ee:E1.length=ks.length:=by rw[<- I.ek,ae]
 have hr:=H.rl;have he:=H.el;have fresh: ∀x∈zk,x∉(R++X).map (·.1)/\x∉(E++E1).map (·.1):=λx hx=>by
  have hxs:=I.sub x (aj _ hx);have hxk:x∉ks:=λz=>nd.2.2 x z x hx rfl;rw[bb,bb,I.xk,I.ek,aq,aq,not_or,not_or];exact⟨⟨H.dr x hxs,hxk⟩,H.de x hxs,hxk⟩
 exact{nl:=H.nl,a0:=H.a0,s7:=0#0,K:=H.K,nn:=H.nn,nml:=H.nml,n8:=H.n8,nlt:=H.sm j (I.sub j (aj _ hjs)),sh:=H.sh,se:=H.se,sl:=H.sl,te:=H.te,tl:=H.tl,sn:=nd.2.1.sublist (List.eraseIdx_sublist ..),sm:=λx hx=>H.sm x (I.sub x (aj _ (er x hx).1)),ns':=λz=>(er j z).2 rfl,nr:=(fresh j hjs).1,dr:=λx hx=>(fresh x (er x hx).1).1,de:=λx hx=>(fresh x (er x hx).1).2,el:=by rw[am];grobner,rl:=by rw[am];grobner}
theorem zrw {a0:PO}{kv:List 2#3}{nm:Nat->Str}{sp:List Nat}{E:List Ee}{R:List Re}{m0:z5} :L4 (λa b w d=>G a0 kv nm sp E R (m0++ [zA a b,.lst w,.lst d])) (m0.length+5) 4 (m0.length+6) (m0.length+7) 2 kv E:=⟨wB,wJ,vU,vV,vO,vW,wW,vT⟩
theorem zlQ {ns:List Int}{at':Int}{n:Nat}{a0:PO}{kv:List 2#3}{names zt:List Str}{shl:List Sh}{many:Nat}{sp zk ks:List Nat}{E E1:List Ee}{R X:List Re}{rs:List Rh}{hd:List Nat}{m0:z5}{a b:Int}{Q:K3}(H:HP ns at' n kv names zt shl many sp E R)(I:LI shl 6#2 sp E zk ks X E1 rs hd)(hr:rs.length<=1000)(hb:yE a b)(Ao:hd≠ [])
  (q: ∀(k x:Nat) (l:List Nat) a b,hd[k]?=some x->(x,l)∈E1->yE a b->Q .non (G a0 kv 6#2 zk 7#6 (R++X) (m0++ [zA a b,.lst ((rs++ [Rh.join (zB names x)]).map Rh.pv),.lst ((hd.eraseIdx k++l).map yR)]))):
  zgf [.obj (m0.length+5),.obj 4,.obj (m0.length+6),.obj (m0.length+7)] 2#16 Q:=by
 have h7:=H.s7;have hl:=I.len;have hhl:=I.hl;refine⟨λa b w d=>G a0 kv 6#2 zk 7#6 (R++X) (m0++ [zA a b,.lst w,.lst d]),_,4,_,_,2,kv,names,E++E1,a,b,rs.map Rh.pv,hd,rfl,rfl,zrw,hb,Ao,0#0,by rw[ae];grobner,⟨H.K.nms,H.K.ends,λx hx=>⟨bp (H.sm x (I.sub x (ax _ (I.hk x hx)))) H.nml,?_⟩⟩,λk x l nm a b hk hn hv hb=> ?_⟩
 ·obtain⟨l,h1,_,h3⟩:=I.val H.de hx
  exact⟨l,0#0,h3⟩
 ·have hx:=au.mpr ⟨k,hk⟩
  obtain⟨l',h1,h2,h3⟩:=I.val H.de hx;rw[hv]at h3;have el:l=l':=by
   have:l.map yR=l'.map yR:=PV.lst.inj (cf h3);have inj: ∀{u v:List Nat},u.map yR=v.map yR->u=v:=λ{u v} h=>by
    have:=congrArg (List.map λx:PV=>match x with | .int i=>i.toNat | _=>0) h;simpa [bx,Function.comp_def]using this
   exact inj this
  subst el;rw[fB (bp (H.sm x (I.sub x (ax _ (I.hk x hx)))) H.nml)]at hn;cases hn;have:=q k x l a b hk h2 hb;rw[bb]at this;exact this
theorem eM (r:Rw):yU r.pv=true:=by
 obtain⟨g,d⟩:=r;cases g with
 | none=>exact aF d
 | some x=>rfl
theorem zfO {ns:List Int}{at':Int}{n:Nat}{a0:PO}{kv:List 2#3}{names zt:List Str}{shl:List Sh}{many:Nat}{sp zk:List Nat}{E E1:List Ee}{R X:List Re}{w d:PO}{m0:z5}{a b:Int}{Q:K3}(H:HP ns at' n kv names zt shl many sp E R)(hb:yE a b)
  (q: ∀(r:Rw) a b,pK shl r->yE a b->Q r.pv (G a0 kv 6#2 zk E1 X (m0++ [zA a b,w,d]))):
  c4 [.obj (m0.length+5),.tup 8#6,.lst (zt.map PV.str)] (G a0 kv 6#2 zk E1 X (m0++ [zA a b,w,d])) Q:=
 ⟨_,shl,zt,a,b,rfl,wB,hb,H.sh,H.se,H.sl,H.te,H.tl,λr a b hr hb=>by rw[wJ];exact q r a b hr hb⟩
structure iV (sh:List Sn)(hs:List Hd):Prop where
 shn:(sh.map (·.1)).Nodup
 shl:sh.length<=100
 sd: ∀s∈sh,zE (zV s)<=12
 s2: ∀s∈sh,∃m b,s.2= [m,b]
 hn:(hs.map (·.1)).Nodup
 hl:hs.length<=8
 rl: ∀h∈hs,h.2.length<=30
 rk: ∃rk:Str->Nat,sN 6#11 (hs.map (·.1)) rk/\∀n∈hs.map (·.1),rk n<=7
 jn: ∀n∈hs.map (·.1),∀m∈kids Rh.jn hs n,m∈hs.map (·.1)
 sn:((nP hs).map (·.1)).Nodup
 sl:(nP hs).length<=1000
 rd: ∀h∈hs,∀r∈h.2,jF r
theorem sS: ∀t:Tm Lf,zE (t.pv Lf.pv)<=t.rank+1
 | .num k=>by unfold Tm.pv;simp[zE,dpts]
 | .lf l=>by cases l <;> (unfold Tm.pv Lf.pv;simp[zE,dpts])
 | .op s a b=>by
  have h1:=sS a;have h2:=sS b;unfold Tm.pv Tm.rank;simp only[zE,dpts];grobner
 | .ite a b c=>by
  have h1:=sS a;have h2:=sS b;have h3:=sS c;unfold Tm.pv Tm.rank;simp only[zE,dpts];grobner
theorem zqJ {d:Dd}(h: ∀x,d.tm=some x->x.rank < 7):zE d.pv<=9:=by
 cases d with
 | bag up a b=>cases up <;> (unfold Dd.pv;simp[zE,dpts])
 | tell x=>have h1:zE (xA x)<=x.rank+1:=sS x;have h2:=h x rfl;unfold Dd.pv;simp only[zE,dpts];grobner
 | set a x=>have h1:zE (xA x)<=x.rank+1:=sS x;have h2:=h x rfl;unfold Dd.pv;simp only[zE,dpts];grobner
 | more a x=>have h1:zE (xA x)<=x.rank+1:=sS x;have h2:=h x rfl;unfold Dd.pv;simp only[zE,dpts];grobner
 | lay a x b=>have h1:zE (xA x)<=x.rank+1:=sS x;have h2:=h x rfl;unfold Dd.pv;simp only[zE,dpts];grobner
 | drop a x=>have h1:zE (xA x)<=x.rank+1:=sS x;have h2:=h x rfl;unfold Dd.pv;simp only[zE,dpts];grobner
theorem zvX {shl:List Sh}{r:Rh}(h:oF shl r):jF r:=by
 unfold jF;cases r with
 | split n=>unfold Rh.pv;simp[zE,dpts]
 | join n=>unfold Rh.pv;simp[zE,dpts]
 | pl r=>
  obtain⟨g,d⟩:=r;have hd:=zqJ (d:=d) λx hx=>(h.2.1 x hx).2;cases g with
  | none=>show zE d.pv<=40;grobner
  | some x=>
   have h1:zE (xA x)<=x.rank+1:=sS x;have h2:=(h.1 x rfl).2;show zE (.tup 1#18)<=40;simp only[zE,dpts];grobner
def qE (nm:Nat->Str)(p:Re):Hd:=(nm p.1,p.2)
theorem zl_ {l A B:List Str}{x:Str}(e:l=A++B)(h:x∈A):l.idxOf x < A.length:=by
 rw[e,uc,if_pos h];exact np h
theorem zuA {shl:List Sh}{names:List Str}{sp ks zk:List Nat}{X:List Re}{E1:List Ee}{rs:List Rh}{hd:List Nat}{sh:List Sn}{hs:List Hd}(AH:names.Nodup)(Aq: ∀x∈sp,x < names.length/\x≠0)(h8:0 < names.length)(h7:sp.length<=7)(I:LI shl 6#2 sp [] zk ks X E1 rs hd)(AA:rs.length<=30)
  (shn:(sh.map (·.1)).Nodup) (shl':sh.length<=100) (sd: ∀s∈sh,zE (zV s)<=12) (s2: ∀s∈sh,∃m b,s.2= [m,b]) (hp:hs.Perm ((X++ [(0,rs)]).map (qE 6#2))):iV sh hs:=by
 have hkl:=I.len;have hks: ∀x∈ks,x∈sp:=λx hx=>I.sub x (ax _ hx);have hin: ∀x∈ks++ [0],x < names.length:=λx hx=>by
  rcases aq.mp hx with hx | hx
  ·exact(Aq x (hks x hx)).1
  ·rw[ao.mp hx];exact h8
 have hids:(X++ [((0:Nat),rs)]).map (·.1)=ks++ [0]:=by rw[bb,I.xk];rfl
 have hnd:(ks++ [0]).Nodup:=bj.mpr ⟨(bj.mp I.nd).1,3#0,λa ha b hb=>by rw[ao.mp hb];exact(Aq a (hks a ha)).2⟩;have hnm:((X++ [((0:Nat),rs)]).map (qE 6#2)).map (·.1)=(ks++ [0]).map 6#2:=by rw[<- hids,bx,bx];rfl
 have hndn:((ks++ [0]).map 6#2).Nodup:=by
  refine df.mpr λi j hi hj Av e=> ?_;rw[le,le]at e;rw[ae]at hi hj;have:=kY AH (hin _ (jg hi)) (hin _ (jg hj)) e;exact df.mp hnd i j hi hj Av this
 have hn:(hs.map (·.1)).Nodup:=by
  have:=hp.map (·.1);rw[hnm]at this;exact this.nodup_iff.mpr hndn
 have hmem: ∀x,x∈hs.map (·.1)↔x∈(ks++ [0]).map 6#2:=λx=>by
  have:=hp.map (·.1);rw[hnm]at this;exact this.mem_iff
 have hof: ∀h∈hs,∃p∈X++ [((0:Nat),rs)],h=qE 6#2 p:=λh hh=>by
  obtain⟨p,hp',e⟩:=cb.mp (hp.mem_iff.mp hh);exact⟨p,hp',e.symm⟩
 have Ar: ∀p∈X++ [((0:Nat),rs)],(∀r∈p.2,oF shl r)/\p.2.length<=30/\(∀m∈tg p.2,∃j∈ks,m=zB names j)/\(∀r∈p.2,∀m,r.jn=some m->∃j∈ks,m=zB names j)/\(tg p.2).Nodup:=λp hp=>by
  rcases aq.mp hp with hp | hp
  ·refine⟨(I.rx p hp).1,(I.rx p hp).2,λm hm=>I.ti m (ax _ (fh.mpr ⟨p,hp,hm⟩)),I.jx p hp,?_⟩
   have h1:=(bj.mp I.tn).1;obtain⟨A,B,e⟩:=il hp;rw[e,zgr]at h1;have h2:=(bj.mp h1).2.1;unfold tgs at h2;rw[fk]at h2;exact(bj.mp h2).1
  ·rw[ao.mp hp]
   exact⟨I.ro,AA,λm hm=>I.ti m (aj _ hm),I.jn,(bj.mp I.tn).2.1⟩
 have hks7:(ks.map 6#2).length<=7:=by rw[ae];grobner
 have sub1: ∀{m:Str},(∃j∈ks,m=zB names j)->m∈hs.map (·.1):=λ{m} ⟨j,hj,e⟩=>(hmem m).mpr (by rw[e];exact cg (ax _ hj));have hSP:(nP hs).map (·.1)=hs.flatMap λh=>tg h.2:=by
  unfold nP;rw[List.map_flatMap];refine pQ λh _=> ?_;unfold SP1 tg;rw[bx,<- znU (k:=0)];rfl
 have hTP:(hs.flatMap λh=>tg h.2).Perm (tgs X++tg rs):=by
  have h1:=hp.flatMap_right (λh:Hd=>tg h.2);refine h1.trans (qr ?_);rw[bb,kq,qb];unfold tgs qE;simp
 have hsn:((nP hs).map (·.1)).Nodup:=by rw[hSP];exact hTP.nodup_iff.mpr I.tn
 refine⟨shn,shl',sd,s2,hn,?_,λh hh=> ?_,⟨λn=>((ks++ [0]).map 6#2).idxOf n,⟨λn hn' m hm=> ?_,λn hn' m hm=> ?_,λn hn'=> ?_⟩,λn hn'=> ?_⟩,λn hn' m hm=> ?_,hsn,?_,λh hh r hr=> ?_⟩
 ·rw[hp.length_eq,ae,am,cr]
  have:X.length=ks.length:=by rw[<- I.xk,ae]
  grobner
 ·obtain⟨p,hp',rfl⟩:=hof h hh;exact(Ar p hp').2.1
 ·obtain⟨h,hh,rfl⟩:=cb.mp hn'
  rw[oO hn hh]at hm;obtain⟨p,hp',rfl⟩:=hof h hh;exact sub1 ((Ar p hp').2.2.1 m hm)
 ·obtain⟨h,hh,rfl⟩:=cb.mp hn'
  rw[oO hn hh]at hm;obtain⟨p,hp',rfl⟩:=hof h hh;obtain⟨k,r⟩:=p;show((ks++ [0]).map 6#2).idxOf m < ((ks++ [0]).map 6#2).idxOf (zB names k);obtain⟨A,B,e⟩:=il hp';have eids:ks++ [0]=A.map (·.1)++k::B.map (·.1):=by rw[<- hids,e,bb];rfl
  have hmA:m∈(A.map (·.1)).map 6#2:=by
   rcases rB e with⟨B',h1,_⟩ | ⟨A',rfl,h2⟩
   ·obtain⟨j,hj,e'⟩:=I.er A k r B' h1 m hm
    rw[e'];exact cg hj
   ·cases A' with
    | nil=>
     cases h2;obtain⟨j,hj,e'⟩:=(Ar _ hp').2.2.1 m hm;rw[e',da,I.xk];exact cg hj
    | cons q A'=>cases A' <;> cases h2
  have h1:=zl_ (l:=(ks++ [0]).map 6#2) (A:=(A.map (·.1)).map 6#2) (B:=(k::B.map (·.1)).map 6#2) (by rw[eids,bb]) hmA;have h2:((A.map (·.1)).map 6#2).length<=((ks++ [0]).map 6#2).idxOf (zB names k):=by
   rw[eids,bb]at hndn⊢
   rw[uc,if_neg (λz=>(bj.mp hndn).2.2 _ z _ (by rw[av];exact aw ..) rfl)];grobner
  grobner
 ·obtain⟨h,hh,rfl⟩:=cb.mp hn'
  rw[oO hn hh];obtain⟨p,hp',rfl⟩:=hof h hh;have h1:=Ar p hp';have:=mQ (l:=tg p.2) (m:=ks.map 6#2) h1.2.2.2.2 λm hm=>let⟨j,hj,e⟩:=h1.2.2.1 m hm;by rw[e];exact cg hj
  exact bh this hks7
 ·have:=np ((hmem n).mp hn')
  rw[ae,am,cr]at this;show((ks++ [0]).map 6#2).idxOf n<=7;grobner
 ·obtain⟨h,hh,rfl⟩:=cb.mp hn'
  rw[oO hn hh]at hm;obtain⟨p,hp',rfl⟩:=hof h hh;obtain⟨r,hr,e⟩:=cy.mp hm;exact sub1 ((Ar p hp').2.2.2.1 r hr m e)
 ·have h1:(nP hs).length=(tgs X++tg rs).length:=by rw[<- ae (f:=(·.1)),hSP,hTP.length_eq]
  have h2:=mQ (l:=tgs X++tg rs) (m:=ks.map 6#2) I.tn λm hm=>let⟨j,hj,e⟩:=I.ti m hm;by rw[e];exact cg hj
  grobner
 ·obtain⟨p,hp',rfl⟩:=hof h hh
  exact zvX ((Ar p hp').1 r hr)
def iD (en:Str->List Str)(x:Str)(r:Rh):Prop:=r= .split x∨∃y,r= .join y/\x∈en y
theorem zr0 {en:Str->List Str}{hd:List Str}{x:Str}{r:Rh} :x∈tN en hd r↔(x∈hd/\r≠ .join x)∨iD en x r:=by
 unfold iD;cases r with
 | split y=>
  show x∈hd++ [y]↔_;rw[aq,ao];constructor
  ·rintro(h | rfl)
   ·exact .inl ⟨h,λz=>by cases z⟩
   ·exact .inr 5#9
  ·rintro(h | h | ⟨_,h,_⟩)
   ·exact .inl h.1
   ·cases h;exact .inr rfl
   ·cases h
 | join y=>
  show x∈hd.filter _++en y↔_;rw[aq,jl];constructor
  ·rintro(h | h)
   ·exact .inl ⟨h.1,λz=>by cases z;simp at h⟩
   ·exact .inr (.inr ⟨y,rfl,h⟩)
  ·rintro(h | h | ⟨_,h,h'⟩)
   ·exact .inl ⟨h.1,by simpa using λz:x=y=>h.2 (by rw[z])⟩
   ·cases h
   ·cases h;exact .inr h'
 | pl r=>
  show x∈hd↔_;constructor
  ·exact λh=> .inl ⟨h,λz=>by cases z⟩
  ·rintro(h | h | ⟨_,h,_⟩)
   ·exact h.1
   ·cases h
   ·cases h
theorem zl3 {en:Str->List Str}{x:Str} : ∀(rs:List Rh) (Ac:List Str),x∈rs.foldl (tN en) Ac↔(x∈Ac/\Rh.join x∉rs)∨∃A r B,rs=A++r::B/\iD en x r/\Rh.join x∉B
 | [],Ac=>by
  constructor
  ·exact λh=> .inl ⟨h,3#0⟩
  ·rintro(h | ⟨A,r,B,h,_⟩)
   ·exact h.1
   ·cases A <;> cases h
 | r::rs,Ac=>by
  rw[gj,zl3 rs,zr0];constructor
  ·rintro(⟨h | h,h2⟩ | ⟨A,r',B,rfl,h⟩)
   ·refine .inl ⟨h.1,λz=> ?_⟩
    rcases bo.mp z with z | z
    ·exact h.2 z.symm
    ·exact h2 z
   ·exact .inr ⟨[],r,rs,rfl,h,h2⟩
   ·exact .inr ⟨r::A,r',B,rfl,h⟩
  ·rintro(⟨h,h2⟩ | ⟨A,r',B,h,h2⟩)
   ·rw[bo,not_or]at h2
    exact .inl ⟨.inl ⟨h,λz=>h2.1 z.symm⟩,h2.2⟩
   ·cases A with
    | nil=>cases h;exact .inl ⟨.inr h2.1,h2.2⟩
    | cons q A=>cases h;exact .inr ⟨A,r',B,rfl,h2⟩
def pF (en:Str->List Str)(x:Str)(rs:List Rh)(i:Nat):Prop:= ∃r,rs[i]?=some r/\iD en x r
theorem oK {en:Str->List Str}{x:Str}{rs:List Rh}{n:Nat} :x∈y9 en (rs.take n)↔∃i:Nat,i < n/\pF en x rs i/\∀j:Nat,i < j->j < n->rs[j]?≠some (.join x):=by
 unfold y9;rw[zl3];constructor
 ·rintro(h | ⟨A,r,B,h,h2,h3⟩)
  ·exact absurd h.1 3#0
  ·have e: ∀k:Nat,(rs.take n)[k]?=(A++r::B)[k]?:=λk=>by rw[h]
   have eA:=e A.length;rw[ba (ar _),ig,pc,ou]at eA
   split at eA
   ·next hA=>
    refine⟨A.length,hA,⟨r,eA,h2⟩,λj h4 h5 z=>h3 ?_⟩;have ej:=e j;rw[ou,if_pos h5,z,ba 0#0]at ej;obtain⟨q,hq⟩: ∃q,j - A.length=q+1:=⟨j - A.length - 1,0#0⟩;rw[hq,mq]at ej;exact au.mpr ⟨q,ej.symm⟩
   ·cases eA
 ·rintro⟨i,hi,⟨r,h1,h2⟩,h3⟩
  right
  have hl:i < rs.length:=(ah.mp h1).1;have hl2:i < (rs.take n).length:=by rw[cz];grobner
  refine⟨(rs.take n).take i,r,(rs.take n).drop (i+1),?_,h2,λz=> ?_⟩
  ·have:(rs.take n)[i]=r:=by rw[List.getElem_take];exact(ah.mp h1).2
   rw[<- this,ic,fo]
  ·obtain⟨q,hq⟩:=au.mp z
   rw[sk,ou]at hq
   split at hq
   ·next hk=>exact h3 _ 0#0 hk hq
   ·cases hq
theorem i9 {g:Rh->Option Str}{hs:List Hd}(hn:(hs.flatMap λh=>h.2.filterMap g).Nodup){h k:Hd}{i j:Nat}{r r':Rh}{y:Str}(ha:h∈hs)(hb:k∈hs)(hi:h.2[i]?=some r)(hj:k.2[j]?=some r')(e:g r=some y)(e':g r'=some y):h=k/\i=j:=by
 unfold List.Nodup at hn;rw[wg]at hn;obtain⟨a,ha⟩:=au.mp ha;obtain⟨b,hb⟩:=au.mp hb;obtain⟨a1,a2⟩:=ah.mp ha;obtain⟨b1,b2⟩:=ah.mp hb;have p:=df.mp hn.2;have m1:y∈h.2.filterMap g:=cy.mpr ⟨r,au.mpr ⟨i,hi⟩,e⟩;have m2:y∈k.2.filterMap g:=cy.mpr ⟨r',au.mpr ⟨j,hj⟩,e'⟩;have hab:a=b:=by
  rcases yh a b with z | z | z
  ·exact absurd rfl (p a b a1 b1 z y (by rw[a2];exact m1) y (by rw[b2];exact m2))
  ·exact z
  ·exact absurd rfl (p b a b1 a1 z y (by rw[b2];exact m2) y (by rw[a2];exact m1))
 subst hab;have hk:h=k:=a2.symm.trans b2;subst hk;refine⟨rfl,?_⟩;have p2:=hn.1 h (au.mpr ⟨a,ha⟩);rw[List.pairwise_filterMap]at p2;have p3:=df.mp p2;obtain⟨i1,i2⟩:=ah.mp hi;obtain⟨j1,j2⟩:=ah.mp hj;rcases yh i j with z | z | z
 ·exact absurd rfl (p3 i j i1 j1 z y (by rw[i2];exact e) y (by rw[j2];exact e'))
 ·exact z
 ·exact absurd rfl (p3 j i j1 i1 z y (by rw[j2];exact e') y (by rw[i2];exact e))
structure x6 (hs:List Hd)(en:Str->List Str)(rk:Str->Nat):Prop where
 hb: ∀h∈hs,y9 en h.2=en h.1/\HV en h.2
 root: ∀h t,hs=h::t->en h.1= []
 jn:(hs.flatMap λh=>h.2.filterMap Rh.jn).Nodup
 je: ∀y,y∈hs.flatMap (λh=>h.2.filterMap Rh.jn)↔y∈hs.tail.map (·.1)
 jr: ∀h∈hs,∀y,Rh.join y∈h.2->rk y < rk h.1
 r7: ∀h∈hs,rk h.1<=7
 sn:(hs.flatMap λh=>h.2.filterMap Rh.sp).Nodup
 st: ∀y,y∈hs.flatMap (λh=>h.2.filterMap Rh.sp)->y∈hs.tail.map (·.1)
section
variable {hs:List Hd} {en:Str->List Str} {rk:Str->Nat}
theorem x6.split (G:x6 hs en rk){x:Str} : ∀(m:Nat) (h:Hd),rk h.1<=m->h∈hs->∀n,x∈y9 en (h.2.take n)->∃k∈hs,∃i:Nat,k.2[i]?=some (Rh.split x):=by
 intro m
 induction m with
 | zero | succ m ih=>
  intro h hr hh n hx;obtain⟨i,_,⟨r,h1,h2⟩,_⟩:=oK.mp hx;rcases h2 with rfl | ⟨y,rfl,h2⟩
  ·exact⟨h,hh,i,h1⟩
  ·have hm:=au.mpr ⟨i,h1⟩
   have hl:=G.jr h hh y hm;have hy:=(G.je y).mp (fh.mpr ⟨h,hh,cy.mpr ⟨_,hm,rfl⟩⟩);obtain⟨k,hk,rfl⟩:=cb.mp hy;have hk':=iq hk
   first
    | (exfalso;grobner)
    | (refine ih k 0#0 hk' k.2.length ?_
       rw[du,(G.hb k hk').1];exact h2)
theorem x6.tail (G:x6 hs en rk){x:Str}{h:Hd}(hh:h∈hs){n:Nat}(hx:x∈y9 en (h.2.take n)):x∈hs.tail.map (·.1):=by
 obtain⟨k,hk,i,e⟩:=G.split _ h (ar _) hh n hx;exact G.st x (fh.mpr ⟨k,hk,cy.mpr ⟨_,au.mpr ⟨i,e⟩,rfl⟩⟩)
theorem x6.joined (G:x6 hs en rk){x:Str}(hx:x∈hs.tail.map (·.1)): ∃k∈hs,∃i:Nat,k.2[i]?=some (Rh.join x):=by
 obtain⟨k,hk,h⟩:=fh.mp ((G.je x).mpr hx);obtain⟨r,hr,e⟩:=cy.mp h;have:r= .join x:=by cases r <;> cases e;rfl
 subst this;exact⟨k,hk,au.mp hr⟩
theorem x6.isplit (G:x6 hs en rk){x:Str}(hx:x∈hs.tail.map (·.1)): ∃k∈hs,∃i:Nat,k.2[i]?=some (Rh.split x):=by
 obtain⟨k,hk,i,e⟩:=G.joined hx;obtain⟨hi,e'⟩:=ah.mp e;have:k.2=k.2.take i++ .join x::k.2.drop (i+1):=by rw[<- e',ic,fo]
 exact G.split _ k (ar _) hk i ((G.hb k hk).2 _ _ _ this)
inductive uU (hs:List Hd)(x:Str):List (Hd×Nat×Nat)->Hd->Nat->Prop
 | start {h i} :h∈hs->h.2[i]?=some (.split x)->uU hs x [] h (i+1)
 | next {W h f k i} :uU hs x W h f->(∀j:Nat,f<=j->h.2[j]?≠some (.join x))->k∈hs->k.2[i]?=some (.join h.1)->uU hs x (W++ [(h,f,h.2.length)]) k (i+1)
structure zpC (hs:List Hd)(en:Str->List Str)(x:Str)(W:List (Hd×Nat×Nat))(h:Hd)(f:Nat):Prop where
 hh:h∈hs
 ent: ∃i:Nat,f=i+1/\pF en x h.2 i
 all: ∀p∈W,p.1∈hs/\(∃i:Nat,p.2.1=i+1/\pF en x p.1.2 i)/\p.2.2=p.1.2.length/\∀j:Nat,p.2.1<=j->p.1.2[j]?≠some (.join x)
 st: ∃(k:Hd) (i:Nat),k.2[i]?=some (.split x)/\k∈hs/\((k,i+1)=(h,f)∨∃l,(k,i+1,l)∈W)
 nx: ∀p∈W,∃(k:Hd) (i:Nat),k∈hs/\k.2[i]?=some (.join p.1.1)/\((k,i+1)=(h,f)∨∃l,(k,i+1,l)∈W)
theorem pF.held {x:Str}{h:Hd}{f:Nat}(he: ∃i:Nat,f=i+1/\pF en x h.2 i)(hj: ∀j:Nat,f<=j->h.2[j]?≠some (.join x)):x∈y9 en h.2:=by
 obtain⟨i,rfl,r,h1,h2⟩:=he;have hl:=(ah.mp h1).1;have:=oK (en:=en) (x:=x) (rs:=h.2) (n:=h.2.length);rw[du]at this;exact this.mpr ⟨i,hl,⟨r,h1,h2⟩,λj h3 _=>hj j h3⟩
theorem uU.k (G:x6 hs en rk){x:Str}{W:List (Hd×Nat×Nat)}{h:Hd}{f:Nat}(w:uU hs x W h f):zpC hs en x W h f:=by
 induction w with
 | @start h i hh hi=>exact⟨hh,⟨i,rfl,_,hi,.inl rfl⟩,λp hp=>by simp at hp,⟨h,i,hi,hh,.inl rfl⟩,λp hp=>by simp at hp⟩
 | @next W h f k i w hj hk hi ih=>
  have hx:x∈en h.1:=by rw[<- (G.hb h ih.hh).1];exact pF.held ih.ent hj
  have mv: ∀{k2:Hd} {i2:Nat},((k2,i2+1)=(h,f)∨∃l,(k2,i2+1,l)∈W)->((k2,i2+1)=(k,i+1)∨∃l,(k2,i2+1,l)∈W++ [(h,f,h.2.length)]):=λ{k2 i2} z=>by
   rcases z with z | ⟨l,z⟩
   ·cases z;exact .inr ⟨_,aj _ (ao.mpr rfl)⟩
   ·exact .inr ⟨l,ax _ z⟩
  refine⟨hk,⟨i,rfl,_,hi,.inr ⟨h.1,rfl,hx⟩⟩,λp hp=> ?_,?_,λp hp=> ?_⟩
  ·rcases aq.mp hp with hp | hp
   ·exact ih.all p hp
   ·rw[ao.mp hp];exact⟨ih.hh,ih.ent,rfl,hj⟩
  ·obtain⟨k2,i2,e1,e2,e3⟩:=ih.st
   exact⟨k2,i2,e1,e2,mv e3⟩
  ·rcases aq.mp hp with hp | hp
   ·obtain⟨k2,i2,e1,e2,e3⟩:=ih.nx p hp
    exact⟨k2,i2,e1,e2,mv e3⟩
   ·rw[ao.mp hp];exact⟨k,i,hk,hi,.inl rfl⟩
theorem uU.done (G:x6 hs en rk){x:Str}{W:List (Hd×Nat×Nat)}{h:Hd}{f l:Nat}(w:uU hs x W h f)(hf:f<=l)(hl:h.2[l]?=some (.join x))(hm: ∀j:Nat,f<=j->j < l->h.2[j]?≠some (.join x)){k:Hd}(hk:k∈hs){n:Nat}(hn:n<=k.2.length):
  x∈y9 en (k.2.take n)↔∃p∈W++ [(h,f,l)],p.1=k/\p.2.1<=n/\n<=p.2.2:=by
 have w:=w.k G;have evs: ∀(m:Nat) (k:Hd),rk k.1<=m->k∈hs->∀i,pF en x k.2 i->∃l',(k,i+1,l')∈W++ [(h,f,l)]:=by
  intro m;have up: ∀{k:Hd} {i:Nat},((k,i+1)=(h,f)∨∃l,(k,i+1,l)∈W)->∃l',(k,i+1,l')∈W++ [(h,f,l)]:=λ{k i} z=>by
   rcases z with z | ⟨l',z⟩
   ·cases z;exact⟨l,aj _ (ao.mpr rfl)⟩
   ·exact⟨l',ax _ z⟩
  induction m with
  | zero | succ m ih=>
   rintro k hr hk i ⟨r,h1,rfl | ⟨y,rfl,h2⟩⟩
   ·obtain⟨k2,i2,e1,e2,e3⟩:=w.st
    obtain⟨rfl,rfl⟩:=i9 G.sn hk e2 h1 e1 rfl rfl;exact up e3
   ·have hmm:=au.mpr ⟨i,h1⟩
    have Au:=G.jr k hk y hmm;have hy:=(G.je y).mp (fh.mpr ⟨k,hk,cy.mpr ⟨_,hmm,rfl⟩⟩);obtain⟨q,hq,rfl⟩:=cb.mp hy;have hq':=iq hq
    first
    | (exfalso;grobner)
    | (rw[<- (G.hb q hq').1,<- du (l:=q.2)]at h2
       obtain⟨i',hi',hent,hno⟩:=oK.mp h2;obtain⟨l',hin⟩:=ih q 0#0 hq' i' hent;rcases aq.mp hin with hin | hin
       · obtain⟨k2,i2,e1,e2,e3⟩:=w.nx _ hin;obtain⟨rfl,rfl⟩:=i9 G.jn hk e1 h1 e2 rfl rfl;exact up e3
       · cases ao.mp hin;exact absurd hl (hno l hf (ah.mp hl).1))
 constructor
 ·intro hx
  obtain⟨i,hi,hent,hno⟩:=oK.mp hx;obtain⟨l',hin⟩:=evs _ k (ar _) hk i hent;refine⟨_,hin,rfl,hi,?_⟩;rcases aq.mp hin with hin | hin
  ·rw[(w.all _ hin).2.2.1];exact hn
  ·cases ao.mp hin
   exact ym λz=>hno l hf z hl
 ·rintro⟨p,hp,rfl,h1,h2⟩
  rcases aq.mp hp with hp | hp
  ·obtain⟨_,⟨i,e,hent⟩,_,hj⟩:=w.all p hp
   exact oK.mpr ⟨i,0#0,hent,λj h3 _=>hj j 0#0⟩
  ·rw[ao.mp hp]at h1 h2⊢
   obtain⟨i,e,hent⟩:=w.ent;dsimp only at h1 h2⊢
   exact oK.mpr ⟨i,0#0,hent,λj h3 h4=>hm j 0#0 0#0⟩
theorem uU.on (G:x6 hs en rk){x:Str}{W:List (Hd×Nat×Nat)}{h:Hd}{f:Nat}(w:uU hs x W h f)(hj: ∀j:Nat,f<=j->h.2[j]?≠some (.join x)): ∃k∈hs,∃i:Nat,k.2[i]?=some (Rh.join h.1)/\rk h.1 < rk k.1:=by
 have w:=w.k G;have hx:x∈en h.1:=by rw[<- (G.hb h w.hh).1];exact pF.held w.ent hj
 have ht:h.1∈hs.tail.map (·.1):=by
  cases hs with
  | nil=>cases w.hh
  | cons q t=>
   rcases bo.mp w.hh with e | e
   ·rw[e,G.root q t rfl]at hx;cases hx
   ·exact cg e
 obtain⟨k,hk,i,e⟩:=G.joined ht;exact⟨k,hk,i,e,G.jr k hk _ (au.mpr ⟨i,e⟩)⟩
end
def kN (nm:Nat->Str)(E1:List Ee)(s:Str):List Str:=((E1.find? λp=>nm p.1==s).map λp=>p.2.map nm).getD []
theorem zrR {α:Type}{l:List (Nat×α)}(hn:(l.map (·.1)).Nodup){p q:Nat×α}(hp:p∈l)(hq:q∈l)(e:p.1=q.1):p=q:=by
 obtain⟨i,hi⟩:=au.mp hp;obtain⟨j,hj⟩:=au.mp hq;have hil:=(ah.mp hi).1;have:=(dg (by rw[ae];exact hil) hn).mp (show(l.map (·.1))[i]?=(l.map (·.1))[j]? by rw[br,br,hi,hj];exact congrArg some e);subst this;exact cf (hi.symm.trans hj)
theorem zuC {shl:List Sh}{names:List Str}{sp ks zk:List Nat}{X:List Re}{E1:List Ee}{rs:List Rh}{hs:List Hd}(AH:names.Nodup)(Aq: ∀x∈sp,x < names.length/\x≠0)(h8:0 < names.length)(h7:sp.length<=7)(I:LK shl 6#2 sp [] zk ks X E1 rs [])(hp:hs.Perm (X.map (qE 6#2))):
  ∃en rk,x6 ((zB names 0,rs)::hs) en rk:=by
 have hkl:=I.len;have hks: ∀x∈ks,x < names.length/\x≠0:=λx hx=>Aq x (I.sub x (ax _ hx));have hek: ∀p∈E1,p.1∈ks:=λp hp=>by rw[<- I.ek];exact cg hp
 have hn:(E1.map (·.1)).Nodup:=by rw[I.ek];exact(bj.mp I.nd).1
 have hnk:(ks++ [0]).Nodup:=bj.mpr ⟨(bj.mp I.nd).1,3#0,λa ha b hb=>by rw[ao.mp hb];exact(hks a ha).2⟩;have hin: ∀x∈ks++ [0],x < names.length:=λx hx=>by
  rcases aq.mp hx with hx | hx
  ·exact(hks x hx).1
  ·rw[ao.mp hx];exact h8
 have hndn:((ks++ [0]).map 6#2).Nodup:=by
  refine df.mpr λi j hi hj Av e=> ?_;rw[le,le]at e;rw[ae]at hi hj;have:=kY AH (hin _ (jg hi)) (hin _ (jg hj)) e;exact df.mp hnk i j hi hj Av this
 have agr:nK 6#2 E1 (kN 6#2 E1):=λp hp=>by
  unfold kN;cases hf:E1.find? (λq=>zB names q.1==zB names p.1)with
  | none=>exact absurd (so.mp hf p hp) 3#0
  | some q=>
   have h1:=ug hf;have h2:zB names q.1=zB names p.1:=by simpa using List.find?_some hf
   rw[zrR hn h1 hp (kY AH (hks _ (hek q h1)).1 (hks _ (hek p hp)).1 h2)];rfl
 have en0:kN 6#2 E1 (zB names 0)= []:=by
  unfold kN;rw[so.mpr λp hp z=>(hks _ (hek p hp)).2 (kY AH (hks _ (hek p hp)).1 h8 (by simpa using z))]
  rfl
 obtain⟨hb1,hb2⟩:=I.hb _ agr;obtain⟨js,p1,p2⟩:=I.pj;rw[yo,jc]at p1;have hnm:(hs.map (·.1)).Perm (ks.map 6#2):=by
  have:=hp.map (·.1);rw[bx,<- I.xk]at *;rw[bx];exact this
 have hjp:(((zB names 0,rs)::hs).flatMap λh=>h.2.filterMap Rh.jn).Perm (ks.map 6#2):=by
  refine List.Perm.trans ?_ (p2.trans (p1.map _));rw[fk];refine gu.trans (ib _ ?_);refine(hp.flatMap_right _).trans (qr ?_);rw[qb];rfl
 have hsp':(((zB names 0,rs)::hs).flatMap λh=>h.2.filterMap Rh.sp).Perm (tgs X++tg rs):=by
  rw[fk];refine gu.trans (ib _ ?_);refine(hp.flatMap_right _).trans (qr ?_);rw[qb];rfl
 have AG:(ks.map 6#2).Nodup:=by rw[bb]at hndn;exact(bj.mp hndn).1
 have hof: ∀h∈(zB names 0,rs)::hs,∃p∈X++ [((0:Nat),rs)],h=qE 6#2 p:=λh hh=>by
  rcases bo.mp hh with rfl | hh
  ·exact⟨(0,rs),3#0,rfl⟩
  ·obtain⟨p,hp',e⟩:=cb.mp (hp.mem_iff.mp hh)
   exact⟨p,ax _ hp',e.symm⟩
 have hids:(X++ [((0:Nat),rs)]).map (·.1)=ks++ [0]:=by rw[bb,I.xk];rfl
 refine⟨kN 6#2 E1,λn=>((ks++ [0]).map 6#2).idxOf n,⟨λh hh=> ?_,λh t e=> ?_,hjp.nodup_iff.mpr AG,λy=>(hjp.mem_iff).trans hnm.symm.mem_iff,λh hh y hy=> ?_,λh hh=> ?_,hsp'.nodup_iff.mpr I.tn,λy hy=> ?_⟩⟩
 ·rcases bo.mp hh with rfl | hh
  ·exact⟨by rw[en0];exact hb1.symm,hb2⟩
  ·obtain⟨p,hp',rfl⟩:=cb.mp (hp.mem_iff.mp hh)
   exact I.hx _ agr p hp'
 ·cases e;exact en0
 ·obtain⟨⟨k,r⟩,hp',rfl⟩:=hof h hh
  show((ks++ [0]).map 6#2).idxOf y < ((ks++ [0]).map 6#2).idxOf (zB names k);obtain⟨A,B,e⟩:=il hp';have eids:ks++ [0]=A.map (·.1)++k::B.map (·.1):=by rw[<- hids,e,bb];rfl
  have hy':y∈uZ r:=cy.mpr ⟨_,hy,rfl⟩;have hmA:y∈(A.map (·.1)).map 6#2:=by
   rcases rB e with⟨B',h1,_⟩ | ⟨A',rfl,h2⟩
   ·obtain⟨j,hj,e'⟩:=I.je A k r B' h1 y hy'
    rw[e'];exact cg hj
   ·cases A' with
    | nil=>
     cases h2;obtain⟨j,hj,e'⟩:=I.jn _ hy y rfl;rw[e',da,I.xk];exact cg hj
    | cons q A'=>cases A' <;> cases h2
  have h1:=zl_ (l:=(ks++ [0]).map 6#2) (A:=(A.map (·.1)).map 6#2) (B:=(k::B.map (·.1)).map 6#2) (by rw[eids,bb]) hmA;have h2:((A.map (·.1)).map 6#2).length<=((ks++ [0]).map 6#2).idxOf (zB names k):=by
   rw[eids,bb]at hndn⊢
   rw[uc,if_neg (λz=>(bj.mp hndn).2.2 _ z _ (by rw[av];exact aw ..) rfl)];grobner
  grobner
 ·obtain⟨p,hp',rfl⟩:=hof h hh
  have:zB names p.1∈(ks++ [0]).map 6#2:=cg (by rw[<- hids];exact cg hp');have:=np this;rw[ae,am,cr]at this;show((ks++ [0]).map 6#2).idxOf (zB names p.1)<=7;grobner
 ·obtain⟨j,hj,e⟩:=I.ti y (hsp'.mem_iff.mp hy)
  show y∈hs.map (·.1);rw[e];exact hnm.mem_iff.mpr (cg hj)
def lE (s:Sh):Sn:=(s.1,[s.2.1,s.2.2])
def zwF:zP:=λxs st Q=> ∃(ns:List Int) (hands:Int),xs= [.lst 0#13,.int 0,mI,.bl false,.int hands]/\st= []/\ns.length<=63/\1<=hands/\hands<=8/\∀(sh:List Sn) (h0:Hd) (hs:List Hd),iV sh (h0::hs)->(∃en rk,x6 (h0::hs) en rk)->(∃shl:List Sh,sh=shl.map lE/\(shl.map (·.1)).Nodup/\shl.length<=100/\(∀s∈shl,rL s)/\∀h∈h0::hs,∀r∈h.2,oF shl r)->(∀h∈h0::hs,vX h.1)->Q (yF sh (h0::hs)) []
theorem uQ {k:z8}{v:PV}{r:List 2#3} :zH ((k,v)::r) k=some v:=by unfold zH;rw[db,decide_eq_true rfl];rfl
theorem w6 {k k':z8}{v:PV}{r:List 2#3}(h:decide (k'=k)=false):zH ((k',v)::r) k=zH r k:=by unfold zH;rw[db,h]
def wT (nm:Nat->Str)(Y:List Re)(k:Nat):Option Hd:=(Y.find? λp=>p.1==k).map (qE nm)
theorem f7 {nm:Nat->Str}{k:Nat} : ∀{Y:List Re},zH (u3 nm Y) (.inl (k:Int))=(wT nm Y k).map zW
 | []=>rfl
 | p::Y=>by
  unfold u3 wT;rw[av,db];by_cases e:p.1=k
  ·subst e
   rw[uQ,beq_self_eq_true];rfl
  ·have hd:decide ((Sum.inl (p.1:Int):z8)=Sum.inl (k:Int))=false:=decide_eq_false (λz=>e (po (ph z)))
   rw[w6 hd,show(p.1==k)=false by simpa using e];exact f7
theorem gQ {α β:Type}{f g:α->Option β} : ∀{l:List α},(∀x∈l,f x=g x)->l.filterMap f=l.filterMap g
 | [],_=>rfl
 | x::l,h=>by rw[cp,cp,h x (aw ..),gQ λy hy=>h y (bf _ hy)]
theorem zmb {nm:Nat->Str} : ∀{X:List Re} {L:List Nat},(X.map (·.1)).Nodup->L.Nodup->(∀k∈X.map (·.1),k∈L)->(L.filterMap (wT nm X)).Perm (X.map (qE nm))
 | [],L,_,_,_=>by
  have:L.filterMap (wT nm [])= []:=by rw[List.filterMap_eq_nil_iff];intro a _;rfl
  rw[this];exact List.Perm.refl _
 | p::X,L,hx,hL,hs=>by
  rw[av,fg]at hx;have hp:p.1∈L:=hs p.1 (by rw[av];exact aw ..);have h1:(L.filterMap (wT nm (p::X))).Perm ((p.1::L.erase p.1).filterMap (wT nm (p::X))):=(List.perm_cons_erase hp).filterMap _;refine h1.trans ?_;have e1:wT nm (p::X) p.1=some (qE nm p):=by unfold wT;rw[db,beq_self_eq_true];rfl
  have e2:(L.erase p.1).filterMap (wT nm (p::X))=(L.erase p.1).filterMap (wT nm X):=by
   refine gQ λk hk=> ?_;have Ao:p.1≠k:=λz=>by rw[<- z]at hk;exact(List.Nodup.not_mem_erase hL) hk
   unfold wT;rw[db,show(p.1==k)=false by simpa using Ao]
  rw[cp,e1,e2,av];refine List.Perm.cons _ (zmb hx.2 (hL.erase _) λk hk=> ?_);exact(xb λ(z:k=p.1)=>hx.1 (z▸hk)).mpr (hs k (by rw[av];exact bf _ hk))
theorem zso {nm:Nat->Str}{X:List Re}{rs:List Rh}{k:Nat}(h:k≠0):wT nm (X++ [(0,rs)]) k=wT nm X k:=by
 unfold wT;rw[yi];have:([((0:Nat),rs)].find? λp=>p.1==k)=none:=by rw[db,show((0:Nat)==k)=false by simpa using h.symm];rfl
 rw[this,Option.or_none]
def vD (m:Nat):List Nat:=(List.range m).map (· +1)
theorem znP (m:Nat):(vD m).Nodup:=by
 unfold vD;refine df.mpr λi j hi hj Av=> ?_;simp only[le,yb];grobner
theorem nA {m x:Nat} :x∈vD m↔1<=x/\x<=m:=by
 unfold vD;rw[cb];constructor
 ·rintro⟨i,hi,rfl⟩;rw[rf]at hi;grobner
 ·intro h;exact⟨x - 1,by rw[rf];grobner,0#0⟩
theorem lH (m:Nat):(vD m).length=m:=by unfold vD;simp
structure vP (hs:List Hd):Prop where
 hn:(hs.map (·.1)).Nodup
 hl:hs.length<=8
 rl: ∀h∈hs,h.2.length<=30
 rk: ∃rk:Str->Nat,sN 6#11 (hs.map (·.1)) rk/\∀n∈hs.map (·.1),rk n<=7
theorem iV.lt {sh:List Sn}{hs:List Hd}(O:iV sh hs):vP hs:=⟨O.hn,O.hl,O.rl,O.rk⟩
def yP (ms:List Str):List 2#3:=ms.map λm=>(.inr m,.bl true)
def wY (ms:List Str)(x:Str):List Str:=if x∈ms then ms else ms++ [x]
def uS (ms l:List Str):Prop:=ms.Nodup/\∀x,x∈ms↔x∈l
theorem zxv {ms:List Str}{x:Str} :(Sum.inr x:z8)∈(yP ms).map (·.1)↔x∈ms:=by
 unfold yP;rw[bx,cb];constructor
 ·rintro⟨m,hm,e⟩;cases e;exact hm
 ·exact λh=>⟨x,h,rfl⟩
theorem nF {x:Str} : ∀{ms:List Str},zH (yP ms) (.inr x)=if x∈ms then some (.bl true)else none
 | []=>rfl
 | m::ms=>by
  show zH ((.inr m,.bl true)::yP ms) (.inr x)=_;by_cases e:m=x
  ·subst e;rw[uQ,if_pos (aw ..)]
  ·rw[w6 (decide_eq_false λz=>e (jp z)),nF]
   by_cases h:x∈ms
   ·rw[if_pos h,if_pos (bf _ h)]
   ·rw[if_neg h,if_neg λz=>(bo.mp z).elim (λz=>e z.symm) h]
theorem zgu {ms:List Str}{x:Str} :xY (yP ms) (.inr x) 6#8=yP (wY ms x):=by
 unfold wY;by_cases h:x∈ms
 ·rw[if_pos h]
  unfold xY;have hany:((yP ms).any λkv=>decide (kv.1=Sum.inr x))=true:=pw.mpr ⟨(Sum.inr x,PV.bl true),cb.mpr ⟨x,h,rfl⟩,decide_eq_true rfl⟩;rw[if_pos hany];unfold yP;rw[bx];refine ko λm _=> ?_;show(if(Sum.inr m:z8)=Sum.inr x then _ else _)=_
  split <;> rfl
 ·rw[if_neg h,j8 λz=>h (zxv.mp z)]
  unfold yP;rw[bb];rfl
theorem zxu {ms:List Str}{x:Str} :m9 (yP ms) (.inr x)=yP (ms.filter λy=>decide (y≠x)):=by
 unfold m9 yP;rw[yu]
 congr 1
 refine yg λm _=> ?_;show decide ((Sum.inr m:z8)≠Sum.inr x)=decide (m≠x);by_cases e:m=x
 ·rw[e];simp
 ·rw[decide_eq_true (show m≠x from e),decide_eq_true (show(Sum.inr m:z8)≠Sum.inr x from λz=>e (jp z))]
theorem zgt: ∀{ns ms:List Str},u8 (yP ms) (yP ns)=yP (ns.foldl wY ms)
 | [],ms=>rfl
 | n::ns,ms=>by
  show u8 (xY (yP ms) (.inr n) 6#8) (yP ns)=_;rw[zgu,zgt];rfl
theorem zht {ms:List Str}{x y:Str} :y∈wY ms x↔y∈ms∨y=x:=by
 unfold wY
 split
 ·next h=>exact⟨.inl,λz=>z.elim id λe=>e▸h⟩
 ·rw[aq,ao]
theorem zhu {ms:List Str}{x:Str}(h:ms.Nodup):(wY ms x).Nodup:=by
 unfold wY
 split
 ·exact h
 ·next hx=>exact bj.mpr ⟨h,3#0,λa ha b hb e=>hx (by rw[ao.mp hb]at e;exact e▸ha)⟩
theorem zhs {ms:List Str}{x:Str} :(wY ms x).length<=ms.length+1:=by unfold wY;split <;> simp
theorem bP {y:Str} : ∀{ns ms:List Str},y∈ns.foldl wY ms↔y∈ms∨y∈ns
 | [],ms=>3#0
 | n::ns,ms=>by rw[gj,bP,zht,bo,or_assoc]
theorem zhr: ∀{ns ms:List Str},ms.Nodup->(ns.foldl wY ms).Nodup
 | [],_,h=>h
 | n::ns,ms,h=>by rw[gj];exact zhr (zhu h)
theorem zhq: ∀{ns ms:List Str},(ns.foldl wY ms).length<=ms.length+ns.length
 | [],_=>ar _
 | n::ns,ms=>by rw[gj,bv];have:=zhq (ns:=ns) (ms:=wY ms n);have:=zhs (ms:=ms) (x:=n);grobner
theorem cF {ms:List Str} :(yP ms).length=ms.length:=by unfold yP;rw[ae]
section
variable {en:Str->List Str} {rs:List Rh} {ms ns:List Str} {x:Str}
theorem uS.split (h:uS ms (y9 en rs)):uS (wY ms x) (y9 en (rs++ [.split x])):=⟨zhu h.1,λy=>by
 rw[zht,oJ,h.2 y];show _↔y∈y9 en rs++ [x];rw[aq,ao]⟩
theorem uS.join (h:uS ms (y9 en rs))(hn:uS ns (en x)):uS (ns.foldl wY (ms.filter λy=>decide (y≠x))) (y9 en (rs++ [.join x])):=⟨zhr (h.1.sublist (List.filter_sublist ..)),λy=>by
 rw[bP,oJ,hn.2 y,jl,h.2 y];show _↔y∈(y9 en rs).filter _++en x;rw[aq,jl]⟩
theorem uS.pl {r:Rw}(h:uS ms (y9 en rs)):uS ms (y9 en (rs++ [.pl r])):=by rw[oJ];exact h
end
theorem zfz (r:Rw): ∃(k:Str) (more:List PV),(Rh.pl r).pv= .tup (.str k::more)/\(k==(31#1 :Str))=false/\(k==(28#1 :Str))=false:=by
 obtain⟨k,x,more,e,_⟩:=znx (.pl r);have h1:=ze8 (kind:= 31#1) (f:=Rh.sp) (.inl ⟨rfl,rfl⟩) (.pl r);have h2:=ze8 (kind:= 28#1) (f:=Rh.jn) (.inr ⟨rfl,rfl⟩) (.pl r);rw[e]at h1 h2;refine⟨k,x::more,e,?_,?_⟩
 ·cases hb:(k==(31#1 :Str))with
  | false=>rfl
  | true=>have:(if k==(31#1 :Str)then some x else none)=none:=h1;rw[hb]at this;cases this
 ·cases hb:(k==(28#1 :Str))with
  | false=>rfl
  | true=>have:(if k==(28#1 :Str)then some x else none)=none:=h2;rw[hb]at this;cases this
theorem mM: ∀{b a:List 2#3},((a++b).map (·.1)).Nodup->u8 a b=a++b
 | [],a,_=>by rw[da];rfl
 | q::b,a,hn=>by
  have e:a++q::b=(a++ [q])++b:=3#0
  rw[e]at hn;show u8 (xY a q.1 q.2) b=_;rw[j8 λz=> ?_,mM hn,e];rw[bb]at hn;have h1:=(bj.mp hn).1;rw[bb]at h1;exact(bj.mp h1).2.2 _ z _ (ao.mpr rfl) rfl
theorem iA {k k':z8}{v:PV} : ∀{kvs:List 2#3},zH (xY kvs k v) k'=if k=k' then some v else zH kvs k'
 | []=>by
  show zH [(k,v)] k'=_;by_cases e:k=k'
  ·subst e;rw[uQ,if_pos rfl]
  ·rw[w6 7#18,if_neg e]
 | q::r=>by
  obtain⟨a,b⟩:=q;have ih:=iA (k:=k) (k':=k') (v:=v) (kvs:=r);unfold xY at ih⊢
  by_cases ea:a=k
  ·subst ea
   rw[if_pos 3#0];rw[av,if_pos rfl];by_cases e:a=k'
   ·subst e;rw[uQ,if_pos rfl]
   ·rw[w6 7#18,if_neg e,w6 7#18]
    rw[if_neg e]at ih
    split at ih
    ·exact ih
    ·next h=>
     have:r.map (λkv=>if kv.1=a then(kv.1,v)else kv)=r:=by
      refine(ko (g:=id) λkv hk=> ?_).trans (List.map_id r);rw[if_neg λz=>h (pw.mpr ⟨kv,hk,decide_eq_true z⟩)];rfl
     rw[this]
  ·have ec:(((a,b)::r).any λkv=>decide (kv.1=k))=(r.any λkv=>decide (kv.1=k)):=by rw[ji,decide_eq_false ea,Bool.false_or]
   rw[ec];by_cases e:a=k'
   ·subst e
    have hk:k≠a:=λz=>ea z.symm
    split
    ·rw[av,if_neg ea,uQ,uQ]
    ·rw[io,uQ,uQ]
   ·rw[w6 7#18,<- ih]
    split
    ·rw[av,if_neg ea,w6 7#18]
    ·rw[io,w6 7#18]
theorem zve {kvs:List 2#3}{k:z8}{v:PV} :(xY kvs k v).length<=kvs.length+1:=by
 unfold xY;split <;> simp
def vL (hs:List Hd):List 2#3:=hs.map λh=>(.inr h.1,.tup 5#4)
theorem zfQ {hs:List Hd} :(vL hs).map (·.1)=(hs.map (·.1)).map Sum.inr:=by unfold vL;rw[bx,bx];rfl
theorem kQ {l:List Str}(h:l.Nodup):(l.map (Sum.inr:Str->z8)).Nodup:=by
 refine df.mpr λi j hi hj Av e=> ?_;rw[le,le]at e;rw[ae]at hi hj;exact df.mp h i j hi hj Av (jp e)
theorem eL {h:Hd} : ∀{hs:List Hd},(hs.map (·.1)).Nodup->h∈hs->zH (vL hs) (.inr h.1)=some (.tup 5#4)
 | q::hs,hn,hm=>by
  rw[av,fg]at hn;show zH ((.inr q.1,.tup (q.2.map Rh.pv))::vL hs) (.inr h.1)=_;rcases bo.mp hm with rfl | hm
  ·exact uQ
  ·rw[w6 (decide_eq_false λz=>hn.1 (by rw[jp z];exact cg hm))]
   exact eL hn.2 hm
section
variable {g:Str->List Str} {names:List Str} {rk:Str->Nat}
def rE (g:Str->List Str)(w:Str):List Str:=(g w).flatMap (yX g 8)
theorem zlw {α β:Type}{f:α->List β}{w:β} : ∀{l:List α} {A B:List β},l.flatMap f=A++w::B->∃m∈l,∃A1 B1 B2,f m=A1++w::B1/\B=B1++B2
 | [],A,B,h=>by cases A <;> cases h
 | x::l,A,B,h=>by
  rw[fk]at h;rcases rB h with⟨B',h1,h2⟩ | ⟨A',_,h2⟩
  ·exact⟨x,aw ..,A,B',_,h1,h2⟩
  ·obtain⟨m,hm,r⟩:=zlw h2
   exact⟨m,bf _ hm,r⟩
theorem fH (R:sN g names rk)(h7: ∀n∈names,rk n<=7): ∀{d:Nat} {n:Str},n∈names->rk n < d->∀{A B:List Str} {w:Str},yX g d n=A++w::B->w∈names/\∀x∈rE g w,x∈B
 | 0,n,_,h,_,_,_,_=>0#0
 | d+1,n,hn,h,A,B,w,e=>by
  have e':n::(g n).flatMap (yX g d)=A++w::B:=e;cases A with
  | nil=>
   obtain⟨e1,e2⟩:=lq (show n::(g n).flatMap (yX g d)=w::B from e');subst e1 e2;refine⟨hn,λx hx=> ?_⟩;unfold rE at hx
   rwa [pQ λm hm=>zfn R (R.sub n hn m hm) (show rk m < 8 by have:=h7 m (R.sub n hn m hm);grobner) (show rk m < d by have:=R.down n hn m hm;grobner)]at hx
  | cons q A=>
   have e2:=(lq (show n::(g n).flatMap (yX g d)=q::(A++w::B)from e')).2;obtain⟨m,hm,A1,B1,B2,e3,rfl⟩:=zlw e2;obtain⟨h1,h2⟩:=fH R h7 (R.sub n hn m hm) (show rk m < d by have:=R.down n hn m hm;grobner) e3;exact⟨h1,λx hx=>ax _ (h2 x hx)⟩
theorem zwR (R:sN g names rk)(h7: ∀n∈names,rk n<=7){w x y:Str}(hw:w∈names)(h1:y∈rE g w)(h2:x∈rE g y):x∈rE g w:=by
 obtain⟨m,hm,hy⟩:=fh.mp h1;obtain⟨A,B,e⟩:=il hy;have hmn:=R.sub w hw m hm;have:=(fH R h7 hmn (show rk m < 8 by have:=h7 m hmn;grobner) e).2 x h2;exact fh.mpr ⟨m,hm,by rw[e];exact aj _ (bf _ this)⟩
theorem znZ (R:sN g names rk)(h7: ∀n∈names,rk n<=7){w x:Str}(hw:w∈names)(h:x∈g w):x∈rE g w:=by
 have hx:=R.sub w hw x h;refine fh.mpr ⟨x,h,?_⟩;rw[fG R hx (show rk x < 8 by have:=h7 x hx;grobner)];exact aw ..
end
section
variable {hs:List Hd} {en:Str->List Str} {rk rj:Str->Nat}
theorem x6.below (G:x6 hs en rj)(hn:(hs.map (·.1)).Nodup)(R:sN 6#11 (hs.map (·.1)) rk)(h7: ∀n∈hs.map (·.1),rk n<=7){x:Str} : ∀(m:Nat) (h:Hd),rj h.1<=m->h∈hs->∀{x:Str} (n:Nat),x∈y9 en (h.2.take n)->x∈rE 6#11 h.1:=by
 intro m
 induction m with
 | zero | succ m ih=>
  intro h hr hh x n;have hhn:h.1∈hs.map (·.1):=cg hh
  induction n using Nat.strongRecOn generalizing x with
  | ind n ihn=>
   intro hx;obtain⟨i,hi,⟨r,h1,h2⟩,_⟩:=oK.mp hx;have hm:=au.mpr ⟨i,h1⟩;rcases h2 with rfl | ⟨y,rfl,h2⟩
   ·exact znZ R h7 hhn (by rw[oO hn hh];exact cy.mpr ⟨_,hm,rfl⟩)
   ·have hl:=G.jr h hh y hm
    have hy:=(G.je y).mp (fh.mpr ⟨h,hh,cy.mpr ⟨_,hm,rfl⟩⟩);obtain⟨k,hk,rfl⟩:=cb.mp hy;have hk':=iq hk;obtain⟨hil,e'⟩:=ah.mp h1;have Aq:h.2=h.2.take i++ .join k.1::h.2.drop (i+1):=by rw[<- e',ic,fo]
    have hyb:=ihn i hi ((G.hb h hh).2 _ _ _ Aq)
    first
    | (exfalso;grobner)
    | (refine zwR R h7 hhn hyb (ih k 0#0 hk' k.2.length ?_)
       rw[du,(G.hb k hk').1];exact h2)
theorem x6.reach (G:x6 hs en rj)(hn:(hs.map (·.1)).Nodup)(R:sN 6#11 (hs.map (·.1)) rk)(h7: ∀n∈hs.map (·.1),rk n<=7){h0:Hd}{t:List Hd}(e0:hs=h0::t): ∀(m:Nat) (x:Str),x∈hs.map (·.1)->7 - rk x<=m->x∈yX 6#11 8 h0.1:=by
 have h0n:h0.1∈hs.map (·.1):=by rw[e0];exact aw ..
 have hr0:h0.1∈yX 6#11 8 h0.1:=by rw[fG R h0n (show rk h0.1 < 8 by have:=h7 _ h0n;grobner)];exact aw ..
 intro m
 induction m with
 | zero | succ m ih=>
  intro x hx hm;by_cases ht:x∈hs.tail.map (·.1)
  ·obtain⟨k,hk,i,e⟩:=G.isplit ht
   have AG:k.1∈hs.map (·.1):=cg hk;have hkid:x∈kids Rh.sp hs k.1:=by rw[oO hn hk];exact cy.mpr ⟨_,au.mpr ⟨i,e⟩,rfl⟩
   have hd:=R.down _ AG x hkid;have hk7:=h7 _ AG
   first
   | (exfalso;grobner)
   | (obtain⟨A,B,e2⟩:=il (ih k.1 AG 0#0)
      have:=(fH R h7 h0n (show rk h0.1 < 8 by have:=h7 _ h0n;grobner) e2).2 x (znZ R h7 AG hkid);rw[e2];exact aj _ (bf _ this))
  ·rw[e0]at hx ht
   rcases bo.mp hx with e | e
   ·rw[e];exact hr0
   ·exact absurd e ht
end
def iF (kvs:List 2#3)(en:Str->List Str)(w:Str):Prop:= ∃ns,zH kvs (.inr w)=some (.dct (yP ns))/\uS ns (en w)/\ns.length<=1000
def gX (ms:List Str):PV->Option PV:=λx=>match x with | .tup (.str n::_)=>if n∈ms then some (.str n)else none | _=>none
theorem zlB {ms:List Str} : ∀{hs:List Hd},(hs.map zW).filterMap (gX ms)=((hs.map (·.1)).filter λn=>decide (n∈ms)).map PV.str
 | []=>rfl
 | h::hs=>by
  rw[av,cp,av,ky,zlB];have hf:gX ms (zW h)=if h.1∈ms then some (.str h.1)else none:=rfl
  rw[hf];by_cases e:h.1∈ms
  ·rw[if_pos e,decide_eq_true e];rfl
  ·rw[if_neg e,decide_eq_false e];rfl
def zw8:zP:=λxs st Q=> ∃(sh:List Sn) (hs:List Hd) (ms:List Str),xs= [yF sh hs,.dct (yP ms)]/\Q (.tup (((hs.map (·.1)).filter λn=>decide (n∈ms)).map PV.str)) st
def Lf.nm:Lf->Str | .shelf s=>s | .many s _=>s | .long s=>s
def Lf.fit:Lf->List Str | .shelf _=> ["last","sum",84#1] | .many _ _=> ["bag"] | .long _=> [73#1]
def cR (mn:List 2#3)(S:Str)(fit:List Str):Prop:= ∃kd,zH mn (.inr S)=some (.str kd)/\kd∈fit
def bF (mn:List 2#3)(l:Lf):Prop:=cR mn l.nm l.fit
def Dd.fit:Dd->List Str | .tell _=> [] | .bag _ _ _=> ["bag"] | .set _ _=> ["last",84#1] | .more _ _=> ["sum"] | .lay _ _ _=> [73#1] | .drop _ _=> [73#1]
def bM (mn:List 2#3)(x:Tm Lf):Prop:=x.ok (bF mn)/\x.rank < 7
def bK (mn:List 2#3)(r:Rw):Prop:=(∀x,r.1=some x->bM mn x)/\(∀s,r.2.nm=some s->cR mn s r.2.fit)/\∀x,r.2.tm=some x->bM mn x
def zhm (mn:List 2#3):Rh->Prop | .pl r=>bK mn r | _=>True
def Tm.kids {L:Type} :Tm L->List (Tm L) | .op _ a b=> [a,b] | .ite a b c=> [a,b,c] | _=> []
theorem Tm.kid_ok {L:Type}{lo:L->Prop}{x y:Tm L}(h:x.ok lo)(m:y∈x.kids):y.ok lo/\y.rank < x.rank:=by
 cases x with
 | num k=>cases m
 | lf l=>cases m
 | op s a b=>
  obtain⟨_,ha,hb⟩:=h;rcases bo.mp m with rfl | m
  ·exact⟨ha,by show _ < max _ _+1;grobner⟩
  ·rw[ao.mp m];exact⟨hb,by show _ < max _ _+1;grobner⟩
 | ite a b c=>
  obtain⟨ha,hb,hc⟩:=h;rcases bo.mp m with rfl | m
  ·exact⟨ha,by show _ < max _ (max _ _)+1;grobner⟩
  ·rcases bo.mp m with rfl | m
   ·exact⟨hb,by show _ < max _ (max _ _)+1;grobner⟩
   ·rw[ao.mp m];exact⟨hc,by show _ < max _ (max _ _)+1;grobner⟩
theorem zma (l:Lf): ∃(k:Str) (more:List PV),l.pv= .tup (.str k:: .str l.nm::more)/\zH kX (.inr k)=some (.tup (l.fit.map PV.str))/\(k==("op" :Str))=false/\(k==("if" :Str))=false:=by
 cases l <;> exact⟨_,_,rfl,rfl,1#0,1#0⟩
theorem zsX {x:Tm Lf}(h: ∀l,x≠ .lf l): ∃(k:Str) (more:List PV),xA x= .tup (.str k::more)/\zH kX (.inr k)=none:=by
 cases x with
 | lf l=>exact absurd rfl (h l)
 | _=>exact⟨_,_,rfl,rfl⟩
theorem zqG {d:Dd}{s:Str}(h:d.nm=some s): ∃(k:Str) (more:List PV),d.pv= .tup (.str k:: .str s::more)/\zH mdP (.inr k)=some (.tup (d.fit.map PV.str)):=by
 cases d with
 | tell x=>cases h
 | bag up a b=>cases h;cases up <;> exact⟨_,_,rfl,rfl⟩
 | set a x=>cases h;exact⟨_,_,rfl,rfl⟩
 | more a x=>cases h;exact⟨_,_,rfl,rfl⟩
 | lay a x b=>cases h;exact⟨_,_,rfl,rfl⟩
 | drop a x=>cases h;exact⟨_,_,rfl,rfl⟩
def fF:Option (Tm Lf)->PV | none=> .non | some x=>xA x
def zwI:zP:=λxs st Q=> ∃x:Tm Lf,xs= [xA x]/\Q (.tup (x.kids.map xA)) st
def zwJ:zP:=λxs st Q=> ∃d:Dd,xs= [d.pv]/\Q (fF d.tm) st
def zw_:zP:=λxs st Q=> ∃(S:Str) (fit:List Str) (mn:List 2#3),xs= [.str S,.dct mn,.tup (fit.map PV.str)]/\cR mn S fit/\Q .non st
def c0 (d:Nat):zP:=λxs st Q=> ∃(x:Tm Lf) (mn:List 2#3),xs= [xA x,.dct mn]/\x.ok (bF mn)/\x.rank < d/\Q .non st
theorem znO {K:Frag}{vs:List V}{H:Hp}{Q:VK}{E:XK}(h:zX K (c0 0) vs H Q E):False:=by
 obtain⟨_,_,_,_,_,_,⟨_,_,_,_,h1,_⟩,_⟩:=h;grobner
def znL:zP:=λxs st Q=> ∃(r:Rw) (mn:List 2#3),xs= [r.pv,.dct mn]/\bK mn r/\Q .non st
def zw9:zP:=λxs st Q=> ∃(r:Rh) (i:Nat) (kvs:List 2#3) (n:Str),xs= [r.pv,.obj i]/\st[i]?=some 2#4/\kvs.length<=1000/\((r= .split n/\zH kvs (.inr n)=some (.bl false)/\Q .non (st.set i (.dct (xY kvs (.inr n) 6#8))))∨(r= .join n/\(∃b,zH kvs (.inr n)=some b)/\Q .non st))
def zwA:zP:=λxs st Q=> ∃l:List Sn,xs= [.tup (l.map zV)]/\(l.map (·.1)).Nodup/\l.length<=1000/\Q .non st
abbrev Sk:=Str×Str×List PV×PV
def yQ (s:Sk):Sn:=(s.1,[.tup (.str s.2.1::s.2.2.1),s.2.2.2])
def t5 (l:List Sk):List 2#3:=l.map λs=>(.inr s.1,.str s.2.1)
def mnF:PV->Option PV:=λx=>match x with | .tup (n:: .tup (kd::_)::_)=>some (.tup [n,kd]) | _=>none
def qO (l:List Str):List 2#3:=l.map λn=>(.inr n,.bl false)
def flF:PV->Option PV:=λx=>match x with | .tup (n::_)=>some (.tup [n,.bl false]) | _=>none
theorem ze_ {x:Str} : ∀{l:List Str},x∈l->zH (qO l) (.inr x)=some (.bl false)
 | n::l,h=>by
  by_cases e:n=x
  ·subst e;exact zg6 rfl
  ·have:=ze_ (x:=x) (l:=l) ((bo.mp h).resolve_left λz=>e z.symm)
   rw[<- this];exact zg5 λz=>e (jp z)
theorem znd {kvs:List 2#3}{k:z8}{v w:PV}(h:zH kvs k=some w):(xY kvs k v).length=kvs.length:=by
 unfold xY;rw[zoN,h];simp
structure TK (h0:Str)(names l:List Str)(kvs:List 2#3):Prop where
 len:kvs.length<=8
 at_: ∀n∈names,zH kvs (.inr n)=some (.bl (decide (n=h0∨n∈l)))
theorem TK.put {h0 n:Str}{names l:List Str}{kvs:List 2#3}(t:TK h0 names l kvs)(hn:n∈names):TK h0 names (l++ [n]) (xY kvs (.inr n) 6#8):=by
 refine⟨by rw[znd (t.at_ n hn)];exact t.len,λm hm=> ?_⟩;rw[iA];by_cases e:n=m
 ·subst e;rw[if_pos rfl,decide_eq_true (.inr 8#18)]
 ·rw[if_neg λz=>e (jp z),t.at_ m hm]
  congr 2
  refine decide_eq_decide.mpr (or_congr_right ?_);rw[aq,ao];exact⟨.inl,λz=>z.resolve_right λz=>e z.symm⟩
abbrev sH (hs:List Hd):List Str:=hs.flatMap λh=>h.2.filterMap Rh.sp
theorem zwM {hs:List Hd}{h:Hd}{k j:Nat}{n:Str}(nd:(sH hs).Nodup)(hk:hs[k]?=some h)(hj:h.2[j]?=some (.split n)):n∉sH (hs.take k)++(h.2.take j).filterMap Rh.sp:=by
 obtain⟨hk',ek⟩:=ah.mp hk;obtain⟨hj',ej⟩:=ah.mp hj;have e1:hs=hs.take k++h::hs.drop (k+1):=by rw[<- ek,ic,fo]
 have e2:h.2=h.2.take j++ .split n::h.2.drop (j+1):=by rw[<- ej,ic,fo]
 have e3:sH hs=(sH (hs.take k)++(h.2.take j).filterMap Rh.sp)++n::((h.2.drop (j+1)).filterMap Rh.sp++sH (hs.drop (k+1))):=by
  conv=>lhs;rw[e1]
  show List.flatMap _ _=_;rw[kq,fk]
  conv=>lhs;rw[e2]
  rw[gl,cp];simp[Rh.sp,bi]
 rw[e3,bj]at nd;exact λm=>nd.2.2 n m n (aw ..) rfl
theorem zuJ (r:Rw): ∃(k:Str) (more:List PV),r.pv= .tup (.str k::more)/\True/\xD (.str k) [.str 31#1,.str 28#1]=false:=by
 obtain⟨g,d⟩:=r;cases g with
 | none=>obtain⟨k,more,e,_,h⟩:=d.form2;exact⟨k,more,e,trivial,h⟩
 | some x=>
  refine⟨"when",_,rfl,trivial,?_⟩;have e:=oM (w:= "when") (ws:= [31#1,28#1]);rw[av,av,jf]at e;rw[e];exact decide_eq_false 1#0
structure nO (zj:List Sk)(h0:Hd)(hs:List Hd):Prop where
 sn:(zj.map (·.1)).Nodup
 sl:zj.length<=100
 hn:((h0::hs).map (·.1)).Nodup
 hl:(h0::hs).length<=8
 rl: ∀h∈h0::hs,h.2.length<=30
 sp:(sH (h0::hs)).Nodup
 st: ∀y∈sH (h0::hs),y∈hs.map (·.1)
 jn: ∀h∈h0::hs,∀y,Rh.join y∈h.2->y∈(h0::hs).map (·.1)
 ft: ∀h∈h0::hs,∀r∈h.2,zhm (t5 zj) r
def znM:zP:=λxs st Q=> ∃(zj:List Sk) (h0:Hd) (hs:List Hd),xs= [yF 3#8 (h0::hs)]/\nO zj h0 hs/\Q .non st
def ctF:PV->Option PV:=λx=>match x with | .str w=>some (.tup [.str w,.bl true]) | _=>none
theorem zop (x:Tm Lf): ∃(k:Str) (more:List PV),xA x= .tup (.str k::more):=by
 cases x with
 | lf l=>obtain⟨k,more,e,_⟩:=f6 l;exact⟨k,more,e⟩
 | _=>exact⟨_,_,rfl⟩
theorem kO {m:Nat}{Q:K3}{st:z5}{x:Tm Lf}(h:Q (fF (some x)) st)(hm:st.take m=st:=by exact ck (ar _)):xB m Q (xA x) st:=by
 obtain⟨k,more,e⟩:=zop x;have h:Q (xA x) st:=h;rw[e]at h⊢
 show Q _ 2#11;rw[hm];exact h
theorem zte {w:Str}{ws:List Str}{st:z5}{Q:K3} :xQ true (.str w) (.tup 6#3) st Q=((xM (.str w)=true/\(ws.map PV.str).all xM=true)/\Q (.bl (!xD (.str w) 6#3)) st):=rfl
theorem zhv (ws:List Str):(ws.map PV.str).all xM=true:=by rw[xy];exact la.mpr λ_ _=>rfl
theorem zm0 {w:Str}{kvs:List 2#3}{st:z5}{Q:K3} :xQ true (.str w) 2#4 st Q=Q (.bl (!(zH kvs (.inr w)).isSome)) st:=rfl
structure k8 (hs:List Hd)(en:Str->List Str)(H:Option Str):Prop where
 re: ∀h0 t,hs=h0::t->∀x∈hs.map (·.1),x∈yX 6#11 8 h0.1
 hb: ∀h∈hs,H≠some h.1->(∀x,x∈y9 en h.2↔x∈en h.1)/\HV en h.2/\∀y,Rh.join y∈h.2->y∈rE 6#11 h.1
 nm: ∀h∈hs,∀x∈en h.1,x∈hs.map (·.1)
 bad: ∀h∈hs,H=some h.1->∃n y,HV en (h.2.take n)/\(∀z,Rh.join z∈h.2.take n->z∈rE 6#11 h.1)/\h.2[n]?=some (.join y)/\y∉y9 en (h.2.take n)/\vX y
 hin: ∀x,H=some x->x∈hs.map (·.1)
 root: ∀h0 t,hs=h0::t->en h0.1= []
def znI (C:ac):uF:=λxs st Q W=> ∃(rs:List Rh) (en:Str->List Str) (ev:PV) (kvs:List 2#3) (n:Nat),xs= [.tup (rs.map Rh.pv),ev]/\(ev= .dct kvs∨∃i:Nat,ev= .obj i/\st[i]?=some 2#4)/\rs.length<=30/\HV en (rs.take n)/\(∀y,Rh.join y∈rs.take n->iF kvs en y)/\
 ((rs.length<=n/\∀ms,uS ms (y9 en rs)->Q (.dct (yP ms)) st)∨∃y,rs[n]?=some (.join y)/\y∉y9 en (rs.take n)/\vX y/\W C (some (66#1,.str y)))
def zgd (C:ac):uF:=λxs st Q W=> ∃(sh:List Sn) (h0:Hd) (hs:List Hd) (en:Str->List Str) (H:Option Str),xs= [yF sh (h0::hs)]/\vP (h0::hs)/\k8 (h0::hs) en H/\(H=none->∀kvs,(∀w∈(h0::hs).map (·.1),iF kvs en w)->Q 2#4 st)/\∀x y,H=some x->W C (some (66#1,.str y))
def zgg (C:ac):uF:=λxs st Q W=> ∃(sh:List Sn) (h0:Hd) (hs:List Hd) (en:Str->List Str) (H:Option Str),xs= [yF sh (h0::hs)]/\vP (h0::hs)/\k8 (h0::hs) en H/\(H=none->Q .non st)/\∀x y,H=some x->W C (some (66#1,.str y))
def znN:zP:=λxs st Q=> ∃(sh:List Sn) (h0:Hd) (hs:List Hd) (en:Str->List Str) (H:Option Str),xs= [yF sh (h0::hs)]/\vP (h0::hs)/\k8 (h0::hs) en H/\Q .non st
def c3 (C:ac):uF:=λxs st Q W=> ∃(zj:List Sk) (h0:Hd) (hs:List Hd) (en:Str->List Str) (H:Option Str),xs= [yF 3#8 (h0::hs)]/\nO zj h0 hs/\vP (h0::hs)/\k8 (h0::hs) en H/\(H=none->Q 6#8 st)/\∀x y,H=some x->W C (some (66#1,.str y))
theorem zmf {x:Str}{l u:Option Int}(h:wX x):wX (Txt.slice x l u):=by
 unfold Txt.slice
 split
 ·exact h
 ·intro c hc
  rw[rb]at hc;obtain⟨i,_,e⟩:=cy.mp hc;exact h c (wy.mpr (Array.mem_of_getElem? e))
theorem zeU {x:Str}(h:(x.cps.toList.all λc=>decide (c < 16 ^ 8))=true):wX x:=λc hc=>of_decide_eq_true (la.mp h c hc)
theorem zmd {n:Nat}(h:n < 1000):wX ⟨#[97+n]⟩:=λc hc=>by
 have:c=97+n:=by simpa using hc
 rw[this];have:(16:Nat) ^ 8=4294967296:=2#0
 grobner
theorem zuh: ∀w∈j6,vX w:=by
 have h:(j6.all λw=>decide (w.length<=16)&&(w.cps.toList.all λc=>decide (c < 16 ^ 8)))=true:=1#0
 intro w hw;have:=kc.mp (la.mp h w hw);exact⟨of_decide_eq_true this.1,zeU this.2⟩
theorem zug {d:Int}(d0:0<=d)(d1:d < 27): ∃wd:Str,wd∈j6/\atI (j6.map PV.str) d=some (.str wd):=
 let⟨wd,h,e⟩:=nR PV.str (ns:=j6) d0 d1
 ⟨wd,h,e⟩
theorem zqR: ∀n,n < 24->∀w∈gH n,vX w:=by
 have h: ∀n < 24,((gH n).all λw=>decide (w.length<=16)&&(w.cps.toList.all λc=>decide (c < 16 ^ 8)))=true:=1#0
 intro n hn w hw;have:=kc.mp (la.mp (h n hn) w hw);exact⟨of_decide_eq_true this.1,zeU this.2⟩
theorem dX {x:Str}(h:x.length<=16)(l:wX x):Sm 162 (reprText x):=by
 have:=PySem.StrLaws.reprText_len x l;unfold Sm;grobner
theorem zsZ {names:List Str}(h: ∀w∈names,vX w){k:Nat}(hk:k < names.length):vX (zB names k):=by
 unfold zB;rw[tx,bz hk];exact h _ (jg hk)
def vN (k:Nat)(rs:List Rh):List Rh:=match rs[k]?,rs[k+1]? with | some a,some b=>rs.take k++b::a::rs.drop (k+2) | _,_=>rs
def y8 (n:Str)(k:Nat)(h:Hd):Hd:=(h.1,if h.1=n then vN k h.2 else h.2)
def JJ (rs:List Rh)(k:Nat)(a b:Str):Prop:=rs[k]?=some (.join a)/\rs[k+1]?=some (.join b)
section
variable {rs:List Rh} {k:Nat} {a b:Str} {en:Str->List Str}
theorem JJ.parts (h:JJ rs k a b): ∃A B,rs=A++ .join a:: .join b::B/\A.length=k/\rs.take k=A/\rs.drop (k+2)=B/\vN k rs=A++ .join b:: .join a::B:=by
 obtain⟨h1,h2⟩:=h;obtain⟨l1,e1⟩:=ah.mp h1;obtain⟨l2,e2⟩:=ah.mp h2;have hd:rs.drop k= .join a:: .join b::rs.drop (k+2):=by rw[uh l1,e1,uh l2,e2]
 refine⟨rs.take k,rs.drop (k+2),by rw[<- hd,fo],by rw[cz];grobner,rfl,rfl,?_⟩;unfold vN;rw[h1,h2]
theorem JJ.back (h:JJ rs k a b):JJ (vN k rs) k b a:=by
 obtain⟨A,B,e,hl,_,_,es⟩:=h.parts;subst hl;rw[es];exact⟨3#0,3#0⟩
theorem JJ.twice (h:JJ rs k a b):vN k (vN k rs)=rs:=by
 obtain⟨A,B,e,hl,_,_,es⟩:=h.parts;obtain⟨A',B',e',hl',ht,hd,es'⟩:=h.back.parts;rw[es',<- ht,<- hd,es,e];subst hl;simp
theorem JJ.perm (h:JJ rs k a b):(vN k rs).Perm rs:=by
 obtain⟨A,B,e,_,_,_,es⟩:=h.parts;rw[es,e];exact ii _ (List.Perm.swap ..)
theorem JJ.sp (h:JJ rs k a b):(vN k rs).filterMap Rh.sp=rs.filterMap Rh.sp:=by
 obtain⟨A,B,e,_,_,_,es⟩:=h.parts;rw[es,e,gl,gl];rfl
theorem zl2 {en en':Str->List Str}{x:Str} : ∀{B:List Rh} {u v:List Str},(∀x,x∈u↔x∈v)->(x∈B.foldl (tN en) u↔x∈B.foldl (tN en) v)
 | [],u,v,h=>h x
 | r::B,u,v,h=>by
  rw[gj,gj];refine zl2 (en':=en') λy=> ?_;cases r with
  | split z=>show y∈u++ [z]↔y∈v++ [z];rw[aq,aq,h y]
  | join z=>show y∈u.filter _++en z↔y∈v.filter _++en z;rw[aq,aq,jl,jl,h y]
  | pl r=>exact h y
theorem zeH {A B:List Rh} :y9 en (A++B)=B.foldl (tN en) (y9 en A):=by unfold y9;rw[yf]
theorem zod {A B:List Rh}(ab:a≠b)(na:a∉en b)(nb:b∉en a)(x:Str):x∈y9 en (A++ .join b:: .join a::B)↔x∈y9 en (A++ .join a:: .join b::B):=by
 rw[zeH,zeH,gj,gj,gj,gj];refine zl2 (en':=en) λy=> ?_;show y∈((y9 en A).filter (λz=>decide (z≠b))++en b).filter (λz=>decide (z≠a))++en a↔y∈((y9 en A).filter (λz=>decide (z≠a))++en a).filter (λz=>decide (z≠b))++en b;simp only[aq,jl,decide_eq_true_eq];constructor
 ·rintro(⟨(⟨h1,h2⟩ | h1),h3⟩ | h1)
  ·exact .inl ⟨.inl ⟨h1,h3⟩,h2⟩
  ·exact .inr h1
  ·exact .inl ⟨.inr h1,λz=>nb (z▸h1)⟩
 ·rintro(⟨(⟨h1,h2⟩ | h1),h3⟩ | h1)
  ·exact .inl ⟨.inl ⟨h1,h3⟩,h2⟩
  ·exact .inr h1
  ·exact .inl ⟨.inr h1,λz=>na (z▸h1)⟩
theorem zwS {A B:List Rh}(ab:a≠b)(na:a∉en b)(nb:b∉en a)(hb:b∈y9 en A)(h:HV en (A++ .join a:: .join b::B)):HV en (A++ .join b:: .join a::B):=by
 have ha:a∈y9 en A:=h A a (.join b::B) rfl;intro A' x B' e;rcases rB e with⟨B1,h1,_⟩ | ⟨A1,rfl,h2⟩
 ·exact h A' x (B1++ .join a:: .join b::B) (by rw[h1];simp)
 ·cases A1 with
  | nil=>cases h2;rw[da];exact hb
  | cons r A1=>
   have e1:=(lq (show Rh.join b:: .join a::B=r::(A1++ .join x::B')from h2)).1;have h3:=(lq (show Rh.join b:: .join a::B=r::(A1++ .join x::B')from h2)).2;clear h2;subst e1;cases A1 with
   | nil=>
    cases h3;rw[zeH];show a∈(y9 en A).filter _++en b;exact ax _ (jl.mpr ⟨ha,decide_eq_true ab⟩)
   | cons r A1=>
    have e1:=(lq (show Rh.join a::B=r::(A1++ .join x::B')from h3)).1;have h4:=(lq (show Rh.join a::B=r::(A1++ .join x::B')from h3)).2;clear h3;subst e1;have:=h (A++ .join a:: .join b::A1) x B' (by rw[h4];simp);exact(zod ab na nb x).mpr this
end
section
variable {hs:List Hd} {en:Str->List Str} {rk:Str->Nat}
theorem uU.rkl (G:x6 hs en rk){x:Str}{W:List (Hd×Nat×Nat)}{h:Hd}{f:Nat}(w:uU hs x W h f): ∀p∈W,rk p.1.1 < rk h.1:=by
 induction w with
 | start _ _=>intro p hp;cases hp
 | @next W h f k i w hj hk hi ih=>
  have hl:=G.jr k hk _ (au.mpr ⟨i,hi⟩);intro p hp;rcases aq.mp hp with hp | hp
  ·exact ir (ih p hp) hl
  ·rw[ao.mp hp];exact hl
theorem zxS (G:x6 hs en rk){x:Str} : ∀(m:Nat) {W:List (Hd×Nat×Nat)} {h:Hd} {f:Nat},uU hs x W h f->7 - rk h.1<=m->∃W h f,∃l:Nat,uU hs x W h f/\f<=l/\h.2[l]?=some (.join x)/\∀j:Nat,f<=j->j < l->h.2[j]?≠some (.join x):=by
 intro m
 induction m with
 | zero | succ m ih=>
  intro W h f w hm;by_cases hj: ∃j:Nat,f<=j/\h.2[j]?=some (.join x)
  ·obtain⟨j,h1,h2⟩:=hj
   induction j using Nat.strongRecOn with
   | ind j ihj=>
    by_cases h3: ∃i:Nat,i < j/\f<=i/\h.2[i]?=some (.join x)
    ·obtain⟨i,h4,h5,h6⟩:=h3
     exact ihj i h4 h5 h6
    ·exact⟨W,h,f,j,w,h1,h2,λi h4 h5 h6=>h3 ⟨i,h5,h4,h6⟩⟩
  ·have hj': ∀j:Nat,f<=j->h.2[j]?≠some (.join x):=λj h1 h2=>hj ⟨j,h1,h2⟩
   obtain⟨k,hk,i,e,hl⟩:=w.on G hj';have h7:=G.r7 k hk
   first
   | (exfalso;grobner)
   | exact ih (.next w hj' hk e) 0#0
theorem x6.once (G:x6 hs en rk){h:Hd}(hh:h∈hs){x y:Str}{l i:Nat}(hl:h.2[l]?=some (.join x))(hi:h.2[i]?=some (.join y))(hx:x∈en y):i < l/\∀n,n<=i->x∉y9 en (h.2.take n):=by
 have jt: ∀{z:Str} {j:Nat},h.2[j]?=some (.join z)->z∈hs.tail.map (·.1):=λ{z j} e=>(G.je z).mp (fh.mpr ⟨h,hh,cy.mpr ⟨_,au.mpr ⟨j,e⟩,rfl⟩⟩);obtain⟨k0,hk0,i0,e0⟩:=G.isplit (jt hl);obtain⟨W,h',f,l',w,hf,hl',hm⟩:=zxS G _ (uU.start hk0 e0) (ar _);have wk:=w.k G;obtain⟨rfl,rfl⟩:=i9 G.jn wk.hh hh hl' hl rfl rfl;have wr:=w.rkl G;obtain⟨q,hq,rfl⟩:=cb.mp (jt hi);have hq':=iq hq;have Au:=G.jr h' hh _ (au.mpr ⟨i,hi⟩);rw[<- (G.hb q hq').1,<- du (l:=q.2)]at hx;obtain⟨p,hp,hpq,_,_⟩:=(w.done G hf hl' hm hq' (ar _)).mp hx;have hpW:p∈W:=(aq.mp hp).resolve_right λz=>by
  rw[ao.mp z]at hpq;have:h'=q:=hpq;subst this;grobner
 obtain⟨k2,i2,e1,e2,e3⟩:=wk.nx p hpW;rw[hpq]at e2;obtain⟨rfl,rfl⟩:=i9 G.jn e1 hh e2 hi rfl rfl;have hfi:i2+1=f:=by
  rcases e3 with e3 | ⟨l2,e3⟩
  ·exact(Prod.mk.inj e3).2
  ·have:=wr _ e3;dsimp only at this;grobner
 refine⟨0#0,λn hn hx=> ?_⟩;have hnl:n<=k2.2.length:=by have:=(ah.mp hl').1;grobner
 obtain⟨p,hp,hpq,h1,_⟩:=(w.done G hf hl' hm hh hnl).mp hx;rcases aq.mp hp with hp | hp
 ·have:=wr _ hp;rw[hpq]at this;grobner
 ·rw[ao.mp hp]at h1;dsimp only at h1;grobner
end
section
variable {hs:List Hd} {en:Str->List Str} {rk rj:Str->Nat} {g:Hd->Hd}
theorem zsa (g1: ∀h,(g h).1=h.1)(gs: ∀h∈hs,(g h).2.filterMap Rh.sp=h.2.filterMap Rh.sp):kids Rh.sp (hs.map g)=kids Rh.sp hs:=by
 funext n
 unfold kids;rw[List.find?_map];have:((λh:Hd=>h.1==n) ∘ g)=λh=>h.1==n:=funext λh=>by show((g h).1==n)=_;rw[g1 h]
 rw[this];cases e:hs.find? (λh=>h.1==n)with
 | none=>rfl
 | some h=>exact gs h (ug e)
theorem zml (g1: ∀h,(g h).1=h.1):(hs.map g).map (·.1)=hs.map (·.1):=by rw[bx];exact ko λh _=>g1 h
structure Lk (zj:List Sk)(h0:Hd)(hs:List Hd)(en:Str->List Str)(H:Option Str):Prop where
 l:nO zj h0 hs
 o:vP (h0::hs)
 x:k8 (h0::hs) en H
 tv: ∀s∈zj,yW (zV (yQ s))=true
theorem x6.joinB (G:x6 hs en rj)(O:vP hs){h:Hd}(hh:h∈hs){y:Str}(hy:Rh.join y∈h.2):y∈rE 6#11 h.1:=by
 obtain⟨rk,R,h7⟩:=O.rk;obtain⟨i,hi⟩:=au.mp hy;obtain⟨hil,e'⟩:=ah.mp hi;have An:h.2=h.2.take i++ .join y::h.2.drop (i+1):=by rw[<- e',ic,fo]
 exact G.below O.hn R h7 (x:=y) _ h (ar _) hh i ((G.hb h hh).2 _ _ _ An)
theorem x6.names (G:x6 hs en rj){h:Hd}(hh:h∈hs){x:Str}(hx:x∈en h.1):x∈hs.map (·.1):=by
 have:=G.tail hh (n:=h.2.length) (x:=x) (by rw[du,(G.hb h hh).1];exact hx);obtain⟨k,hk,e⟩:=cb.mp this;exact cb.mpr ⟨k,iq hk,e⟩
theorem zsm {zj:List Sk}{h0:Hd}{hs:List Hd}(L:nO zj h0 hs)(O:vP (h0::hs))(G:x6 (h0::hs) en rj)(tv: ∀s∈zj,yW (zV (yQ s))=true):Lk zj h0 hs en none:=by
 obtain⟨rk,R,h7⟩:=O.rk;refine⟨L,O,⟨λh t e x hx=> ?_,λh hh _=>⟨λx=>by rw[(G.hb h hh).1],(G.hb h hh).2,λy hy=>G.joinB O hh hy⟩,λh hh x hx=>G.names hh hx,(λh hh z=>by cases z),(λx z=>by cases z),G.root⟩,tv⟩;exact G.reach O.hn R h7 e _ x hx (ar _)
theorem lJ {n:Str}{k:Nat}{h:Hd}(e:h.1≠n):y8 n k h=h:=by unfold y8;rw[if_neg e]
theorem zsn {zj:List Sk}{h0:Hd}{hs:List Hd}(L:nO zj h0 hs)(O:vP (h0::hs))(G:x6 (h0::hs) en rj)(tv: ∀s∈zj,yW (zV (yQ s))=true)(hw: ∀h∈h0::hs,vX h.1){h:Hd}(hh:h∈h0::hs){k:Nat}{a b:Str}(J:JJ h.2 k a b):
  Lk zj (y8 h.1 k h0) (hs.map 7#5) en (if b∈y9 en (h.2.take k)then none else some h.1):=by
 obtain⟨rk,R,h7⟩:=O.rk;obtain⟨g,eg⟩: ∃g,y8 h.1 k=g:=⟨_,rfl⟩;have g1: ∀q,(g q).1=q.1:=λq=>by rw[<- eg];rfl
 have gq: ∀q∈h0::hs,q=h∨g q=q:=λq hq=>by
  by_cases e:q.1=h.1
  ·refine .inl ?_
   have p:=df.mp O.hn;obtain⟨i,hi⟩:=au.mp hq;obtain⟨j,hj⟩:=au.mp hh;have:i=j:=(dg (by rw[ae];exact(ah.mp hi).1) O.hn).mp (by rw[br,br,hi,hj];show some q.1=some h.1;rw[e]);subst this;exact cf (hi.symm.trans hj)
  ·exact .inr (by rw[<- eg];exact lJ e)
 have gh:g h=(h.1,vN k h.2):=by rw[<- eg];unfold y8;rw[if_pos rfl]
 have pm: ∀q∈h0::hs,(g q).2.Perm q.2:=λq hq=>by
  rcases gq q hq with rfl | e
  ·rw[gh];exact J.perm
  ·rw[e]
 have gs: ∀q∈h0::hs,(g q).2.filterMap Rh.sp=q.2.filterMap Rh.sp:=λq hq=>by
  rcases gq q hq with rfl | e
  ·rw[gh];exact J.sp
  ·rw[e]
 have em:g h0::hs.map g=(h0::hs).map g:=rfl;have nm:(g h0::hs.map g).map (·.1)=(h0::hs).map (·.1):=by rw[em];exact zml g1
 have kd:kids Rh.sp (g h0::hs.map g)=kids Rh.sp (h0::hs):=by rw[em];exact zsa g1 gs
 have back: ∀q'∈g h0::hs.map g,∃q∈h0::hs,q'=g q:=λq' m=>by
  rw[em]at m;obtain⟨q,hq,e⟩:=cb.mp m;exact⟨q,hq,e.symm⟩
 have sl:sH (g h0::hs.map g)=sH (h0::hs):=by
  rw[em];show((h0::hs).map g).flatMap _=_;rw[qb];exact pQ gs
 have tl:(hs.map g).map (·.1)=hs.map (·.1):=zml g1;obtain⟨A,B,e1,hlA,htA,_,e2⟩:=J.parts;have hv:=(G.hb h hh).2;have ab:a≠b:=λz=>by
  have:=(i9 G.jn hh hh J.1 J.2 rfl (by rw[z];rfl)).2;grobner
 have na:a∉en b:=λz=>by have:=(G.once hh J.1 J.2 z).1;grobner
 rw[eg];refine⟨⟨L.sn,L.sl,by rw[nm];exact L.hn,by rw[em,ae];exact L.hl,λq' m=> ?_,by rw[sl];exact L.sp,λy hy=>by rw[tl];exact L.st y (sl▸hy),λq' m y hy=> ?_,λq' m r hr=> ?_⟩,⟨by rw[nm];exact O.hn,by rw[em,ae];exact O.hl,λq' m=> ?_,rk,by rw[kd,nm];exact R,by rw[nm];exact h7⟩,⟨λq t e x hx=> ?_,λq' m hB=> ?_,λq' m x hx=> ?_,λq' m hB=> ?_,λx hB=> ?_,λq t e=> ?_⟩,tv⟩
 ·obtain⟨q,hq,rfl⟩:=back q' m
  rw[(pm q hq).length_eq];exact L.rl q hq
 ·obtain⟨q,hq,rfl⟩:=back q' m
  rw[nm];exact L.jn q hq y ((pm q hq).mem_iff.mp hy)
 ·obtain⟨q,hq,rfl⟩:=back q' m
  exact L.ft q hq r ((pm q hq).mem_iff.mp hr)
 ·obtain⟨q,hq,rfl⟩:=back q' m
  rw[(pm q hq).length_eq];exact O.rl q hq
 ·cases e
  rw[kd,g1 h0];exact G.reach O.hn R h7 rfl _ x (nm▸hx) (ar _)
 ·obtain⟨q,hq,rfl⟩:=back q' m
  rw[g1 q]at hB⊢
  have jb: ∀y,Rh.join y∈(g q).2->y∈rE (kids Rh.sp (g h0::hs.map g)) q.1:=λy hy=>by rw[kd];exact G.joinB O hq ((pm q hq).mem_iff.mp hy)
  rcases gq q hq with rfl | e
  ·by_cases hb:b∈y9 en (q.2.take k)
   ·have nb:b∉en a:=λz=>(G.once hh J.2 J.1 z).2 k (ar _) hb
    rw[htA]at hb;rw[gh]at jb⊢
    dsimp only at jb⊢
    rw[e2]at jb⊢
    refine⟨λx=> ?_,zwS ab na nb hb (e1▸hv),jb⟩;rw[zod ab na nb x,<- e1,(G.hb q hq).1]
   ·rw[if_neg hb]at hB;exact absurd rfl hB
  ·rw[e]at jb⊢
   exact⟨λx=>by rw[(G.hb q hq).1],(G.hb q hq).2,jb⟩
 ·obtain⟨q,hq,rfl⟩:=back q' m
  rw[g1 q]at hx;rw[nm];exact G.names hq hx
 ·obtain⟨q,hq,rfl⟩:=back q' m
  rw[g1 q]at hB⊢
  split at hB
  ·cases hB
  ·next hb=>
   have:q=h:=by
    rcases gq q hq with e | e
    ·exact e
    ·have e3:h.1=q.1:=cf hB
     have p:=O.hn;obtain⟨i,hi⟩:=au.mp hq;obtain⟨j,hj⟩:=au.mp hh;have:i=j:=(dg (by rw[ae];exact(ah.mp hi).1) p).mp (by rw[br,br,hi,hj];show some q.1=some h.1;rw[e3]);subst this;exact cf (hi.symm.trans hj)
   subst this;have ek:(vN k q.2).take k=q.2.take k:=by rw[e2,htA];subst hlA;simp
   have ej:(vN k q.2)[k]?=some (.join b):=J.back.1;refine⟨k,b,?_,λz hz=> ?_,by rw[gh];exact ej,by rw[gh];dsimp only;rw[ek];exact hb,?_⟩
   ·rw[gh];dsimp only;rw[ek,htA]
    intro A' x B' e;exact hv A' x (B'++ .join a:: .join b::B) (by rw[e1,e];simp)
   ·rw[gh]at hz;dsimp only at hz;rw[ek]at hz
    rw[kd];exact G.joinB O hq (kb hz)
   ·have:=L.jn q hq b (au.mpr ⟨_,J.2⟩)
    obtain⟨r,hr,e⟩:=cb.mp this;exact e▸hw r hr
 ·split at hB
  ·cases hB
  ·cases hB;rw[nm];exact cg hh
 ·cases e;rw[g1 h0];exact G.root h0 hs rfl
end
theorem zff {n kd:Str} : ∀{l:List Sk},(l.map (·.1)).Nodup->(n,kd)∈l.map (λs=>(s.1,s.2.1))->zH (t5 l) (.inr n)=some (.str kd)
 | s::l,hn,hm=>by
  rw[av,fg]at hn;rw[av,bo]at hm;rcases hm with e | hm
  ·cases e;exact zg6 rfl
  ·have Ao:s.1≠n:=λz=>hn.1 (by
    obtain⟨t,ht,e⟩:=cb.mp hm;cases e;rw[z];exact cg ht)
   rw[<- zff hn.2 hm];exact zg5 λz=>Ao (jp z)
theorem i8 {α:Type}{f:α->PV}(h: ∀x,yW (f x)=true): ∀l:List α,tupVs (l.map f)=true
 | []=>rfl
 | x::l=>by rw[av];unfold tupVs;rw[h x,i8 h l];rfl
theorem nG {L:Type}{lp:L->PV}(h: ∀l,yW (lp l)=true): ∀t:Tm L,yW (t.pv lp)=true
 | .num k=>rfl
 | .lf l=>h l
 | .op s a b=>by
  show tupVs [.str "op",.str s,a.pv lp,b.pv lp]=true;simp[tupVs,yW,nG h a,nG h b]
 | .ite a b c=>by
  show tupVs [.str "if",a.pv lp,b.pv lp,c.pv lp]=true;simp[tupVs,yW,nG h a,nG h b,nG h c]
theorem zx0 (h:Hv):yW h.pv=true:=by
 cases h with
 | int v=>rfl
 | bag l=>show tupVs (l.map _)=true;exact i8 (λq=>rfl) l
 | row ws=>show tupVs (ws.map _)=true;exact i8 (λq=>rfl) ws
theorem zx1 {kd:Str}{r:List PV}(h:iR kd r):tupVs r=true:=by
 rcases h with⟨_,rfl⟩ | ⟨_,n,t,rfl,_⟩
 ·rfl
 ·have:=nG (lp:=tI.pv) (λl=>by cases l <;> rfl) t
  simp[tupVs,yW,this]
theorem znC: ∀{shl:List Sh},(∀s∈shl,rL s)->∃zj:List Sk,shl.map lE=zj.map yQ/\zj.map (·.1)=shl.map (·.1)/\(∀s∈zj,yW (zV (yQ s))=true)/\
  ∀s∈shl,∀kd r,s.2.1= .tup (.str kd::r)->(s.1,kd)∈zj.map (λk=>(k.1,k.2.1))
 | [],_=>⟨[],rfl,rfl,(λs h=>by cases h),λs h=>by cases h⟩
 | (n,m,b)::shl,h=>by
  obtain⟨zj,h1,h2,h3,h4⟩:=znC (shl:=shl) λs hs=>h s (bf _ hs);obtain⟨kd,r,hv,e1,e2,e3,_⟩:=h _ (aw ..);dsimp only at e1 e3;subst e1 e3;refine⟨(n,kd,r,hv.pv)::zj,by rw[av,av,h1];rfl,by rw[av,av,h2],λs hs=> ?_,λs hs kd' r' e=> ?_⟩
  ·rcases bo.mp hs with rfl | hs
   ·show tupVs [.str n,.tup (.str kd::r),hv.pv]=true
    simp[tupVs,yW,zx1 e2,zx0 hv]
   ·exact h3 s hs
  ·rw[av]
   rcases bo.mp hs with rfl | hs
   ·cases e;exact aw ..
   ·exact bf _ (h4 s hs kd' r' e)
section
variable {shl:List Sh} {zj:List Sk}
theorem zlR {s:Sh}(h:rL s){kd:Str}{r:List PV}(e:s.2.1= .tup (.str kd::r)):kd= "last" ∨kd= "sum" ∨kd= "bag" ∨kd= 73#1 ∨kd= 84#1 :=by
 obtain⟨kd',r',hv,e1,e2,_⟩:=h;rw[e]at e1;cases e1;rcases e2 with⟨h | h | h | h,_⟩ | ⟨h,_⟩
 ·exact .inl h
 ·exact .inr (.inl h)
 ·exact .inr (.inr (.inl h))
 ·exact .inr (.inr (.inr (.inl h)))
 ·exact .inr (.inr (.inr (.inr h)))
theorem zsg (hsh: ∀s∈shl,rL s)(hn:(zj.map (·.1)).Nodup)(hk: ∀s∈shl,∀kd r,s.2.1= .tup (.str kd::r)->(s.1,kd)∈zj.map (λk=>(k.1,k.2.1))){l:Lf}(h:nM shl l):bF (t5 zj) l:=by
 obtain⟨s,hs,kd,⟨r,er⟩,h⟩:=h;have hv:=zff hn (hk s hs kd r er);rcases h with⟨rfl,t,rfl⟩ | ⟨rfl,rfl⟩ | ⟨n1,n2,rfl⟩
 ·exact⟨_,hv,aw ..⟩
 ·exact⟨_,hv,aw ..⟩
 ·refine⟨_,hv,?_⟩
  show kd∈(["last","sum",84#1]:List Str);rcases zlR (hsh s hs) er with rfl | rfl | rfl | rfl | rfl
  ·exact aw ..
  ·exact bf _ (aw ..)
  ·exact absurd rfl n1
  ·exact absurd rfl n2
  ·exact bf _ (bf _ (aw ..))
theorem zvV (hsh: ∀s∈shl,rL s)(hn:(zj.map (·.1)).Nodup)(hk: ∀s∈shl,∀kd r,s.2.1= .tup (.str kd::r)->(s.1,kd)∈zj.map (λk=>(k.1,k.2.1))){r:Rh}(h:oF shl r):zhm (t5 zj) r:=by
 cases r with
 | split n=>trivial
 | join n=>trivial
 | pl r=>
  obtain⟨h1,h2,h3⟩:=h;have tm: ∀{x:Tm Lf},iY shl x->bM (t5 zj) x:=λ{x} t=>⟨Tm.ok_mono (λl hl=>zsg hsh hn hk hl) t.1,t.2⟩;refine⟨λx e=>tm (h1 x e),λs e=> ?_,λx e=>tm (h2 x e)⟩;obtain⟨sx,hs,rfl,kd,r',er,hk'⟩:=h3 s e;refine⟨kd,zff hn (hk sx hs kd r' er),?_⟩;have five:=zlR (hsh sx hs) er;obtain⟨g,d⟩:=r;cases d with
  | tell x=>exact hk'.elim
  | bag up a b=>rw[show kd= "bag" from hk'];exact aw ..
  | more a x=>rw[show kd= "sum" from hk'];exact aw ..
  | lay a x b=>rw[show kd= 73#1 from hk'];exact aw ..
  | drop a x=>rw[show kd= 73#1 from hk'];exact aw ..
  | set a x=>
   obtain⟨k1,k2,k3⟩:=hk';show kd∈(["last",84#1]:List Str);rcases five with rfl | rfl | rfl | rfl | rfl
   ·exact aw ..
   ·exact absurd rfl k3
   ·exact absurd rfl k1
   ·exact absurd rfl k2
   ·exact bf _ (aw ..)
end
def bB (sh:List Sn)(h0:Hd)(hs:List Hd):Prop:= ∃(zj:List Sk) (en:Str->List Str) (rj:Str->Nat),sh=zj.map yQ/\nO zj h0 hs/\vP (h0::hs)/\x6 (h0::hs) en rj/\∀s∈zj,yW (zV (yQ s))=true
theorem zrz {shl:List Sh}{h0:Hd}{hs:List Hd}{en:Str->List Str}{rj:Str->Nat}(hsh: ∀s∈shl,rL s)(hn:(shl.map (·.1)).Nodup)(hl:shl.length<=100)(O:vP (h0::hs))(G:x6 (h0::hs) en rj)(hr: ∀h∈h0::hs,∀r∈h.2,oF shl r):bB (shl.map lE) h0 hs:=by
 obtain⟨zj,h1,h2,h3,h4⟩:=znC hsh;have hn':(zj.map (·.1)).Nodup:=by rw[h2];exact hn
 refine⟨zj,en,rj,h1,⟨hn',?_,O.hn,O.hl,O.rl,G.sn,λy hy=>G.st y hy,λh hh y hy=> ?_,λh hh r hr'=>zvV hsh hn' h4 (hr h hh r hr')⟩,O,G,h3⟩
 ·have:=congrArg List.length h2
  rw[ae,ae]at this;grobner
 ·have:=(G.je y).mp (fh.mpr ⟨h,hh,cy.mpr ⟨_,hy,rfl⟩⟩)
  obtain⟨k,hk,rfl⟩:=cb.mp this;exact cg (iq hk)
def dY (D:ac):uF:=λxs st Q W=> ∃(zj:List Sk) (h0:Hd) (hs:List Hd) (h:Hd) (kk:Int),xs= [yF 3#8 (h0::hs),.str h.1,.int kk]/\h∈h0::hs/\vP (h0::hs)/\
 (((∀(k:Nat) (a b:Str),kk=k->¬ JJ h.2 k a b)/\W D none)∨∃(k:Nat) (a b:Str) (en:Str->List Str) (H:Option Str),kk=k/\JJ h.2 k a b/\Lk zj (y8 h.1 k h0) (hs.map 7#5) en H/\(H=none->Q (yF 3#8 9#15) st)/\(∀x,H=some x->W D none))
def zwH:zP:=λxs st Q=> ∃(sh:List Sn) (hs:List Hd) (h:Hd) (k:Nat) (a b:Str),xs= [yF sh hs,.str h.1,.int k]/\h∈hs/\vP hs/\JJ h.2 k a b/\Q (yF sh (hs.map 7#5)) st
def jX (d:Nat):zP:=λxs st Q=> ∃(sh:List Sn) (hs:List Hd) (en:Str->List Str) (rj:Str->Nat) (h:Hd) (n:Nat),xs= [yF sh hs,.str h.1,.int n]/\vP hs/\x6 hs en rj/\h∈hs/\rj h.1 < d/\Q (.lst ((y9 en (h.2.take n)).map PV.str)) st
theorem znK {K:Frag}{vs:List V}{H:Hp}{Q:VK}{E:XK}(h:zX K (jX 0) vs H Q E):False:=by
 obtain⟨_,_,_,_,_,_,⟨_,_,_,_,_,_,_,_,_,_,h1,_⟩,_⟩:=h;grobner
def tH (en:Str->List Str)(h:Hd)(kk:Int)(k:Nat)(a b:Str):Prop:=kk=k/\JJ h.2 k a b/\b∈y9 en (h.2.take k)
def znH:zP:=λxs st Q=> ∃(sh:List Sn) (hs:List Hd) (en:Str->List Str) (rj:Str->Nat) (h:Hd) (kk:Int),xs= [yF sh hs,.str h.1,.int kk]/\vP hs/\x6 hs en rj/\h∈hs/\((∃k a b,tH en h kk k a b/\Q (yF sh (hs.map 7#5)) st)∨(3#17/\Q .non st))
def znR:zP:=λxs st Q=> ∃(zj:List Sk) (h0:Hd) (hs:List Hd) (h:Hd) (kk:Int),xs= [yF 3#8 (h0::hs),.str h.1,.int kk]/\h∈h0::hs/\vP (h0::hs)/\(∀s∈zj,yW (zV (yQ s))=true)/\
 (((∀(k:Nat) (a b:Str),kk=k->¬ JJ h.2 k a b)/\Q (.tup [.bl true,.non]) st)∨∃(k:Nat) (a b:Str) (en:Str->List Str) (H:Option Str),kk=k/\JJ h.2 k a b/\Lk zj (y8 h.1 k h0) (hs.map 7#5) en H/\(H=none->Q (.tup [.non,yF 3#8 9#15]) st)/\(∀x,H=some x->Q (.tup [.bl true,.non]) st))
def jY:zP:=λxs st Q=> ∃ns:List Int,xs= [.lst 0#13]/\st= []/\ns.length<=63/\∀s,Q 6#8 s
def Rh.kd:Rh->Str | .split _=> 31#1 | .join _=> 28#1 | .pl r=>match r.pv with | .tup (.str k::_)=>k | _=>Str.empty
theorem mG (r:Rh): ∃more,r.pv= .tup (.str r.kd::more)/\((∃y,r= .join y)↔r.kd= 28#1):=by
 cases r with
 | split n=>exact⟨_,rfl,⟨λ⟨y,z⟩=>(by cases z),λz=>absurd (show(31#1 :Str)= 28#1 from z) 1#0⟩⟩
 | join n=>exact⟨_,rfl,⟨λ_=>rfl,λ_=>⟨n,rfl⟩⟩⟩
 | pl r=>
  obtain⟨k,more,e,_,h2⟩:=zfz r;have e':r.pv= .tup (.str k::more):=e;have ek:(Rh.pl r).kd=k:=by show(match r.pv with | .tup (.str k::_)=>k | _=>Str.empty)=k;rw[e']
  rw[ek];exact⟨more,e,⟨λ⟨y,z⟩=>(by cases z),λz=>by rw[z]at h2;exact absurd h2 1#0⟩⟩
theorem zeD {α:Type}{f:PV->Option PV}{g h:α->PV} : ∀{l:List α},(∀q∈l,f (g q)=some (h q))->(l.map g).filterMap f=l.map h
 | [],_=>rfl
 | q::l,e=>by rw[av,cp,e q (aw ..),av,zeD λq hq=>e q (bf _ hq)]
def zl4:PV->Option PV:=λx=>match x with | .tup (k::_)=>some k | _=>none
theorem zr1 (l:List Rh):(l.map Rh.pv).filterMap zl4=l.map λr=> .str r.kd:=by
 refine zeD λr _=> ?_;obtain⟨more,e,_⟩:=mG r;rw[e];rfl
theorem zx7 {rs:List Rh}{k:Nat} :yB (.lst (((rs.drop k).take 2).map λr=>PV.str r.kd)) (.lst [.str 28#1,.str 28#1])=true↔∃a b,JJ rs k a b:=by
 have h0:rs[k]?=(rs.drop k)[0]?:=by rw[sk];rfl
 have h1:rs[k+1]?=(rs.drop k)[1]?:=by rw[sk]
 unfold JJ;rw[h0,h1];generalize rs.drop k=l
 match l with
 | []=>simp[u6]
 | [r]=>simp[u6]
 | r::r2::l=>
  obtain⟨_,_,i1⟩:=mG r;obtain⟨_,_,i2⟩:=mG r2;have:(yB (.lst (((r::r2::l).take 2).map λr=>PV.str r.kd)) (.lst [.str 28#1,.str 28#1])=true)↔r.kd= 28#1 /\r2.kd= 28#1 :=by
   simp[u6]
  rw[this,<- i1,<- i2];simp
def lO (n:Str)(T:PV):PV->Option PV:=λx=>match x with | .tup [.str m,rs]=>some (.tup [.str m,if m=n then T else rs]) | _=>none
theorem zxw {h:Hd}{k:Nat}{hs:List Hd}(hn:(hs.map (·.1)).Nodup)(hh:h∈hs):(hs.map zW).filterMap (lO h.1 (.tup ((vN k h.2).map Rh.pv)))=(hs.map 7#5).map zW:=by
 rw[bx];refine zeD λq hq=> ?_;show lO h.1 _ (.tup [.str q.1,.tup (q.2.map Rh.pv)])=some (zW (y8 h.1 k q));unfold lO y8 zW zV wP;dsimp only;by_cases e:q.1=h.1
 ·have:q=h:=by
   obtain⟨i,hi⟩:=au.mp hq;obtain⟨j,hj⟩:=au.mp hh;have:i=j:=(dg (by rw[ae];exact(ah.mp hi).1) hn).mp (by rw[br,br,hi,hj];show some q.1=some h.1;rw[e]);subst this;exact cf (hi.symm.trans hj)
  subst this;rw[if_pos rfl,if_pos rfl]
 ·rw[if_neg e,if_neg e]
theorem zx2 (r:Rh):yW r.pv=true:=by
 have tm: ∀x:Tm Lf,yW (xA x)=true:=nG (lp:=Lf.pv) λl=>by cases l <;> rfl
 have dd: ∀d:Dd,yW d.pv=true:=λd=>by
  cases d with
  | bag up a b=>cases up <;> rfl
  | tell x=>have:=tm x;simp[Dd.pv,yW,tupVs,this]
  | set a x=>have:=tm x;simp[Dd.pv,yW,tupVs,this]
  | more a x=>have:=tm x;simp[Dd.pv,yW,tupVs,this]
  | lay a x b=>have:=tm x;simp[Dd.pv,yW,tupVs,this]
  | drop a x=>have:=tm x;simp[Dd.pv,yW,tupVs,this]
 cases r with
 | split n=>rfl
 | join n=>rfl
 | pl r=>
  obtain⟨g,d⟩:=r;cases g with
  | none=>exact dd d
  | some x=>
   have h1:=tm x;have h2:=dd d;show tupVs 1#18=true;simp[tupVs,yW,h1,h2]
theorem zos {zj:List Sk}{hs:List Hd}(h: ∀s∈zj,yW (zV (yQ s))=true):yW (yF 3#8 hs)=true:=by
 have h1: ∀l:List Sk,(∀s∈l,yW (zV (yQ s))=true)->tupVs ((l.map yQ).map zV)=true:=by
  intro l
  induction l with
  | nil=>intro _;rfl
  | cons a l ih=>
   intro hh;rw[av,av];unfold tupVs;rw[hh a (aw ..),ih λs hs=>hh s (bf _ hs)];rfl
 have h2:tupVs (hs.map zW)=true:=i8 (λh=>by
  show tupVs [.str h.1,.tup 5#4]=true;simp[tupVs,yW,i8 zx2]) hs
 show tupVs [.tup ((zj.map yQ).map zV),.tup (hs.map zW)]=true;simp only[tupVs,yW,h1 zj h,h2,sy]
theorem zeI {en:Str->List Str}{B:Nat} : ∀{rs:List Rh} {u:List Str},(∀y,Rh.join y∈rs->(en y).length<=B)->(rs.foldl (tN en) u).length<=u.length+(rs.filterMap Rh.sp).length+(rs.filterMap Rh.jn).length * B
 | [],u,_=>3#0
 | r::rs,u,h=>by
  rw[gj];have ih:=zeI (B:=B) (rs:=rs) (u:=tN en u r) λy hy=>h y (bf _ hy);cases r with
  | split z=>
   have e:(tN en u (.split z)).length=u.length+1:=by show(u++ [z]).length=_;simp
   rw[cp,cp];show _<=u.length+((rs.filterMap Rh.sp).length+1)+(rs.filterMap Rh.jn).length * B;grobner
  | join z=>
   have hz:=h z (aw ..);have e:(tN en u (.join z)).length<=u.length+B:=by
    show(u.filter _++en z).length<=_;rw[am];have:=qd (λy=>decide (y≠z)) u;grobner
   rw[cp,cp];show _<=u.length+(rs.filterMap Rh.sp).length+((rs.filterMap Rh.jn).length+1) * B;rw[Nat.add_mul];grobner
  | pl r=>exact ih
theorem x6.len {hs:List Hd}{en:Str->List Str}{rj:Str->Nat}(G:x6 hs en rj)(O:vP hs): ∀(m:Nat) (h:Hd),h∈hs->rj h.1<=m->∀n,(y9 en (h.2.take n)).length<=7 * bd m:=by
 have few: ∀{f:Rh->Option Str} {h:Hd},h∈hs->(hs.flatMap λh=>h.2.filterMap f).Nodup->(∀y,y∈hs.flatMap (λh=>h.2.filterMap f)->y∈hs.tail.map (·.1))->∀n,((h.2.take n).filterMap f).length<=7:=λ{f h} hh hn ht n=>by
  have hsub:((h.2.take n).filterMap f).Sublist (h.2.filterMap f):=(jk n h.2).filterMap f;unfold List.Nodup at hn;rw[wg]at hn;have h1:((h.2.take n).filterMap f).Nodup:=(hn.1 h hh).sublist hsub;have h2:=mQ (m:=hs.tail.map (·.1)) h1 λx hx=>ht x (fh.mpr ⟨h,hh,hsub.mem hx⟩);rw[ae,List.length_tail]at h2;have:=O.hl;grobner
 intro m
 induction m with
 | zero=>
  intro h hh hr n;have h1:=few hh G.sn G.st n;have h3: ∀y,Rh.join y∈h.2.take n->(en y).length<=0:=λy hy=>by have:=G.jr h hh y (kb hy);grobner
  have:=zeI (B:=0) (u:= []) h3;unfold y9 bd;simp at this⊢
  grobner
 | succ m ih=>
  intro h hh hr n;have h1:=few hh G.sn G.st n;have h2:=few hh G.jn (λy hy=>(G.je y).mp hy) n;have h3: ∀y,Rh.join y∈h.2.take n->(en y).length<=7 * bd m:=λy hy=>by
   have hy':=kb hy;have Au:=G.jr h hh y hy';obtain⟨q,hq,rfl⟩:=cb.mp ((G.je y).mp (fh.mpr ⟨h,hh,cy.mpr ⟨_,hy',rfl⟩⟩));have hq':=iq hq;have:=ih q hq' 0#0 q.2.length
   rwa [du,(G.hb q hq').1]at this
  have:=zeI (B:=7 * bd m) (u:= []) h3;have h4:((h.2.take n).filterMap Rh.jn).length * (7 * bd m)<=7 * (7 * bd m):=xa _ h2;unfold y9 bd;simp only[jm]at this;grobner
theorem x6.lenB {hs:List Hd}{en:Str->List Str}{rj:Str->Nat}(G:x6 hs en rj)(O:vP hs){h:Hd}(hh:h∈hs)(n:Nat):(y9 en (h.2.take n)).length<=6725600:=by
 have:=G.len O 7 h hh (G.r7 h hh) n;rw[bW]at this;grobner
def pV (y:Str):PV->Option PV:=λx=>match x with | .str z=>if z≠y then some (.str z)else none | _=>none
theorem zmv {y:Str} : ∀l:List Str,(l.map PV.str).filterMap (pV y)=(l.filter λz=>decide (z≠y)).map PV.str
 | []=>rfl
 | z::l=>by
  rw[av,cp,zmv l];by_cases e:z=y
  ·rw[List.filter_cons_of_neg (by simp[e])]
   have:pV y (.str z)=none:=by unfold pV;dsimp only;rw[if_neg (by simp[e])]
   rw[this]
  ·rw[List.filter_cons_of_pos (by simp[e])]
   have:pV y (.str z)=some (.str z):=by unfold pV;dsimp only;rw[if_pos e]
   rw[this];rfl
theorem zq9 {own:Nat}{g:w4}{tt:xE}{el:zC}{xs:List PV}{Q:List PV->z5->Prop}{env:zF}{st:z5}{n:Nat}{o:PO}(Ag:st[n]?=some o)(f:PV->Option PV)
  (hs: ∀i x e,xs[i]?=some x->e.length=own->g x (env++e) st λe1 s1=>tt e1 s1 λb s2=>if b=true then el e1 s2 λy s3=>yU y=true/\CP f own xs env st (i+1) ((xs.take i).filterMap f++ [y]) e1 s3 else CP f own xs env st (i+1) ((xs.take i).filterMap f) e1 s2)
  (hd:Q (xs.filterMap f) st):o9 own g tt el (some (n,o)) xs Q env st:=by
 refine⟨CP f own xs env st,⟨3#0,rfl,_,3#0,rfl⟩,?_,?_⟩
 ·rintro i x ys zq zl hx ⟨rfl,rfl,e',he,rfl⟩
  exact⟨Ag,hs i x e' hx he⟩
 ·rintro ys zq zl ⟨rfl,rfl,e',he,rfl⟩
  show zl[n]?=some o/\Q _ _;rw[ck (ar _)];exact⟨Ag,hd⟩
theorem ztc {w:Str}{ws:List Str}{st:z5}{Q:K3} :xQ true (.str w) (.lst 6#3) st Q=Q (.bl (!decide (w∈ws))) st:=by
 have h1:(ws.map PV.str).all xM=true:=zhv ws;have e:xQ true (.str w) (.lst 6#3) st Q=((xM (.str w)=true/\(ws.map PV.str).all xM=true)/\Q (.bl (!xD (.str w) 6#3)) st):=rfl;rw[e,oM];exact propext ⟨λz=>z.2,λz=>⟨⟨rfl,h1⟩,z⟩⟩
theorem zu8 {sh:List Sn}{hs:List Hd}(h1: ∀s∈sh,zE (zV s)<=12)(h2: ∀h∈hs,∀r∈h.2,jF r):zE (yF sh hs)<=47:=by
 have a:=m6 (f:=zV) (m:=12) sh h1;have b:=m6 (f:=zW) (m:=42) hs λh hh=>by
  have:=m6 (f:=Rh.pv) (m:=40) h.2 λr hr=>h2 h hh r hr;unfold zW zV wP;simp only[zE,dpts];grobner
 unfold yF;simp only[zE,dpts];grobner
theorem zeJ {hs:List Hd}{g h:Hd}(hn:(hs.map (·.1)).Nodup)(hg:g∈hs)(hh:h∈hs)(e:g.1=h.1):g=h:=by
 obtain⟨i,hi⟩:=au.mp hg;obtain⟨j,hj⟩:=au.mp hh;have:i=j:=(dg (by rw[ae];exact(ah.mp hi).1) hn).mp (by rw[br,br,hi,hj];show some g.1=some h.1;rw[e]);subst this;exact cf (hi.symm.trans hj)
theorem zoc {hs:List Hd}{h:Hd}{k:Nat}{a b:Str}(hn:(hs.map (·.1)).Nodup)(hh:h∈hs)(J:JJ h.2 k a b){g:Hd}(hg:g∈hs):y8 h.1 k (y8 h.1 k g)=g:=by
 by_cases e:g.1=h.1
 ·have:g=h:=zeJ hn hg hh e
  subst this;unfold y8;rw[if_pos rfl,if_pos rfl,J.twice]
 ·rw[lJ e,lJ e]
theorem zmk {α:Type}{f:α->α} : ∀{l:List α},(∀x∈l,f x=x)->l.map f=l
 | [],_=>rfl
 | x::l,h=>by rw[av,h x (aw ..),zmk λy hy=>h y (bf _ hy)]
section
variable {P:ce} {w:ci} {K:Frag} {mg:Str->Option aa} {base:cn} {HE C J D I A9 B9:ac} {fj fi:bu}
theorem ztH (N:XE K mg HE C J fj D I fi A9 B9):zM P w K mg base zY 1 J fj ["self",66#1] (znT C 66#1 mT):=by
 refine N.nf.ok zwg (λvs H Q E h=>by obtain⟨e,v,rfl,_⟩:=h;rfl) (λzr A outer s H vs Q E hr h=> ?_);obtain⟨e,v,rfl,⟨x,rfl,h0,h1⟩,he,q⟩:=h;refine⟨_,oS (fM (zfr N.top 4#0 N.gh (vJ (pv 0) (vJ (zuv (zfy oR (zfy (zus (pv 1)) (zfy oR zuI)))) rZ)))) (j7 (zuQ (HE:=HE) (pv 0) (pv 1) 4#0)),?_⟩;refine⟨_,rfl,_,rfl,jV (pC dW lG) 1#0,_,rfl,x,rfl,jV (dX h0 h1) 2#0,_,rfl,jV (pC (pC dW lG) (dX h0 h1)) 1#0,_,rfl,jV (pC (pC (pC dW lG) (dX h0 h1)) lG) 1#0,jV (pC (pC (pC dW lG) (dX h0 h1)) lG) 1#0,e,C,none,_,rfl,he,N.nh,?_⟩;exact⟨_,rfl,_,rfl,e,C,rfl,he,N.nh,N.na,λdx hd=>q dx hd⟩
theorem zxx (N:XE K mg HE C J fj D I fi A9 B9){e:ac}{D9:sK}{σ:L2.St}{H:Hp}(h1:5 < σ.length)(h2:σ[5]?=some (some (V.ref e)))(h3:3 < σ.length)(k9: ∀p vs,H p=none->D9.nx ((σ.set 3 (some 6#8)).set 3 (some 6#8)) (upd H p (.tup vs))):
  zoj (nB (zgj (lK (λxs H Q=> ∃c cv b,xs= [V.ref e,c]/\nX c=some cv/\sj K 7#15 cv=some b/\Q (V.bl b) H) (sI (pD 5) (sI (tC (V.ref HE)) lM))) (lK (λxs H Q=> ∃c cv b,xs= [V.ref e,c]/\nX c=some cv/\sj K 7#15 cv=some b/\Q (V.bl b) H) (sI (pD 5) (sI (tC (V.ty 27#1)) lM)))) (mE 3))
   (nB (zgj (pD 3) (zog (lK (λxs H Q=> ∃(p:ac) (cs:List ac) (b:Bool),xs= [V.ref e,V.ref p]/\H p=some (.tup (cs.map V.ref))/\kitAny K 7#15 (cs.map Value.ref)=some b/\Q (V.bl b) H) (sI (pD 5) (sI (zgn (sI (tC (V.ref C)) (sI (tC (V.ref A9)) (sI (tC (V.ref B9)) lM)))) lM))))) (mE 3)) D9 σ H:=by
 refine⟨V.ref e,h2,.ref HE,.ref HE,true,rfl,rfl,N.kh,true,rfl,?_⟩;rw[if_pos rfl];refine⟨V.ref e,h2,.ty 27#1,.type 27#1,true,rfl,rfl,N.nt.kit_ve,?_⟩;refine⟨.bl true,dv h3,true,rfl,?_⟩;rw[if_pos rfl];refine⟨V.ref e,by rw[dw 2#0];exact h2,?_⟩;exact⟨bh (by decide:3<=1000) 2#0,λp hp=>⟨p,[C,A9,B9],false,rfl,yM,N.ka,false,rfl,k9 p _ hp⟩⟩
theorem ztI (N:XE K mg HE C J fj D I fi A9 B9):zM P w K mg base zY 1 I fi ["self"] (L3.spX0 D):=by
 refine N.tf.ok zn7 (λvs H Q E h=>by obtain⟨e,rfl,_⟩:=h;rfl) (λzr A outer s H vs Q E hr h=> ?_);obtain⟨e,rfl,he,q⟩:=h;refine⟨_,j7 (fM (zfr N.top 4#0 N.gh (vJ (pv 0) (vJ oR rZ)))),?_⟩;exact⟨_,rfl,e,D,none,_,rfl,he,N.nt,q⟩
theorem zrB (N:XE K mg HE C J fj D I fi A9 B9):bJ P w K mg base I fi D:=λA outer h s H args us vs Q E hh dp e0 bd r hq=>by
 obtain⟨oc,od,kV,doc,pm,an,zr,ct,AC,rfl,lk,hcd⟩:=N.tf.ex;obtain⟨e,rfl,he,q⟩:=hq;refine zrs lk hcd zn7 hh dp e0 bd r rfl ⟨_,j7 (fM (zfr N.top 4#0 N.gh (vJ (pv 0) (vJ oR rZ)))),?_⟩;exact⟨_,rfl,e,D,none,_,rfl,he,N.nt,q⟩
end
section
variable {P:ce} {w:ci} {K:Frag} {mg:Str->Option aa} {base:cn}
theorem zt4 {f:ac}{fd:bu}(M:Mo w K mg)(F:yA K "deed_of" "deed_of" dI f fd):zM P w K mg base zY 1 f fd [73#1] (zX K zw4):=by
 refine x5 0 F zwh (λxs st Q h=>by obtain⟨r,rfl,_⟩:=h;rfl) ⟨_,λzr A outer s H E hr=>(z9 (zZ (qc 3#10 3#2 zG) (zD (y2 3#2)) yC)
   (z9 (zZ (tF (mR hr) 3#2 (yN 0#11) 4#0) (zD (y2 uK)) yC)
   (zD (y2 (qv 0))))),λxs st Q h=> ?_⟩
 obtain⟨r,rfl,q⟩:=h;have n1:((31#1 :Str)==("when" :Str))=false:=1#0
 have n2:((28#1 :Str)==("when" :Str))=false:=1#0
 have i1:xD (.str 31#1) [PV.str 31#1,.str 28#1]=true:=by unfold xD;simp[u6]
 have i2:xD (.str 28#1) [PV.str 31#1,.str 28#1]=true:=by unfold xD;simp[u6]
 have fl: [PV.str 31#1,PV.str 28#1].all xM=true:=rfl;cases r with
 | split n=>
  unfold Rh.pv;symm;simp? only[n1];symm;simp? only[xQ,uN,xM,i1,fl];exact q
 | join n=>
  unfold Rh.pv;symm;simp? only[n2];symm;simp? only[xQ,uN,xM,i2,fl];exact q
 | pl r=>
  obtain⟨g,d⟩:=r;have hq:Q d.pv st:=q;cases g with
  | none=>
   obtain⟨k,more,e,k1,k2⟩:=d.form2;show uP _ _ _ (qC _ [d.pv]) _;rw[e]at hq⊢
   symm;simp? only[k1];symm;simp? only[xQ,uN,xM,k2,fl];exact hq
  | some x=>
   show uP _ _ _ (qC _ [.tup 1#18]) _;symm;simp? only[beq_self_eq_true];exact zqZ hq
theorem ztJ {f:ac}{fd:bu}(M:Mo w K mg)(F:yA K "shelf_of" "shelf_of" c5 f fd):zM P w K mg base zY 1 f fd ["deed"] (zX K zwG):=by
 refine x5 0 F zwp (λxs st Q h=>by obtain⟨d,rfl,_⟩:=h;rfl) ⟨_,λzr A outer s H E hr=>(z9 (zZ (qc 3#10 3#2 zG) (zD (y2 uK)) yC)
   (zD (y2 3#2))),λxs st Q h=> ?_⟩
 obtain⟨d,rfl,q⟩:=h;cases hd:d.nm with
 | none=>
  rw[hd]at q;cases d with
  | tell x=>
   unfold Dd.pv;symm;simp? only[beq_self_eq_true];exact q
  | bag up a b=>cases hd
  | set a x=>cases hd
  | more a x=>cases hd
  | lay a x b=>cases hd
  | drop a x=>cases hd
 | some s=>
  rw[hd]at q;obtain⟨k,more,e,_,k2⟩:=d.form hd;rw[e];symm;simp? only[k2];exact q
theorem ztL {f:ac}{fd:bu}(M:Mo w K mg)(F:yA K "terms_in" "terms_in" c7 f fd):zM P w K mg base zY 1 f fd ["term"] (zX K zwI):=by
 refine x5 0 F zwr (λxs st Q h=>by obtain⟨x,rfl,_⟩:=h;rfl) ⟨_,λzr A outer s H E hr=>(z9 (zZ (qc 3#10 3#2 zG) (zD (y2 (vB (qv 0) (wM z6) vK))) yC)
   (z9 (zZ (qc 3#10 3#2 zG) (zD (y2 (vB (qv 0) (wM z6) vK))) yC)
   (zD (y2 (yN z7))))),λxs st Q h=> ?_⟩
 obtain⟨x,rfl,q⟩:=h;have o1:(("op" :Str)== "op")=true:=1#0
 have o2:(("if" :Str)== "op")=false:=1#0
 have o3:(("if" :Str)== "if")=true:=1#0
 cases x with
 | num k=>
  have a1:(("num" :Str)== "op")=false:=1#0
  have a2:(("num" :Str)== "if")=false:=1#0
  unfold xA Tm.pv;symm;simp? only[a1];symm;simp? only[a2];exact q
 | lf l=>
  obtain⟨k,more,e,_,a1,a2⟩:=zma l;have e':xA (.lf l)= .tup (.str k:: .str l.nm::more):=e;rw[e'];symm;simp? only[a1];symm;simp? only[a2];exact q
 | op s a b=>
  unfold xA Tm.pv;symm;simp? only[o1];exact q
 | ite a b c=>
  unfold xA Tm.pv;symm;simp? only[o2];symm;simp? only[o3];exact q
theorem ztK {f:ac}{fd:bu}(M:Mo w K mg)(F:yA K "term_of" "term_of" c6 f fd):zM P w K mg base zY 1 f fd ["deed"] (zX K zwJ):=by
 refine x5 0 F zwq (λxs st Q h=>by obtain⟨d,rfl,_⟩:=h;rfl) ⟨_,λzr A outer s H E hr=>(z9 (zZ (qc 3#10 3#2 zG) (zD (y2 3#2)) yC)
   (z9 (zZ (tF (mR hr) 3#2 (yN 0#11) 4#0) (zD (y2 uK)) yC)
   (zD (y2 3#2)))),λxs st Q h=> ?_⟩
 obtain⟨d,rfl,q⟩:=h;have hin: ∀{k:Str} {st:z5} {Q:K3},xQ false (.str k) (.tup [PV.str "in",.str "out"]) st Q=((xM (.str k)=true/\[PV.str "in",PV.str "out"].all xM=true)/\Q (.bl (xD (.str k) [PV.str "in",.str "out"])) st):=λ{k st Q} =>rfl;have fl: [PV.str "in",PV.str "out"].all xM=true:=rfl;have fs: ∀k:Str,xM (.str k)=true:=λ_=>rfl;have t1:(("tell" :Str)== "tell")=true:=1#0
 have n1:(("in" :Str)== "tell")=false:=1#0
 have n2:(("out" :Str)== "tell")=false:=1#0
 have n3:(("set" :Str)== "tell")=false:=1#0
 have n4:(("more" :Str)== "tell")=false:=1#0
 have n5:(("lay" :Str)== "tell")=false:=1#0
 have n6:(("drop" :Str)== "tell")=false:=1#0
 have out: ∀{k:Str},k∉(["in","out"]:List Str)->xD (.str k) [.str "in",.str "out"]=false:=λ{k} hk=>by
  have e:=oM (w:=k) (ws:= ["in","out"]);rw[av,av,jf]at e;rw[e];exact decide_eq_false hk
 have i1:xD (.str "in") [PV.str "in",.str "out"]=true:=by unfold xD;simp[u6]
 have i2:xD (.str "out") [PV.str "in",.str "out"]=true:=by unfold xD;simp[u6]
 have i3:xD (.str "set") [PV.str "in",.str "out"]=false:=out 1#0;have i4:xD (.str "more") [PV.str "in",.str "out"]=false:=out 1#0;have i5:xD (.str "lay") [PV.str "in",.str "out"]=false:=out 1#0;have i6:xD (.str "drop") [PV.str "in",.str "out"]=false:=out 1#0;cases d with
 | tell x=>
  unfold Dd.pv;symm;simp? only[t1];exact kO q
 | bag up a b=>
  cases up with
  | true=>
   unfold Dd.pv;symm;simp? only[n1];symm;simp? only[hin,i1,fl,fs];exact q
  | false=>
   unfold Dd.pv;symm;simp? only[n2];symm;simp? only[hin,i2,fl,fs];exact q
 | set a x=>
  unfold Dd.pv;symm;simp? only[n3];symm;simp? only[hin,i3,fl,fs];exact kO q
 | more a x=>
  unfold Dd.pv;symm;simp? only[n4];symm;simp? only[hin,i4,fl,fs];exact kO q
 | lay a x b=>
  unfold Dd.pv;symm;simp? only[n5];symm;simp? only[hin,i5,fl,fs];exact kO q
 | drop a x=>
  unfold Dd.pv;symm;simp? only[n6];symm;simp? only[hin,i6,fl,fs];exact kO q
theorem nd0:(["tuples",66#1,"one"]:List Str).Nodup:=1#0
theorem zt5 {f:ac}{fd:bu}(M:Mo w K mg)(F:yA K 49#1 49#1 jR f fd):zM P w K mg base zY 1 f fd ["tuples",66#1] (zX K zw6):=by
 refine x5 0 F zwi (λxs st Q h=>by obtain⟨l,S,s,rfl,_⟩:=h;rfl) ⟨_,λzr A outer s H E hr=>(zD (y2 (qx hr (qZ (own:= ["one"]) (uY (fsc:=zQ jR) (N:= ["tuples",66#1]) (N':= ["tuples",66#1]) rfl rfl 1#0) rfl (wH (qv 0)) (λC s H fp zc=>(qn 2 nd0)) (λC s H fp zc=>j9 (qc 3#10 9#13 (qv 1))) (λC s H fp zc=>(qv 2))) z6))),λxs st Q h=> ?_⟩;obtain⟨l,S,s,rfl,hn,hm,e,q⟩:=h
 ac_nf
 refine sQ (pP S) (λj x e hx he=> ?_) ?_
 ·obtain⟨⟨n,r⟩,hs',rfl⟩:=wC hx
  obtain⟨y,rfl⟩:=sB he;unfold zV
  ac_nf
  by_cases hn:n=S
  ·have hb:(n==S)=true:=by rw[hn];exact beq_self_eq_true _
   have hf:pP S (zV (n,r))=some (zV (n,r)):=by show 4#18=_;rw[hb];rfl
   simp? only[hb];exact CP.yes (e':= [_]) hx hf rfl
  ·have hb:(n==S)=false:=by simpa using hn
   have hf:pP S (zV (n,r))=none:=by show 4#18=_;rw[hb];rfl
   simp? only[hb];exact CP.no (e':= [_]) hx hf rfl
 rw[zlr hn hm e]
 ac_nf
 exact zih rfl q
theorem zt6 {f:ac}{fd:bu}(M:Mo w K mg)(F:yA K 62#1 62#1 dJ f fd):zM P w K mg base zY 2 f fd [4#1,"H"] (zX K zw7):=by
 obtain⟨_,_,zgM,zqb,zs2⟩:=M.first_called;have zpp:= @zt5 P w K mg base _ _ M zgM;refine x5 0 F zwj (λxs st Q h=>by obtain⟨sh,hs,h,rfl,_⟩:=h;rfl) ⟨_,λzr A outer s H E hr=>have hr1:zI 1 _:=hr.mono 2#0;(zD (y2 (qk zpp hr1 zs2 zgM zqb (z3 3#2 4#11)))),λxs st Q h=> ?_⟩;obtain⟨sh,hs,h,rfl,hn,hm,q⟩:=h;unfold yF
 ac_nf
 exact⟨hs.map wP,h.1,wP h,by rw[bx];rfl,by rw[zl5];exact hn,cg hm,rfl,zih rfl q⟩
theorem nd1:([4#1,"kind","named","hand",73#1]:List Str).Nodup:=1#0
theorem ztG {f:ac}{fd:bu}(M:Mo w K mg)(F:yA K 32#1 32#1 jW f fd):zM P w K mg base zY 1 f fd [4#1,"kind"] (zX K zwD):=by
 refine x5 0 F zfW (λxs st Q h=>by obtain⟨sh,hs,kind,f,rfl,_⟩:=h;rfl) ⟨_,λzr A outer s H E hr=>(z9 (qz 2 zfW.nd fS)
   (z9 (u0 dy rfl (wH 3#2) (qn 3 zfW.nd) (zD (uL (qZ (own:= [73#1]) (uY (fsc:=zQ jW) (N:= [4#1,"kind","named","hand"]) (N':= [4#1,"kind","named","hand"]) rfl rfl 1#0) rfl (wH 0#12) (λC s H fp zc=>(qn 4 nd1)) (λC s H fp zc=>j9 (qc 3#10 (qx hr (qv 4) z6) (qv 1))) (λC s H fp zc=>(qx hr (qv 4) z6))) (sZ hr (qv 2) 0#12))))
   (zD (y2 (qv 2))))),λxs st Q h=> ?_⟩
 obtain⟨sh,hs,kind,f,rfl,hf,hn,hl,q⟩:=h;symm
 ac_nf
 symm;unfold yF
 ac_nf
 refine vZ (λk env s=> ∃v:Option PV,env= [some (yF sh hs),some (.str kind),some 5#2,v]/\s=st++ [.dct (sC f (hs.take k))]) ⟨none,rfl,rfl⟩ ?_ ?_
 ·rintro k x env s hx ⟨v,rfl,rfl⟩
  obtain⟨h,hh,rfl⟩:=wC hx;have hnew:(Sum.inr h.1:z8)∉(sC f (hs.take k)).map (·.1):=by
   unfold sC;rw[bx];intro z;obtain⟨h',hm',e⟩:=cb.mp z;obtain⟨i,hi⟩:=au.mp hm';have hik:i < k:=by have:=(ah.mp hi).1;rw[cz]at this;grobner
   rw[gc hik]at hi;have e1:h'.1=h.1:=jp e;have:=(dg (i:=i) (j:=k) (l:=hs.map (·.1)) (by rw[ae];exact(ah.mp hi).1) hn).mp (by rw[br,br,hi,hh,vg,vg,e1]);grobner
  have hkl:(sC f (hs.take k)).length<=1000:=by unfold sC;rw[ae,cz];grobner
  unfold zW zV wP
  ac_nf
  refine sQ (mC kind) (λj y e hy he=> ?_) ?_
  ·obtain⟨r,hr,rfl⟩:=wC hy
   obtain⟨y1,rfl⟩:=sB he;obtain⟨k1,x1,more,e1,ex⟩:=znx r;have hfk:mC kind r.pv=if k1==kind then some x1 else none:=by rw[e1];rfl
   rw[e1]at hy hfk⊢
   ac_nf
   cases hb:(k1==kind)with
   | true=>
    rw[hb]at hfk
    ac_nf
    exact⟨ex,CP.yes (e':= [_]) hy hfk rfl⟩
   | false=>
    rw[hb]at hfk
    ac_nf
    exact CP.no (e':= [_]) hy hfk rfl
  ·rw[ze9 hf]
   ac_nf
   exact⟨mz hkl 2#0,_,rfl,by rw[j8 hnew,pE hh];unfold sC;rw[bb];rfl⟩
 ·rintro env s ⟨v,rfl,rfl⟩
  rw[ae,ck (ar _)]
  ac_nf
  exact q
theorem nd2:([4#1,"splits","order","waiting",66#1,"hand"]:List Str).Nodup:=1#0
theorem zmD {f:ac}{fd:bu}(M:Mo w K mg)(F:yA K 36#1 36#1 jT f fd):zM P w K mg base zY 2 f fd [4#1] (zX K zge):=by
 obtain⟨_,_,zgX,zqm,zsC⟩:=M.named_by_hands;have zpz:= @ztG P w K mg base _ _ M zgX;refine x5 0 F jP (λxs st Q h=>by obtain⟨sh,h0,hs,rk,rfl,_⟩:=h;rfl) ⟨_,λzr A outer s H E hr=>have hr1:zI 1 _:=hr.mono 2#0;(z9 (qz 1 jP.nd (qk zpz hr1 zsC zgX zqm (z3 (qv 0) (z3 zG z7))))
   (z9 (qz 2 jP.nd (qB z7))
   (z9 (znl (i0:=3) (own:= ["hand"]) (uY (fsc:=zQ jT) (N:= [4#1,"splits","order","waiting",66#1]) (N':= [4#1,"splits","order","waiting",66#1]) rfl rfl 1#0) jP.nd rfl 9#16 rfl (wH (vB 3#2 vK (wM z6))) (λC s H fp zc=>(qn 5 nd2)) 0#10 (λC s H fp zc=>6#5))
   (z9 (znm dy (mY (qv 3)) (z9 (qz 4 jP.nd (zvl cq qf qg 2#0 ztl (qv 3)))
   (z9 (xH (vA cq dk dm 2#0 tP (qv 2) 6#16))
   (zD (xH (vA cq uz va 2#0 zm4 (qv 3) (z3 (zvo rfl 4#0 M.list 4#0 M.reversed (qx hr (qv 1) (qv 4))) z7)))))))
   (zD (y2 (wV qY 4#0 M.tuple qK 4#8))))))),λxs st Q h=> ?_⟩
 obtain⟨sh,h0,hs,rk,rfl,hn,hl,R,hr7,q⟩:=h;obtain⟨all,zw⟩: ∃all,h0::hs=all:=⟨_,rfl⟩;have h0m:h0.1∈all.map (·.1):=by rw[<- zw];exact aw ..
 have hal:all.length<=1000:=by rw[<- zw,bv];grobner
 rw[zw]at hn R hr7 q⊢
 symm
 ac_nf
 refine⟨sh,all,31#1,Rh.sp,rfl,.inl ⟨rfl,rfl⟩,hn,hal,?_⟩
 ac_nf
 symm
 ac_nf
 symm;unfold yF
 ac_nf
 rw[show((1:Int))=((1:Nat):Int)from rfl,pM,<- kg,<- zw,List.take_succ_cons,zb,zw];refine sQ nmF (λj y e hy he=> ?_) ?_
 ·obtain⟨h,hh,rfl⟩:=wC hy
  obtain⟨y1,rfl⟩:=sB he;unfold zW zV at hy⊢
  ac_nf
  exact CP.yes (e':= [_]) hy rfl rfl
 show uP _ _ _ _ (st++ [PO.lst []]++ [PO.lst [PV.str h0.1]]);obtain⟨g,eg⟩: ∃g,kids Rh.sp all=g:=⟨_,rfl⟩;have gv: ∀n∈all.map (·.1),zH (sC Rh.sp all) (.inr n)=some (.lst ((g n).map PV.str)):=λn hn=>by rw[zmt hn,eg]
 rw[eg]at R q;have hbig:(yX g 8 h0.1).length<=960800:=bh (zfm R h0m) (by rw[<- bW];exact hU (hr7 _ h0m));have g1: ∀{x y:PO},(st++ [x]++ [y])[st.length]?=some x:=λ{x y} =>by rw[bi,ba (ar _),ig];rfl
 have g2: ∀{x y:PO},(st++ [x]++ [y])[st.length+1]?=some y:=λ{x y} =>by rw[bi,ba 0#0,show st.length+1 - st.length=1 by grobner];rfl
 have s1: ∀{x y z:PO},(st++ [x]++ [y]).set st.length z=st++ [z]++ [y]:=λ{x y z} =>by rw[bi,gm _ _ (ar _),ig];simp
 have s2: ∀{x y z:PO},(st++ [x]++ [y]).set (st.length+1) z=st++ [x]++ [z]:=λ{x y z} =>by rw[bi,gm _ _ 0#0,show st.length+1 - st.length=1 by grobner];simp
 symm;have len1':(st++ [PO.lst []]).length=st.length+1:=3#0
 rw[len1'];refine⟨λm env s=> ∃(wt od:List Str) (v:Option PV),env= [some 6#10,some (.dct (sC Rh.sp all)),some 5#2,some (.obj (st.length+1)),v]/\s=st++ [.lst (od.map PV.str)]++ [.lst (wt.map PV.str)]/\(∀n∈wt,n∈all.map (·.1))/\od++wt.reverse.flatMap (yX g 8)=yX g 8 h0.1/\m=(wt.reverse.flatMap (yX g 8)).length,⟨_,[h0.1],[],none,rfl,rfl,λn hn=>by rw[ao.mp hn];exact h0m,3#0,rfl⟩,?_⟩;rintro m env s ⟨wt,od,v,rfl,rfl,hw,ho,rfl⟩;simp? only[g2];rcases List.eq_nil_or_concat wt with rfl | ⟨wt',n,rfl⟩
 ·have ho':od=yX g 8 h0.1:=by simpa using ho
  have t1: ∀{x y:PO},(st++ [x]++ [y]).take st.length=st:=λ{x y} =>by rw[bi,ki (ar _),du]
  simp? only[g1,t1];rw[ho'];exact q
 ·rw[List.concat_eq_append]at *
  have nm:n∈all.map (·.1):=hw n 3#0;have hgl:((wt'++ [n]).map PV.str).getLast?=some (.str n):=3#0
  have hdl:((wt'++ [n]).map PV.str).dropLast=wt'.map PV.str:=3#0
  have Ao:((wt'++ [n]).map PV.str).isEmpty=false:=3#0
  have Ag:=fG R nm (show rk n < 8 by have:=hr7 n nm;grobner);have hfl:(wt'++ [n]).reverse.flatMap (yX g 8)=n::((g n).flatMap (yX g 8)++wt'.reverse.flatMap (yX g 8)):=by
   rw[iy,List.reverse_singleton,wc,fk,Ag];rfl
  have zu:=congrArg List.length ho;rw[hfl,am,bv,am]at zu;have hex:(wt'++(g n).reverse).reverse.flatMap (yX g 8)=(g n).flatMap (yX g 8)++wt'.reverse.flatMap (yX g 8):=by
   rw[iy,xc,kq]
  have At: ∀{l:List Str},(∀x∈l,x∈all.map (·.1))->l.length<=(l.flatMap (yX g 8)).length:=λ{l} =>by
   induction l with
   | nil=>intro _;exact ar _
   | cons x l ih=>
    intro h;rw[fk,am,bv];have h1:=ih λy hy=>h y (bf _ hy);have hx:=h x (aw ..);have h2:=fG R hx (show rk x < 8 by have:=hr7 x hx;grobner);have h3:1<=(yX g 8 x).length:=by rw[h2,bv];grobner
    grobner
  have hw': ∀x∈wt'.reverse,x∈all.map (·.1):=λx hx=>hw x (by simp at hx⊢;exact .inl hx);have hg': ∀x∈g n,x∈all.map (·.1):=R.sub n nm;have l1:=At hw';have l2:=At hg';rw[gd]at l1;simp? only[Ao];refine⟨λe s=> ∃(v:Option PV),e= [some 6#10,some (.dct (sC Rh.sp all)),some 5#2,some (.obj (st.length+1)),v]/\s=st++ [.lst ((od++ [n]).map PV.str)]++ [.lst ((wt'++(g n).reverse).map PV.str)],?_,?_⟩
  ·rintro e s ⟨v,rfl,rfl⟩
   refine⟨_,?_,wt'++(g n).reverse,od++ [n],v,rfl,rfl,λx hx=> ?_,?_,rfl⟩
   ·rw[hex,hfl,bv];exact pq _
   ·rcases aq.mp hx with hx | hx
    ·exact hw x (by simp[hx])
    ·exact hg' x (by simpa using hx)
   ·rw[hex,<- ho,hfl];simp
  ·have gvn:=gv n nm
   have big:(960800:Nat) < ak:=by rw[di];decide
   symm;simp? only[g2,hgl,hdl,s2];symm;simp? only[g1,s1,ae];refine⟨0#0,?_⟩;simp? only[gvn,g2,s2,ae,gd];refine⟨0#0,_,rfl,3#0⟩
theorem zt8 {f:ac}{fd:bu}(M:Mo w K mg){HE C J D I A9 B9:ac}{fj fi:bu}(N:XE K mg HE C J fj D I fi A9 B9)(F:yA K 55#1 55#1 dM f fd):zM P w K mg base (xF P w qP) 3 f fd ["rows","ends"] (vM K (znI C)):=by
 have GI:= @ztH P w K mg base _ _ _ _ _ _ _ _ _ N;refine j5 0 F zfS (λxs st Q W h=>by obtain⟨rs,en,ev,kvs,n,rfl,_⟩:=h;rfl) ⟨λW=>_,λzr A outer s H E W hr hE=>have hr2:zI 2 _:=hr.mono 2#0;(z9 (qz 2 zfS.nd fS)
   (z9 (u0 PassesOwn.leaving rfl (wH (qv 0)) (qn 3 zfS.nd) (z9 (zZ (qc 3#10 0#12 zG) (zD (uL tB (sZ hr (qv 2) 0#12))) yC)
   (zD (zZ (qc 3#10 0#12 zG) (z9 (zZ (tF (oQ hr) 0#12 (qv 2) 4#0) (zD (zv0 N.top N.nh N.nhi GI hr2 N.gn N.nb zgs rfl hE rfl 0#12)) yC)
   (z9 (xH (vA vc vx PySem.F.type_dict_pop 2#0 ztm (qv 2) (z3 0#12 z7)))
   (zD (xH (vA vc uy PySem.F.type_dict_update 2#0 ztq (qv 2) (z3 (qx hr (qv 1) 0#12) z7)))))) yC))))
   (zD (y2 (qv 2))))),λxs st Q W h=> ?_⟩
 obtain⟨rs,en,ev,kvs,n,rfl,hev,hl,hv,hj,q⟩:=h;have hle: ∀k,k < rs.length->k<=n->k < n∨∃y,k=n/\rs[n]?=some (.join y)/\y∉y9 en (rs.take n)/\vX y/\W C (some (66#1,.str y)):=λk h1 h2=>by
  rcases q with⟨q,_⟩ | ⟨y,q⟩
  ·exact .inl 0#0
  ·rcases Nat.lt_or_eq_of_le h2 with h | h
   ·exact .inl h
   ·exact .inr ⟨y,h,q⟩
 have hix: ∀{y:Str} {v:PV} {o:PO} {Q:K3},zH kvs (.inr y)=some v->r6 ev (.str y) (st++ [o]) Q=Q v (st++ [o]):=λ{y v o Q} e=>by
  rcases hev with rfl | ⟨i,rfl,e2⟩
  ·rw[zqN,zic];show wF (zH kvs (.inr y)) _=_;rw[e];rfl
  ·rw[zqO,gU e2,zqP,zic];show wF (zH kvs (.inr y)) _=_;rw[e];rfl
 have hin: ∀{y:Str} {ms:List Str} {Q:K3},xQ true (.str y) 5#2 (st++ [.dct (yP ms)]) Q=Q (.bl (!(zH (yP ms) (.inr y)).isSome)) (st++ [.dct (yP ms)]):=λ{y ms Q} =>by
  unfold xQ uN rN;dsimp only;rw[vQ]
  rfl
 have e1:((31#1 :Str)== 31#1)=true:=1#0
 have e2:((31#1 :Str)== 28#1)=false:=1#0
 have e3:((28#1 :Str)== 31#1)=false:=1#0
 have e4:((28#1 :Str)== 28#1)=true:=1#0
 have big:(40000:Nat) < ak:=by rw[di];decide
 symm
 ac_nf
 symm
 ac_nf
 refine vZ (λk env s=> ∃(ms:List Str) (v:Option PV),env= [some (.tup (rs.map Rh.pv)),some ev,some 5#2,v]/\s=st++ [.dct (yP ms)]/\uS ms (y9 en (rs.take k))/\ms.length<=1001 * k/\k<=n) ⟨[],none,rfl,rfl,⟨3#0,λx=>by simp[y9]⟩,fv _,fv _⟩ ?_ ?_
 ·rintro k x env s hx ⟨ms,v,rfl,rfl,hm,hml,AG⟩
  obtain⟨r,hr,rfl⟩:=wC hx;have hk:=(ah.mp hr).1;have hs:=pE hr;have hmz:ms.length<=30030:=0#0
  rcases hle k hk AG with Au | ⟨y,rfl,hy1,hy2,hy3,hw⟩
  rotate_left
  ·cases hr.symm.trans hy1
   have hvy:zH (yP ms) (.inr y)=none:=by rw[nF,if_neg λz=>hy2 ((hm.2 y).mp z)]
   unfold Rh.pv
   ac_nf
   symm;simp? only[e3];simp? only[e4];symm;simp? only[hin,hvy];exact⟨.str y,rfl,⟨y,rfl,hy3⟩,hw⟩
  cases r with
  | split y=>
   unfold Rh.pv
   ac_nf
   symm;simp? only[e1,zgu,cF];refine⟨0#0,?_⟩;simp? only[e2];exact⟨_,_,rfl,rfl,by rw[hs];exact hm.split,by have:=zhs (ms:=ms) (x:=y);grobner,0#0⟩
  | join y=>
   have hrn:rs.take n=rs.take k++ .join y::(rs.take n).drop (k+1):=by
    have h1:(rs.take n)[k]?=some (.join y):=by rw[ou,if_pos Au];exact hr
    obtain⟨h2,h3⟩:=ah.mp h1;have h4:(rs.take n).take k=rs.take k:=by rw[wj,og 0#0]
    rw[<- h4,<- h3,ic,fo]
   have hy:y∈ms:=(hm.2 y).mpr (hv _ _ _ hrn);have hvy:zH (yP ms) (.inr y)=some 6#8:=by rw[nF,if_pos hy]
   obtain⟨ns,hn1,hn2,hn3⟩:=hj y (by rw[hrn];exact aj _ (aw ..));obtain⟨m2,em,hfl⟩: ∃m2,(ms.filter λz=>decide (z≠y))=m2/\m2.length<=ms.length:=⟨_,rfl,qd ..⟩;have hj2:=hm.join hn2;rw[em]at hj2;unfold Rh.pv
   ac_nf
   symm;simp? only[e3];simp? only[e4];symm;simp? only[hin,hvy];symm;simp? only[zno];refine⟨st.length,.inr y,.bl true,yP ms,.str y,rfl,rfl,rfl,vQ,hvy,?_⟩;rw[o5,zxu,em];simp? only[hix hn1,znp];refine⟨st.length,_,_,rfl,rfl,vQ,by rw[cF,cF];grobner,?_⟩;rw[o5,zgt];exact⟨_,_,rfl,rfl,by rw[hs];exact hj2,by have:=zhq (ns:=ns) (ms:=m2);grobner,0#0⟩
  | pl r=>
   obtain⟨k1,more,e,h1,h2⟩:=zfz r;rw[e]
   ac_nf
   symm;simp? only[h1];simp? only[h2];exact⟨_,_,rfl,rfl,by rw[hs];exact hm.pl,0#0,0#0⟩
 ·rintro env s ⟨ms,v,rfl,rfl,hm,hml,AG⟩
  rw[ae]at AG;rw[ae,ck (ar _)]at hm;rcases q with⟨_,q⟩ | ⟨y,q,_⟩
  rotate_left
  ·have:=(ah.mp q).1;grobner
  ac_nf
  exact q ms hm
theorem zt7 {f:ac}{fd:bu}(M:Mo w K mg){HE C J D I A9 B9:ac}{fj fi:bu}(N:XE K mg HE C J fj D I fi A9 B9)(F:yA K 48#1 48#1 dL f fd):zM P w K mg base (xF P w qP) 4 f fd [4#1] (vM K (zgd C)):=by
 obtain⟨_,_,lV,bZ,zfb⟩:=M.in_split_order;have b8:= @zmD P w K mg base _ _ M lV;obtain⟨zrp,zrl,zgP,zqe,zs5⟩:=M.held_behind;have zps:zM P w K mg base (xF P w qP) 3 zrp zrl ["rows","ends"] (vM K (znI C)):=zt8 M N zgP;refine j5 0 F dH (λxs st Q W h=>by obtain⟨sh,h0,hs,en,H,rfl,_⟩:=h;rfl) ⟨λW=>_,λzr A outer s H E W hr hE=>have hr2:zI 2 _:=hr.mono 2#0;have hr3:zI 3 _:=hr.mono 2#0;(z9 (qz 1 dH.nd (wV (zfh rfl) 4#0 M.dict nV (z3 3#2 z7)))
   (z9 (qz 2 dH.nd fS)
   (z9 (u0 PassesOwn.leaving rfl (wH (zvp rfl 4#0 M.list 4#0 M.reversed (qk b8 hr2 zfb lV bZ 1#10))) (qn 3 dH.nd) (zD (uL (fR zps hr3 zs5 zgP zqe zfo hE (z3 (qx hr (qv 1) (qv 3)) 4#8)) (sZ hr (qv 2) (qv 3)))))
   (zD (y2 (qv 2)))))),λxs st Q W h=> ?_⟩
 obtain⟨sh,h0,hs,en,H,rfl,O,G,q,qw⟩:=h;obtain⟨rk,R,h7⟩:=O.rk;obtain⟨all,zw⟩: ∃all,h0::hs=all:=⟨_,rfl⟩;have hl8:=O.hl;have h0n:h0.1∈all.map (·.1):=by rw[<- zw];exact aw ..
 have iso: ∀{Q:K3} {st:z5},Q (.tup ((yX (kids Rh.sp all) 8 h0.1).map PV.str)) st->zge [yF sh all] st Q:=λ{Q st} hq=>⟨sh,h0,hs,rk,by rw[zw],O.hn,by rw[bv]at hl8;grobner,R,h7,by rw[zw];exact hq⟩;have reach:=G.re h0 hs rfl;rw[zw]at O G R h7 q reach⊢
 have hps:(all.map zW).map q9=(vL all).map some:=by unfold vL;rw[bx,bx];rfl
 have AI:u8 [] (vL all)=vL all:=mM (by rw[jc,zfQ];exact kQ O.hn);symm;unfold yF;simp? only[jB];refine⟨_,hps,?_⟩;rw[AI];symm
 ac_nf
 symm;simp? only[zx9];refine iso ?_;obtain⟨l,el⟩: ∃l,yX (kids Rh.sp all) 8 h0.1=l:=⟨_,rfl⟩;have hbig:l.length<=960800:=by rw[<- el];exact bh (zfm R h0n) (by rw[<- bW];exact hU (h7 _ h0n))
 have big:(960800:Nat) < ak:=by rw[di];decide
 rw[el]at reach;rw[el];dsimp only;rw[<- pz];refine vZ (λk env s=> ∃(kvs:List 2#3) (v:Option PV),env= [some 6#10,some (.dct (vL all)),some 5#2,v]/\s=st++ [.dct kvs]/\kvs.length<=k/\∀w∈l.reverse.take k,iF kvs en w/\H≠some w) ⟨[],none,rfl,rfl,ar _,λw hw=>by simp at hw⟩ ?_ ?_
 ·rintro k x env s hx ⟨kvs,v,rfl,rfl,hk,hw⟩
  obtain⟨w,hwk,rfl⟩:=wC hx;obtain⟨hkl,hwk'⟩:=ah.mp hwk;have hkl':=hkl;rw[gd]at hkl';have Aq:l.reverse=l.reverse.take k++w::l.reverse.drop (k+1):=by rw[<- hwk',ic,fo]
  have hlsp:yX (kids Rh.sp all) 8 h0.1=(l.reverse.drop (k+1)).reverse++w::(l.reverse.take k).reverse:=by
   have:=congrArg List.reverse Aq;rw[xc,iy,ng]at this;rw[el];exact this.trans (by rw[bi];rfl)
  obtain⟨hwn,hwb⟩:=fH R h7 h0n (show rk h0.1 < 8 by have:=h7 _ h0n;grobner) hlsp;obtain⟨h,hh,rfl⟩:=cb.mp hwn;have hrw:=eL O.hn hh;simp? only[hrw];by_cases hB:H=some h.1
  ·obtain⟨n,y,b1,b2,b3,b4,b5⟩:=G.bad h hh hB
   exact⟨h.2,en,.obj st.length,kvs,n,rfl,.inr ⟨_,rfl,vQ⟩,O.rl h hh,b1,λz hz=>(hw z (by simpa using hwb z (b2 z hz))).1,.inr ⟨y,b3,b4,b5,qw _ y hB⟩⟩
  have hhb:=G.hb h hh hB;refine⟨h.2,en,.obj st.length,kvs,h.2.length,rfl,.inr ⟨_,rfl,vQ⟩,O.rl h hh,by rw[du];exact hhb.2.1,λy hy=> ?_,.inl ⟨ar _,λms hms=> ?_⟩⟩
  ·rw[du]at hy
   exact(hw y (by simpa using hwb y (hhb.2.2 y hy))).1
  ·have hms:uS ms (en h.1):=⟨hms.1,λx=>(hms.2 x).trans (hhb.1 x)⟩
   have hml:ms.length<=1000:=by
    have:=mQ (l:=ms) (m:=all.map (·.1)) hms.1 λx hx=>G.nm h hh x ((hms.2 x).mp hx);rw[ae,<- zw]at this;grobner
   ac_nf
   refine⟨0#0,_,_,rfl,rfl,bh zve 0#0,λw hw2=> ?_⟩;rw[pE hwk]at hw2;by_cases e:h.1=w
   ·exact⟨⟨ms,by rw[iA,if_pos (by rw[e])],by rw[<- e];exact hms,hml⟩,by rw[<- e];exact hB⟩
   ·rcases aq.mp hw2 with hw2 | hw2
    ·obtain⟨⟨ns,n1,n2,n3⟩,n4⟩:=hw w hw2
     exact⟨⟨ns,by rw[iA,if_neg λz=>e (jp z)];exact n1,n2,n3⟩,n4⟩
    ·exact absurd (ao.mp hw2).symm e
 ·rintro env s ⟨kvs,v,rfl,rfl,hk,hw⟩
  rw[ae,ck (ar _)]at hw
  ac_nf
  have hH:H=none:=by
   cases eH:H with
   | none=>rfl
   | some x=>exact absurd eH (hw x (qa.mpr (reach x (G.hin x eH)))).2
  exact q hH kvs λw hwn=>(hw w (qa.mpr (reach w hwn))).1
theorem nd3:([4#1,"held","hand"]:List Str).Nodup:=1#0
theorem zt9 {f:ac}{fd:bu}(M:Mo w K mg)(F:yA K 20#1 20#1 jS f fd):zM P w K mg base zY 1 f fd [4#1,"held"] (zX K zw8):=by
 refine x5 0 F zwk (λxs st Q h=>by obtain⟨sh,hs,ms,rfl,_⟩:=h;rfl) ⟨_,λzr A outer s H E hr=>(zD (y2 (wV qY 4#0 M.tuple qK (z3 (qZ (own:= ["hand"]) (uY (fsc:=zQ jS) (N:= [4#1,"held"]) (N':= [4#1,"held"]) rfl rfl 1#0) rfl (wH 3#2) (λC s H fp zc=>(qn 2 nd3)) (λC s H fp zc=>j9 (tF (mR hr) 9#13 (qv 1) 4#0)) (λC s H fp zc=>9#13)) z7)))),λxs st Q h=> ?_⟩;obtain⟨sh,hs,ms,rfl,q⟩:=h;unfold yF
 ac_nf
 refine sQ (gX ms) (λj y e hy he=> ?_) ?_
 ·obtain⟨h,hh,rfl⟩:=wC hy
  obtain⟨y1,rfl⟩:=sB he;have hf:gX ms (zW h)=if h.1∈ms then some (.str h.1)else none:=rfl
  have hin: ∀{Q:K3} {st:z5},xQ false (.str h.1) (.dct (yP ms)) st Q=Q (.bl (zH (yP ms) (.inr h.1)).isSome) st:=λ{Q st} =>rfl;unfold zW zV wP at hy hf⊢
  by_cases e:h.1∈ms
  ·rw[if_pos e]at hf
   have hv:zH (yP ms) (.inr h.1)=some 6#8:=by rw[nF,if_pos e]
   simp? only[hin,hv];exact CP.yes (e':= [_]) hy hf rfl
  ·rw[if_neg e]at hf
   have hv:zH (yP ms) (.inr h.1)=none:=by rw[nF,if_neg e]
   simp? only[hin,hv];exact CP.no (e':= [_]) hy hf rfl
 rw[zlB]
 ac_nf
 exact q
theorem ztF {f:ac}{fd:bu}(M:Mo w K mg)(F:yA K 34#1 34#1 dU f fd):zM P w K mg base zY 1 f fd ["tuples"] (zX K zwA):=by
 refine x5 0 F zfV (λxs st Q h=>by obtain⟨l,rfl,_⟩:=h;rfl) ⟨_,λzr A outer s H E hr=>(z9 (qz 1 zfV.nd fS)
   (zD (u0 dy rfl (wH (qv 0)) (qn 2 zfV.nd) (z9 (zZ (tF (mR hr) 9#13 (qv 1) 4#0) (zD p8) yC)
   (zD (uL tB (sZ hr (qv 1) 9#13))))))),λxs st Q h=> ?_⟩
 obtain⟨l,rfl,hn,hl,q⟩:=h;have big:(1000:Nat) < ak:=by rw[di];decide
 have hin: ∀{x:Str} {ms:List Str} {Q:K3},xQ false (.str x) 5#2 (st++ [.dct (yP ms)]) Q=Q (.bl (zH (yP ms) (.inr x)).isSome) (st++ [.dct (yP ms)]):=λ{x ms Q} =>by
  unfold xQ uN rN;dsimp only;rw[vQ]
  rfl
 symm
 ac_nf
 refine vZ (λk env s=> ∃(ms:List Str) (v:Option PV),env= [some (.tup (l.map zV)),some 5#2,v]/\s=st++ [.dct (yP ms)]/\ms=(l.take k).map (·.1)) ⟨[],none,rfl,rfl,rfl⟩ ?_ ?_
 ·rintro k x env s hx ⟨ms,v,rfl,rfl,hm⟩
  obtain⟨y,hy,rfl⟩:=wC hx;have hk:=(ah.mp hy).1;have hs:=pE hy;have hml:ms.length<=1000:=by rw[hm,ae,cz];grobner
  have hni:y.1∉ms:=by
   intro hmem;rw[hm]at hmem;have h1:=List.Nodup.sublist (List.Sublist.map (·.1) (jk (k+1) l)) hn;rw[hs,bb,bj]at h1;exact h1.2.2 _ hmem _ (ao.mpr rfl) rfl
  have hv:zH (yP ms) (.inr y.1)=none:=by rw[nF,if_neg hni]
  unfold zV
  ac_nf
  symm;simp? only[hin,hv];simp? only[zgu,cF];refine⟨0#0,?_⟩;refine⟨_,_,rfl,rfl,?_⟩;rw[hs,bb,<- hm];unfold wY;rw[if_neg hni];rfl
 ·rintro env s ⟨ms,v,rfl,rfl,hm⟩
  ac_nf
  exact q
theorem ztC {f:ac}{fd:bu}(M:Mo w K mg)(F:yA K 17#1 17#1 dQ f fd):zM P w K mg base zY 1 f fd [73#1,"taken"] (zX K zw9):=by
 refine x5 0 F zwm (λxs st Q h=>by obtain⟨r,i,kvs,n,rfl,_⟩:=h;rfl) ⟨_,λzr A outer s H E hr=>(z9 (zZ (tF (oQ hr) 3#2 (qv 1) 4#0) (zD p8) yC)
   (zD (zZ (qc 3#10 3#2 zG) (z9 (zZ (mY (qx hr (qv 1) 3#2)) (zD p8) yC)
   (zD (uL tB (sZ hr (qv 1) 3#2)))) yC))),λxs st Q h=> ?_⟩
 obtain⟨r,i,kvs,n,rfl,hi,hl,h⟩:=h;have hin: ∀{Q:K3},xQ true (.str n) (.obj i) st Q=Q (.bl (!(zH kvs (.inr n)).isSome)) st:=λ{Q} =>by
  unfold xQ uN rN;dsimp only;rw[hi]
  rfl
 have big:(1000:Nat) < ak:=by rw[di];decide
 rcases h with⟨rfl,hv,q⟩ | ⟨rfl,⟨b,hv⟩,q⟩
 ·have e1:((31#1 :Str)== 31#1)=true:=1#0
  unfold Rh.pv;symm;simp? only[hin,hv];simp? only[e1];symm;simp? only[hi,hv];exact⟨0#0,q⟩
 ·have e1:((28#1 :Str)== 31#1)=false:=1#0
  unfold Rh.pv;symm;simp? only[hin,hv];simp? only[e1];exact q
theorem zmF {f:ac}{fd:bu}(M:Mo w K mg)(F:yA K 41#1 41#1 dR f fd):zM P w K mg base zY 1 f fd ["S",33#1,"fitting"] (zX K zw_):=by
 refine x5 0 F zwn (λxs st Q h=>by obtain⟨S,fit,mn,rfl,_⟩:=h;rfl) ⟨_,λzr A outer s H E hr=>(z9 (zZ (tF (oQ hr) (qv 0) (qv 1) 4#0) (zD p8) yC)
   (zD (zZ (tF (oQ hr) (qx hr (qv 1) (qv 0)) (qv 2) 4#0) (zD p8) yC))),λxs st Q h=> ?_⟩
 obtain⟨S,fit,mn,rfl,⟨kd,hv,hk⟩,q⟩:=h;have e:xD (.str kd) (fit.map PV.str)=true:=by rw[oM];exact decide_eq_true hk
 have fs:xM (.str kd)=true:=rfl;symm;simp? only[zm0,hv];simp? only[zte,zhv,hv,e,fs];exact q
theorem zmG {f:ac}{fd:bu}(M:Mo w K mg)(F:yA K 40#1 40#1 dS f fd)(nU:xI K fd ["term",33#1] [])(mN:mg 40#1 =some 2#8): ∀d,zM P w K mg base zY (d+2) f fd ["term",33#1] (zX K (c0 d))
 | 0=>⟨λvs H Q E h=>(znO h).elim,λA outer s H args us vs Q E _ _ _ _ h=>(znO h).elim⟩
 | d+1=>by
  have IH:zM P w K mg base zY (d+2) f fd ["term",33#1] (zX K (c0 d)):=zmG M F nU mN d;obtain⟨_,_,zgY,zqp,zsH⟩:=M.terms_in;have zp0:= @ztL P w K mg base _ _ M zgY;obtain⟨_,_,lX,a7,zfe⟩:=M.look_at_shelf;have bA:= @zmF P w K mg base _ _ M lX;have lY:=F;obtain⟨aMT,uMT,mMT,dMT,vMT⟩:=M.MT;refine x5 0 F zn9 (λxs st Q h=>by obtain⟨x,mn,rfl,_⟩:=h;rfl) ⟨_,λzr A outer s H E hr=>have hr1:zI 1 _:=hr.mono 0#0;(z9 (zZ (zv3 4#0 mMT dMT vMT 3#2 4#0) (zD (xH (qk bA hr1 zfe lX a7 (z3 3#2 (z3 (qv 1) (z3 (znh 4#0 mMT dMT vMT 3#2 (λ_ _=>rfl)) z7)))))) yC)
   (zD (u0 dy rfl (wH (qk zp0 hr1 zsH zgY zqp 1#10)) (qn 2 zn9.nd) (zD (xH (qk IH hr mN lY nU (z3 (qv 2) 4#11))))))),λxs st Q h=> ?_⟩
  obtain⟨x,mn,rfl,hx,hd,q⟩:=h;refine tG (λenv s=>env= [some (xA x),some (.dct mn),none]/\s=st) (λN hN=> ?_) ?_
  ·by_cases hl: ∃l,x= .lf l
   ·obtain⟨l,rfl⟩:=hl
    obtain⟨k,more,e,hv,_⟩:=zma l;have e':xA (.lf l)= .tup (.str k:: .str l.nm::more):=e;have hN':=hN _ st ⟨rfl,rfl⟩;rw[e']at hN'⊢
    have hs:(zH kX (.inr k)).isSome=true:=by rw[hv];rfl
    simp? only[zid,hs];refine zlU hv ?_
    ac_nf
    exact⟨_,_,_,rfl,hx,hN'⟩
   ·obtain⟨k,more,e,hv⟩:=zsX (x:=x) λl z=>hl ⟨l,z⟩
    have hN':=hN _ st ⟨rfl,rfl⟩;rw[e]at hN'⊢
    have hs:(zH kX (.inr k)).isSome=false:=by rw[hv];rfl
    simp? only[zid,hs];exact hN'
  ·rintro env s ⟨rfl,rfl⟩
   ac_nf
   refine⟨x,rfl,?_⟩
   ac_nf
   refine vZ (λk env s'=>(∃v,env= [some (xA x),some (.dct mn),v])/\s'=s) ⟨⟨none,rfl⟩,rfl⟩ ?_ ?_
   ·rintro k y env s' hy ⟨⟨v,rfl⟩,rfl⟩
    obtain⟨z,hz,rfl⟩:=wC hy;obtain⟨h1,h2⟩:=Tm.kid_ok hx (au.mpr ⟨k,hz⟩)
    ac_nf
    exact⟨z,mn,rfl,h1,0#0,⟨_,rfl⟩,rfl⟩
   ·rintro env s' ⟨⟨v,rfl⟩,rfl⟩
    ac_nf
    exact q
theorem ztA {f:ac}{fd:bu}(M:Mo w K mg)(F:yA K 43#1 43#1 dO f fd):zM P w K mg base zY 10 f fd [73#1,33#1] (zX K znL):=by
 obtain⟨_,_,zgL,zqa,zs1⟩:=M.deed_of;have zpo:= @zt4 P w K mg base _ _ M zgL;obtain⟨_,_,cV,zh7,zmr⟩:=M.shelf_of;have zhf:= @ztJ P w K mg base _ _ M cV;obtain⟨_,_,cW,zh8,zms⟩:=M.term_of;have zhg:= @ztK P w K mg base _ _ M cW;obtain⟨zrr,zrn,lY,nU,mN⟩:=M.look_at_term;have zhd:zM P w K mg base zY 9 zrr zrn ["term",33#1] (zX K (c0 7)):=zmG M lY nU mN 7;obtain⟨_,_,lX,a7,zfe⟩:=M.look_at_shelf;have bA:= @zmF P w K mg base _ _ M lX;obtain⟨aMD,uMD,mMD,dMD,vMD⟩:=M.MD;refine x5 0 F zn8 (λxs st Q h=>by obtain⟨r,mn,rfl,_⟩:=h;rfl) ⟨_,λzr A outer s H E hr=>have hr1:zI 1 _:=hr.mono 2#0;have hr9:zI 9 _:=hr.mono 2#0;(z9 (zZ (qc 3#10 3#2 zG) (zD (xH (qk zhd hr9 mN lY nU (z3 3#2 4#11)))) yC)
   (z9 (qz 2 zn8.nd (qk zpo hr1 zs1 zgL zqa 1#10))
   (z9 (zZ (qc j0 (qk zhf hr1 zmr cV zh7 4#8) uK) (zD (xH (qk bA hr1 zfe lX a7 (z3 (qk zhf hr1 zmr cV zh7 4#8) (z3 (qv 1) (z3 (znh 4#0 mMD dMD vMD 9#13 (λ_ _=>rfl)) z7)))))) yC)
   (zD (zZ (qc j0 (qk zhg hr1 zms cW zh8 4#8) uK) (zD (xH (qk zhd hr9 mN lY nU (z3 (qk zhg hr1 zms cW zh8 4#8) 4#11)))) yC))))),λxs st Q h=> ?_⟩
 obtain⟨r,mn,rfl,⟨hg,hn,ht⟩,q⟩:=h;have w1:(("when" :Str)== "when")=true:=1#0
 refine tG (λenv s=>env= [some r.pv,some (.dct mn),none]/\s=st) (λN hN=> ?_) ?_
 ·have hN':=hN _ st ⟨rfl,rfl⟩
  obtain⟨g,d⟩:=r;cases g with
  | none=>
   obtain⟨k,more,e,k1,k2⟩:=d.form2;have e':Rw.pv (none,d)= .tup (.str k::more):=e;rw[e']at hN'⊢
   simp? only[k1];exact hN'
  | some x=>
   obtain⟨h1,h2⟩:=hg x rfl;have e':Rw.pv (some x,d)= .tup 1#18:=rfl;rw[e']at hN'⊢
   simp? only[w1];exact⟨x,mn,rfl,h1,h2,hN'⟩
 rintro env s ⟨rfl,rfl⟩;symm
 ac_nf
 refine⟨.pl r,rfl,?_⟩;have e0:dvP (Rh.pl r).deed=r.2.pv:=rfl;rw[e0];obtain⟨d,ed⟩: ∃d,r.2=d:=⟨_,rfl⟩;rw[ed]at hn ht⊢
 ac_nf
 refine tG (λenv s'=>env= [some r.pv,some (.dct mn),some d.pv]/\s'=s) (λN hN=> ?_) ?_
 ·have hN':=hN _ s ⟨rfl,rfl⟩
  ac_nf
  refine⟨d,rfl,?_⟩;cases hd:d.nm with
  | none=>
   unfold fE
   ac_nf
   exact hN'
  | some x=>
   unfold fE
   ac_nf
   refine⟨d,rfl,?_⟩;rw[hd];obtain⟨k,more,e,hv⟩:=zqG hd;unfold fE;rw[e]at hN'⊢
   ac_nf
   refine zlU hv ?_
   ac_nf
   exact⟨_,_,_,rfl,hn x hd,hN'⟩
 rintro env s' ⟨rfl,rfl⟩
 ac_nf
 refine⟨d,rfl,?_⟩;cases hd:d.tm with
 | none=>
  unfold fF
  ac_nf
  exact q
 | some x=>
  obtain⟨k,more,e⟩:=zop x;obtain⟨h1,h2⟩:=ht x hd;have e1:fF (some x)=xA x:=rfl;have hni:u7 (xA x)=false:=by rw[e];rfl
  rw[e1];show if(!u7 (xA x))=true then _ else _
  rw[if_pos (by rw[hni];rfl)]
  ac_nf
  refine⟨d,rfl,?_⟩;rw[hd,e1]
  ac_nf
  exact⟨x,mn,rfl,h1,h2,by show Q PV.non (List.take (List.length s') s');rw[du];exact q⟩
theorem nd4:([4#1,33#1,"hand","taken",73#1,"shelf"]:List Str).Nodup:=1#0
theorem nd5:([4#1,33#1,"?2","taken",73#1,"hand"]:List Str).Nodup:=1#0
theorem ztD {f:ac}{fd:bu}(M:Mo w K mg)(F:yA K 47#1 47#1 lF f fd):zM P w K mg base zY 11 f fd [4#1] (zX K znM):=by
 obtain⟨_,_,zgT,zqj,zs_⟩:=M.look_at_named_hand;have zpw:= @ztC P w K mg base _ _ M zgT;obtain⟨_,_,zgR,zqh,zs8⟩:=M.look_at_doing;have zpu:= @ztA P w K mg base _ _ M zgR;refine x5 0 F jQ (λxs st Q h=>by obtain⟨zj,h0,hs,rfl,_⟩:=h;rfl) ⟨_,λzr A outer s H E hr=>have hr1:zI 1 _:=hr.mono 2#0;have hr10:zI 10 _:=hr.mono 2#0;(z9 (qz 1 jQ.nd (wV (zm3 rfl) 4#0 M.dict nV (z3 (qZ (own:= ["shelf"]) (uY (fsc:=zQ lF) (N:= 2#17) (N':= 2#17) rfl rfl 1#0) rfl (wH 3#2) (λC s H fp zc=>(qn 5 nd4)) 0#10 (λC s H fp zc=>(yN (z3 6#5 (z3 (qx hr 6#5 z6) z7))))) z7)))
   (z9 (qz 3 jQ.nd (wV (ztg rfl) 4#0 M.dict nV (z3 (qZ (own:= ["hand"]) (uY (fsc:=zQ lF) (N:= 2#17) (N':= [4#1,33#1,"?2","taken",73#1]) rfl rfl 1#0) rfl (wH 3#2) (λC s H fp zc=>(qn 5 nd5)) 0#10 (λC s H fp zc=>(yN (z3 6#5 (z3 tB z7))))) z7)))
   (z9 (uL tB (sZ hr (qv 3) (qx hr (qx hr 3#2 z6) z6)))
   (zD (u0 dy rfl (wH 3#2) (qn 2 jQ.nd) (zD (u0 dy rfl (wH 9#13) (qn 4 jQ.nd) (zD (zZ (tF (mR hr) (qx hr (qv 4) z6) (yN 0#11) 4#0) (zD (xH (qk zpw hr1 zs_ zgT zqj (z3 (qv 4) (z3 (qv 3) z7))))) (zD (xH (qk zpu hr10 zs8 zgR zqh (z3 (qv 4) 4#11))))))))))))),λxs st Q h=> ?_⟩
 obtain⟨zj,h0,hs,rfl,O,q⟩:=h;obtain⟨all,zw⟩: ∃all,h0::hs=all:=⟨_,rfl⟩;have h0n:h0.1∈all.map (·.1):=by rw[<- zw];exact aw ..
 have hx0:atI (all.map zW) 0=some (zW h0):=by rw[<- zw];exact wK (j:=0) rfl
 have tails: ∀y∈sH all,y∈all.map (·.1)/\y≠h0.1:=λy hy=>by
  rw[<- zw]at hy⊢
  have h1:=O.st y hy;have h2:=O.hn;rw[av,fg]at h2;exact⟨bf _ h1,λz=>h2.1 (z▸h1)⟩
 obtain⟨sn,sl,hn,hl,rl,Aq,Ag,hjn,hft⟩:=O;rw[zw]at hn hl rl Aq hjn hft⊢
 have ps1:(zj.map λs=>PV.tup [.str s.1,.str s.2.1]).map q9=(t5 zj).map some:=by unfold t5;rw[bx,bx];rfl
 have mg1:u8 [] (t5 zj)=t5 zj:=mM (by rw[jc];unfold t5;rw[bx];exact(bx (f:=λs:Sk=>s.1) (g:=(Sum.inr:Str->z8)))▸kQ sn);have ps2:(all.map λh=>PV.tup [.str h.1,.bl false]).map q9=(qO 5#15).map some:=by unfold qO;rw[bx,bx,bx];rfl
 have mg2:u8 [] (qO 5#15)=qO 5#15:=mM (by rw[jc];unfold qO;rw[bx];exact kQ hn);have big:(1000:Nat) < ak:=by rw[di];decide
 symm;unfold yF
 ac_nf
 refine sQ mnF (λj x e hx he=> ?_) ?_
 ·rw[bx]at hx
  obtain⟨s,hs',rfl⟩:=wC hx;obtain⟨y,rfl⟩:=sB he;show _;unfold Function.comp zV yQ
  ac_nf
  exact CP.yes (e':= [_]) (by rw[bx];exact hx) rfl rfl
 rw[bx,ze6 zj (f:=mnF) (h:=λs=>PV.tup [.str s.1,.str s.2.1]) λs=>rfl];simp? only[fW];refine⟨_,ps1,?_⟩;rw[mg1];symm
 ac_nf
 refine sQ flF (λj x e hx he=> ?_) ?_
 ·obtain⟨h,hh,rfl⟩:=wC hx
  obtain⟨y,rfl⟩:=sB he;unfold zW zV wP
  ac_nf
  exact CP.yes (e':= [_]) hx rfl rfl
 rw[ze6 all (f:=flF) (h:=λh=>PV.tup [.str h.1,.bl false]) λs=>rfl];simp? only[zf3];refine⟨_,ps2,?_⟩;rw[mg2];symm;simp? only[hx0];unfold zW zV wP
 ac_nf
 have hlf:(qO 5#15).length<=8:=by unfold qO;rw[ae,ae];exact hl
 refine⟨0#0,?_⟩;have t0:TK h0.1 5#15 [] (xY (qO 5#15) (.inr h0.1) 6#8):=by
  refine⟨by rw[znd (ze_ h0n)];exact hlf,λn hn'=> ?_⟩;rw[iA];by_cases e:h0.1=n
  ·rw[if_pos (by rw[e]),decide_eq_true (.inl e.symm)]
  ·rw[if_neg λz=>e (jp z),ze_ hn',decide_eq_false λz=>z.elim (λz=>e z.symm) (λz=>by cases z)]
 have i1:xD (.str 31#1) [PV.str 31#1,.str 28#1]=true:=by unfold xD;simp[u6]
 have i2:xD (.str 28#1) [PV.str 31#1,.str 28#1]=true:=by unfold xD;simp[u6]
 have fl: [PV.str 31#1,PV.str 28#1].all xM=true:=rfl;refine vZ (λk env s=> ∃(kvs:List 2#3) (v w:Option PV),env= [some (.tup [.tup (zj.map (zV ∘ yQ)),.tup (all.map zW)]),some (.dct (t5 zj)),v,some 5#2,w]/\s=st++ [.dct kvs]/\TK h0.1 5#15 (sH (all.take k)) kvs) ⟨_,none,none,rfl,rfl,t0⟩ ?_ ?_
 ·rintro k x env s hx ⟨kvs,v,w,rfl,rfl,t⟩
  obtain⟨h,hh,rfl⟩:=wC hx;have hm:h∈all:=au.mpr ⟨k,hh⟩
  ac_nf
  unfold zW zV wP
  ac_nf
  refine vZ (λj env s=> ∃(kvs:List 2#3) (w:Option PV),env= [some (.tup [.tup (zj.map (zV ∘ yQ)),.tup (all.map zW)]),some (.dct (t5 zj)),some (zW h),some 5#2,w]/\s=st++ [.dct kvs]/\TK h0.1 5#15 (sH (all.take k)++(h.2.take j).filterMap Rh.sp) kvs) ⟨kvs,w,rfl,rfl,by rw[zb];simpa using t⟩ ?_ ?_
  ·rintro j y env s hy ⟨kvs,w,rfl,rfl,t⟩
   obtain⟨r,hr,rfl⟩:=wC hy;have hrm:r∈h.2:=au.mpr ⟨j,hr⟩;have An:=pE hr;have kl:=t.len;cases r with
   | split n=>
    have nn:=tails n (fh.mpr ⟨h,hm,cy.mpr ⟨_,hrm,rfl⟩⟩);have hv:zH kvs (.inr n)=some (.bl false):=by
     rw[t.at_ n nn.1,decide_eq_false λz=>z.elim nn.2 (zwM Aq hh hr)]
    unfold Rh.pv
    ac_nf
    simp? only[xQ,uN,xM,i1,fl];refine⟨.split n,st.length,kvs,n,rfl,vQ,0#0,.inl ⟨rfl,hv,?_⟩⟩;rw[o5];refine⟨_,_,rfl,rfl,?_⟩;rw[An,gl,<- bi];exact t.put nn.1
   | join n=>
    have nn:=hjn h hm n hrm;unfold Rh.pv
    ac_nf
    simp? only[xQ,uN,xM,i2,fl];refine⟨.join n,st.length,kvs,n,rfl,vQ,0#0,.inr ⟨rfl,⟨_,t.at_ n nn⟩,?_⟩⟩;refine⟨_,_,rfl,rfl,?_⟩;rw[An,gl];exact(da (List.filterMap Rh.sp (List.take j h.2))).symm▸t
   | pl r=>
    obtain⟨k1,more,e,h1,h2⟩:=zuJ r;have hf:bK (t5 zj) r:=hft h hm _ hrm;have e2:(Rh.pl r).pv=r.pv:=rfl;rw[e2];have go: ∀{Q:K3},Q .non (st++ [.dct kvs])->znL [r.pv,.dct (t5 zj)] (st++ [.dct kvs]) Q:=λ{Q} z=>⟨r,_,rfl,hf,z⟩;rw[e]at go⊢
    ac_nf
    simp? only[xQ,uN,xM,h2,fl];refine go ⟨_,_,rfl,rfl,?_⟩;rw[An,gl];exact(da (List.filterMap Rh.sp (List.take j h.2))).symm▸t
  ·rintro env s ⟨kvs,w,rfl,rfl,t⟩
   rw[ae,ck (ar _)]at t;refine⟨kvs,_,w,rfl,rfl,?_⟩;rw[pE hh];show TK _ _ (List.flatMap _ _) _;rw[kq,List.flatMap_singleton];exact t
 ·rintro env s ⟨kvs,v,w,rfl,rfl,t⟩
  ac_nf
  exact q
theorem nd6:([4#1,"come_to","hand",66#1]:List Str).Nodup:=1#0
theorem ztE {f:ac}{fd:bu}(M:Mo w K mg)(F:yA K 35#1 35#1 jU f fd):zM P w K mg base zY 3 f fd [4#1] (zX K znN):=by
 obtain⟨_,_,lV,bZ,zfb⟩:=M.in_split_order;have b8:= @zmD P w K mg base _ _ M lV;refine x5 0 F zfU (λxs st Q h=>by obtain⟨sh,h0,hs,en,H,rfl,_⟩:=h;rfl) ⟨_,λzr A outer s H E hr=>have hr2:zI 2 _:=hr.mono 2#0;(z9 (qz 1 zfU.nd (wV (zm3 rfl) 4#0 M.dict nV (z3 (qZ (own:= [66#1]) (uY (fsc:=zQ jU) (N:= [4#1,"come_to","hand"]) (N':= [4#1,"come_to","hand"]) rfl rfl 1#0) rfl (wH (qk b8 hr2 zfb lV bZ 1#10)) (λC s H fp zc=>(qn 3 nd6)) 0#10 (λC s H fp zc=>(yN (z3 (qv 3) (z3 tB z7))))) z7)))
   (zD (u0 dy rfl (wH 3#2) (qn 2 zfU.nd) (zD (zZ (tF (oQ hr) 9#13 (qv 1) 4#0) (zD p8) yC))))),λxs st Q h=> ?_⟩
 obtain⟨sh,h0,hs,en,H,rfl,O,G,q⟩:=h;obtain⟨rk,R,h7⟩:=O.rk;obtain⟨all,zw⟩: ∃all,h0::hs=all:=⟨_,rfl⟩;have hl8:=O.hl;have iso: ∀{Q:K3} {st:z5},Q (.tup ((yX (kids Rh.sp all) 8 h0.1).map PV.str)) st->zge [yF sh all] st Q:=λ{Q st} hq=>⟨sh,h0,hs,rk,by rw[zw],O.hn,by rw[bv]at hl8;grobner,R,h7,by rw[zw];exact hq⟩;have reach:=G.re h0 hs rfl;rw[zw]at reach⊢
 symm
 ac_nf
 refine iso ?_
 ac_nf
 refine sQ ctF (λj x e hx he=> ?_) ?_
 ·obtain⟨w,hw,rfl⟩:=wC hx
  obtain⟨y,rfl⟩:=sB he
  ac_nf
  exact CP.yes (e':= [_]) hx rfl rfl
 obtain⟨l,el⟩: ∃l,yX (kids Rh.sp all) 8 h0.1=l:=⟨_,rfl⟩;rw[el]at reach⊢
 rw[ze6 l (f:=ctF) (h:=λw=>PV.tup [.str w,.bl true]) λs=>rfl];simp? only[fW];refine⟨yP l,by unfold yP;rw[bx,bx];rfl,?_⟩;have em:u8 [] (yP l)=yP (l.foldl wY []):=zgt (ms:= []) (ns:=l);rw[em];unfold yF
 ac_nf
 refine vZ (λk env s=> ∃v:Option PV,env= [some 6#10,some (.dct (yP (l.foldl wY []))),v]/\s=st) ⟨none,rfl,rfl⟩ ?_ ?_
 ·rintro k x env s hx ⟨v,rfl,rfl⟩
  obtain⟨h,hh,rfl⟩:=wC hx;have hm:h.1∈l.foldl wY []:=bP.mpr (.inr (reach h.1 (cg (au.mpr ⟨k,hh⟩))));have hv:zH (yP (l.foldl wY [])) (.inr h.1)=some 6#8:=by rw[nF,if_pos hm]
  unfold zW zV wP
  ac_nf
  simp? only[zm0,hv]
  first | exact⟨_,rfl,rfl⟩ | exact⟨_,rfl⟩
 ·rintro env s ⟨v,rfl,rfl⟩
  ac_nf
  exact q
theorem ztB {f:ac}{fd:bu}(M:Mo w K mg){HE C J D I A9 B9:ac}{fj fi:bu}(N:XE K mg HE C J fj D I fi A9 B9)(F:yA K 42#1 42#1 dP f fd):zM P w K mg base (xF P w qP) 5 f fd [4#1] (vM K (zgg C)):=by
 obtain⟨zro,zrk,zgO,zqd,zs4⟩:=M.held_at_ends;have zpr:zM P w K mg base (xF P w qP) 4 zro zrk [4#1] (vM K (zgd C)):=zt7 M N zgO;obtain⟨_,_,zgQ,zqf,zs6⟩:=M.in_order_of_hands;have zpt:= @zt9 P w K mg base _ _ M zgQ;refine j5 0 F zfT (λxs st Q W h=>by obtain⟨sh,h0,hs,en,H,rfl,_⟩:=h;rfl) ⟨λW=>_,λzr A outer s H E W hr hE=>have hr1:zI 1 _:=hr.mono 2#0;have hr4:zI 4 _:=hr.mono 2#0;(z9 (qz 1 zfT.nd (fR zpr hr4 zs4 zgO zqd zfo hE 1#10))
   (z9 (qz 2 zfT.nd (qk zpt hr1 zs6 zgQ zqf (z3 (qv 0) (z3 (qx hr (qv 1) (qx hr (qx hr 3#2 z6) z6)) z7))))
   (zD (zZ (mY (qv 2)) (zD p8) yC)))),λxs st Q W h=> ?_⟩
 obtain⟨sh,h0,hs,en,H,rfl,O,G,q,qw⟩:=h;have hroot:en h0.1= []:=G.root h0 hs rfl;obtain⟨all,zw⟩: ∃all,h0::hs=all:=⟨_,rfl⟩;have hae: ∀{Q:K3} {st:z5},(H=none->∀kvs,(∀w∈all.map (·.1),iF kvs en w)->Q 2#4 st)->zgd C [yF sh all] st Q W:=λ{Q st} hq=>⟨sh,h0,hs,en,H,by rw[zw],O,G,by rw[zw];exact hq,qw⟩;have h0n:h0.1∈all.map (·.1):=by rw[<- zw];exact aw ..
 have hx0:atI (all.map zW) 0=some (zW h0):=by rw[<- zw];exact wK (j:=0) rfl
 rw[zw];symm
 ac_nf
 refine hae λhH kvs hk=> ?_;obtain⟨ns,hv,hm,hl⟩:=hk _ h0n;have hns:ns= []:=List.eq_nil_iff_forall_not_mem.mpr λx hx=>by
  have:=(hm.2 x).mp hx;rw[hroot]at this;cases this
 subst hns;symm;unfold yF;simp? only[hx0];unfold zW zV wP;simp? only[hv];refine⟨sh,all,[],rfl,?_⟩;have e:(all.map (·.1)).filter (λn=>decide (n∈([]:List Str)))= []:=List.filter_eq_nil_iff.mpr λx _ z=>by simp at z
 rw[e]
 ac_nf
 exact q hH
theorem zmE {f:ac}{fd:bu}(M:Mo w K mg){HE C J D I A9 B9:ac}{fj fi:bu}(N:XE K mg HE C J fj D I fi A9 B9)(F:yA K "look" "look" dN f fd):zM P w K mg base (xF P w qP) 12 f fd [4#1] (vM K (c3 C)):=by
 obtain⟨_,_,cT,zh4,zmp⟩:=M.look_for_twice;have zhe:= @ztF P w K mg base _ _ M cT;obtain⟨_,_,zgU,zqk,zsA⟩:=M.look_at_rows;have zpx:= @ztD P w K mg base _ _ M zgU;obtain⟨_,_,zgV,zql,zsB⟩:=M.look_at_splits;have zpy:= @ztE P w K mg base _ _ M zgV;obtain⟨zrq,zrm,zgS,zqi,zs9⟩:=M.look_at_joins;have zpv:zM P w K mg base (xF P w qP) 5 zrq zrm [4#1] (vM K (zgg C)):=ztB M N zgS;refine j5 0 F zwl (λxs st Q W h=>by obtain⟨zj,h0,hs,en,H,rfl,_⟩:=h;rfl) ⟨λW=>_,λzr A outer s H E W hr hE=>have hr1:zI 1 _:=hr.mono 2#0;have hr3:zI 3 _:=hr.mono 2#0;have hr5:zI 5 _:=hr.mono 2#0;have hr11:zI 11 _:=hr.mono 2#0;(z9 (xH (qk zhe hr1 zmp cT zh4 (z3 3#2 z7)))
   (z9 (zZ (zv4 (mY 3#2)) (zD p8) yC)
   (z9 (xH (qk zhe hr1 zmp cT zh4 (z3 3#2 z7)))
   (z9 (xH (qk zpx hr11 zsA zgU zqk 1#10))
   (z9 (xH (qk zpy hr3 zsB zgV zql 1#10))
   (z9 (xH (fR zpv hr5 zs9 zgS zqi zfo hE 1#10))
   (zD (y2 tB)))))))),λxs st Q W h=> ?_⟩
 obtain⟨zj,h0,hs,en,H,rfl,L,O,G,q,qw⟩:=h;have c1:(yF 3#8 (h0::hs))= .tup [.tup ((zj.map yQ).map zV),.tup (((h0::hs).map wP).map zV)]:=by unfold yF;rw[bx (l:=h0::hs)];rfl
 have s1:((zj.map yQ).map (·.1)).Nodup:=by rw[bx];exact L.sn
 have s2:(((h0::hs).map wP).map (·.1)).Nodup:=by rw[zl5];exact L.hn
 have z1:(zj.map yQ).length<=1000:=by rw[ae];have:=L.sl;grobner
 have z2:((h0::hs).map wP).length<=1000:=by rw[ae];have:=L.hl;grobner
 have emp:(List.map zV (List.map wP (h0::hs))).isEmpty=false:=rfl;obtain⟨p,ep⟩: ∃p,yF 3#8 (h0::hs)=p:=⟨_,rfl⟩;have g1: ∀{Q:K3} {st:z5},Q .non st->znM [p] st Q:=λ{Q st} z=>⟨zj,h0,hs,by rw[ep],L,z⟩;have g2: ∀{Q:K3} {st:z5},Q .non st->znN [p] st Q:=λ{Q st} z=>⟨_,h0,hs,en,H,by rw[ep],O,G,z⟩;have g3: ∀{Q:K3} {st:z5},(H=none->Q .non st)->zgg C [p] st Q W:=λ{Q st} z=>⟨_,h0,hs,en,H,by rw[ep],O,G,z,qw⟩;rw[ep]at c1⊢
 rw[c1]at g1 g2 g3⊢
 symm
 ac_nf
 refine⟨_,rfl,s1,z1,?_⟩;symm;simp? only[emp];symm
 ac_nf
 refine⟨_,rfl,s2,z2,?_⟩;symm
 ac_nf
 refine g1 ?_;symm
 ac_nf
 refine g2 ?_;symm
 ac_nf
 refine g3 λhH=> ?_
 ac_nf
 exact q hH
theorem nd7:([4#1,"H","k","rows","turned","hands",84#1,73#1]:List Str).Nodup:=1#0
theorem nd8:([4#1,"H","k","rows","turned","hands",84#1,"hand"]:List Str).Nodup:=1#0
theorem zmC {f:ac}{fd:bu}(M:Mo w K mg){HE C J D I A9 B9:ac}{fj fi:bu}(N:XE K mg HE C J fj D I fi A9 B9)(F:yA K 68#1 68#1 n9 f fd):zM P w K mg base (xF P w gW) 13 f fd [4#1,"H","k"] (vM K (dY D)):=by
 obtain⟨_,_,zgN,zqc,zs3⟩:=M.hand_named;have zpq:= @zt6 P w K mg base _ _ M zgN;obtain⟨zeC,ze4,lW,a6,zfd⟩:=M.look;have b9:zM P w K mg base (xF P w qP) 12 zeC ze4 [4#1] (vM K (c3 C)):=zmE M N lW;have GJ:= @ztI P w K mg base _ _ _ _ _ _ _ _ _ N;have GR:= @zrB P w K mg base _ _ _ _ _ _ _ _ _ N;refine j5 0 F jO (λxs st Q W h=>by obtain⟨zj,h0,hs,h,kk,rfl,_⟩:=h;rfl) ⟨λW=>_,λzr A outer s H E W hr hE=>have hr2:zI 2 _:=hr.mono 2#0;have hr1:zI 1 _:=hr.mono 2#0;have hr2:zI 2 _:=hr.mono 2#0;have hr12:zI 12 _:=hr.mono 2#0;(z9 (qz 3 jO.nd (qx hr (qk zpq hr2 zs3 zgN zqc (z3 (qv 0) 4#11)) z6))
   (z9 (zZ (PW.pt (pZ (qc pW (qv 2) z6) (jA (qc (qW hr) (qZ (own:= [73#1]) (uY (fsc:=zQ n9) (N:= 3#5) (N':= 3#5) rfl rfl 1#0) rfl (wH (vB (qv 3) (wM (qv 2)) (wM 8#13))) (λC s H fp zc=>(qn 7 nd7)) 0#10 (λC s H fp zc=>(qx hr (qv 7) z6))) (tD 0#11))))) (zD (zvz N.top N.nt N.nti GJ hr2 N.gt N.tb zgs trivial hE rfl)) yC)
   (z9 (fU (i:=4) jO.nd rfl (Or.inr rfl) (zN yO (zN yO (vB (qv 3) vK (wM (qv 2))) (yN (z3 (qx hr (qv 3) 8#13) (z3 (qx hr (qv 3) (qv 2)) z7)))) (vB (qv 3) (wM 8#13) vK)))
   (z9 (zf2 (i0:=5) (own:= ["hand"]) (uY (fsc:=zQ n9) (N:= 3#5) (N':= 3#5) rfl rfl 1#0) jO.nd rfl 9#16 rfl (wH 3#2) (λC s H fp zc=>(qn 7 nd8)) 0#10 (λC s H fp zc=>(yN (z3 (qx hr (qv 7) z6) (z3 (zvn (qc 3#10 (qx hr (qv 7) z6) (qv 1)) (qv 4) (qx hr (qv 7) z6)) z7)))))
   (z9 (qz 6 jO.nd (yN (z3 3#2 (z3 (wV qY 4#0 M.tuple qK 1#14) z7))))
   (z9 (zvu (X:=vY (xF P w gW) P w K mg base 3#5 68#1 (zQ n9) f zr A outer s H E) (G:=xN K HE) (λ_ z=>z) b9 hr12 zfd lW a6 (λEE=>(z3 (qv 6) z7)) N.head N.gh N.top N.nt N.nti GR hr1 N.gt N.tb zgs (λ_=>trivial) hE (λ_=>PassesOwnAt.leaving) rfl rfl rfl)
   (zD (y2 (qv 6))))))))),λxs st Q W h=> ?_⟩
 obtain⟨zj,h0,hs,h,kk,rfl,hh,O,q⟩:=h;obtain⟨all,zw⟩: ∃all,h0::hs=all:=⟨_,rfl⟩;have big:(1000:Nat) < ak:=by rw[di];decide
 have AA:=O.rl h hh;have hl8:=O.hl;obtain⟨p,ep⟩: ∃p,yF 3#8 (h0::hs)=p:=⟨_,rfl⟩;have ep2:p= .tup [.tup ((zj.map yQ).map zV),.tup (all.map zW)]:=by rw[<- ep,<- zw];rfl
 rw[ep];symm
 ac_nf
 refine⟨zj.map yQ,h0::hs,h,by rw[ep],O.hn,hh,?_⟩;unfold zW zV wP
 ac_nf
 have two: ∀k:Nat,kk=k->xW 5#4 (some kk) (some (kk+2))=((h.2.drop k).take 2).map Rh.pv:=λk e=>by
  rw[e,show((k:Int)+2)=((k+2:Nat):Int)from rfl,zqA,<- kg,<- pp,za,show k+2 - k=2 by grobner]
 refine tG (λenv s=> ∃(k:Nat) (a b:Str) (en:Str->List Str) (H:Option Str),env= [some p,some (.str h.1),some (.int kk),some (.tup 5#4),none,none,none]/\s=st/\kk=k/\JJ h.2 k a b/\Lk zj (y8 h.1 k h0) (hs.map 7#5) en H/\(H=none->Q (yF 3#8 9#15) st)/\(∀x,H=some x->W D none)) (λN hN=> ?_) ?_
 ·by_cases hk:kk < 0
  ·have hd:decide (kk < 0)=true:=decide_eq_true hk
   simp? only[hd];rcases q with⟨_,q⟩ | ⟨k,a,b,en,H,e,_⟩
   ·exact q
   ·grobner
  ·have hd:decide (kk < 0)=false:=decide_eq_false hk
   obtain⟨k,ek⟩: ∃k:Nat,kk=k:=⟨kk.toNat,0#0⟩;have t2:=two k ek;simp? only[hd,t2];refine sQ zl4 (λj x e hx he=> ?_) ?_
   ·obtain⟨r,hr,rfl⟩:=wC hx
    obtain⟨y,rfl⟩:=sB he;obtain⟨more,e,_⟩:=mG r;rw[e]at hx⊢
    ac_nf
    exact CP.yes (e':= [_]) hx rfl rfl
   rw[zr1];have tj:=zx7 (rs:=h.2) (k:=k);have ee: ∀a b:List PV,yB (.lst a) (.lst b)=eqPs a b:=λa b=>by simp only[u6]
   rw[ee]at tj;have dp:dpts (((h.2.drop k).take 2).map λr=>PV.str r.kd)<=49:=bh (aI (f:=λr:Rh=>PV.str r.kd) (n:=0) (λr=>by simp[kL]) _) 2#0;cases hb:eqPs (((h.2.drop k).take 2).map λr=>PV.str r.kd) [.str 28#1,.str 28#1]with
   | true=>
    obtain⟨a,b,J⟩:=tj.mp hb;simp? only[hb];refine⟨dp,?_⟩;rcases q with⟨q,_⟩ | ⟨k',a',b',en,H,e,J',L,q1,q2⟩
    ·exact absurd J (q k a b ek)
    ·have:k'=k:=0#0
     subst this;exact hN _ _ ⟨k',a',b',en,H,rfl,rfl,e,J',L,q1,q2⟩
   | false=>
    simp? only[hb];refine⟨dp,?_⟩;rcases q with⟨_,q⟩ | ⟨k',a',b',en,H,e,J',L,q1,q2⟩
    ·exact q
    ·have:k'=k:=0#0
     subst this;rw[tj.mpr ⟨a',b',J'⟩]at hb;cases hb
 rintro env s ⟨k,a,b,en,H,rfl,rfl,rfl,J,L,q1,q2⟩;obtain⟨A,B,e1,hlA,htA,hdB,e2⟩:=J.parts;have i0:atI 5#4 (k:Int)=some (Rh.join a).pv:=wK (by rw[br,J.1];rfl);have i1:atI 5#4 ((k:Int)+1)=some (Rh.join b).pv:=by rw[show(k:Int)+1=((k+1:Nat):Int)from rfl];exact wK (by rw[br,J.2];rfl)
 have c1:xW 5#4 none (some (k:Int))=A.map Rh.pv:=by rw[pM,<- kg,htA]
 have c2:xW 5#4 (some ((k:Int)+2)) none=B.map Rh.pv:=by rw[show(k:Int)+2=((k+2:Nat):Int)from rfl,gF,<- pp,hdB]
 have lAB:A.length+2+B.length<=30:=by rw[e1]at AA;simp only[am,bv]at AA;grobner
 have ej: ∀y,(Rh.join y).pv= .tup [.str 28#1,.str y]:=λy=>rfl;symm;simp? only[i0,i1,c1,c2,ej,ae];refine⟨0#0,by first | grobner | (simp only[am,ae,bv,jm];grobner),?_⟩;have et:A.map Rh.pv++ [PV.tup [.str 28#1,.str b],.tup [.str 28#1,.str a]]++B.map Rh.pv=(vN k h.2).map Rh.pv:=by rw[e2];simp[Rh.pv]
 have et2:A.map Rh.pv++PV.tup [.str 28#1,.str b]:: .tup [.str 28#1,.str a]::B.map Rh.pv=(vN k h.2).map Rh.pv:=by rw[e2];simp[Rh.pv]
 try rw[et]
 try rw[et2]
 try(rw[bi];first | rw[et2] | skip)
 symm;rw[ep2]
 ac_nf
 refine sQ (lO h.1 (.tup ((vN k h.2).map Rh.pv))) (λj x e hx he=> ?_) ?_
 ·obtain⟨g,hg,rfl⟩:=wC hx
  obtain⟨y,rfl⟩:=sB he;unfold zW zV wP at hx⊢
  ac_nf
  by_cases e:g.1=h.1
  ·have hb:(g.1==h.1)=true:=beq_iff_eq.mpr e
   simp? only[hb];exact CP.yes (e':= [_]) hx (by unfold lO;dsimp only;rw[if_pos e]) rfl
  ·have hb:(g.1==h.1)=false:=by simpa using e
   simp? only[hb];exact CP.yes (e':= [_]) hx (by unfold lO;dsimp only;rw[if_neg e]) rfl
 rw[zxw (zw▸O.hn) (zw▸hh)];symm
 ac_nf
 have epg:PV.tup [.tup ((zj.map yQ).map zV),.tup ((all.map 7#5).map zW)]=yF 3#8 (y8 h.1 k h0::hs.map 7#5):=by rw[<- zw];rfl
 have epg2:yF 3#8 9#15=yF 3#8 (y8 h.1 k h0::hs.map 7#5):=rfl;symm
 ac_nf
 rw[epg];cases H with
 | none=>
  refine .inl ⟨zj,_,_,en,none,rfl,L.l,L.o,L.x,λ_=> ?_,λx y z=>by cases z⟩
  ac_nf
  exact q1 rfl
 | some x=>exact .inr ⟨by simp only[tupVs,zos L.tv,sy],⟨zj,_,_,en,some x,rfl,L.l,L.o,L.x,(λz=>by cases z),λx y z=>N.nh⟩,q2 x rfl⟩
theorem zm9 {f:ac}{fd:bu}(M:Mo w K mg)(F:yA K "_law_box" "_law_box" eO f fd):zM P w K mg base zY 1 f fd [8#1,25#1] (zX K zw3):=by
 refine x5 1 F jK (λxs st Q h=>by obtain⟨ns,k,rfl,_⟩:=h;rfl) ⟨_,λzr A outer s H E hr=>(z9 (qz 2 jK.nd (zN yO (zN rY z6 (qv 1)) z6))
   (z9 (zZ (qc pW (qv 1) (wG wL 4#0 M.len dn 1#10)) (zD (qz 2 jK.nd (qx hr (qv 0) (qv 1)))) (zD (zZ (qc sD (wG wL 4#0 M.len dn 1#10) z6) (zD (qz 2 jK.nd (zN yO (qv 2) (zN rY (zN rX (qx hr (qv 0) (zN rX (qv 1) (wG wL 4#0 M.len dn 1#10))) z6) z6)))) yC)))
   (z9 (qz 3 jK.nd (zN yO (zN rX (zN yO (zN rY (zN rX (qv 2) z6) z6) (zN rY z6 (qv 1))) z6) z6))
   (zD (y2 (qB (z3 (zN rY (qv 2) (wV mS 4#0 M.int nW (z3 (pY zfi (qv 2) (zN ztn z6 z6) (qV _)) z7))) (z3 (qv 3) z7)))))))),λxs st Q h=> ?_⟩
 obtain⟨ns,k,rfl,hl,hk,q⟩:=h
 simp_all? only[ae]
 have bit: ∀c:Int,-18446744073709551616 < 7#11/\7#11 < 18446744073709551616:=λc=>by split <;> exact⟨2#0,2#0⟩
 have fin: ∀c:Int,yE (c * 7#11) ((c % 2147483629 * 48271+40692 * k) % 2147483629+1):=λc=>by
  refine⟨?_,0#0,0#0⟩
  split
  ·rename_i h
   have:=of_decide_eq_true h;grobner
  ·grobner
 refine zeN (λh=> ?_) (λh=>zeN (λh2=> ?_) (λh2=> ?_))
 ·obtain⟨z,_,ez⟩:=nR PV.int (ns:=ns) hk (of_decide_eq_true h)
  simp_all? only[ez]
  exact⟨aB,.inr (bit z),q _ _ (fin z)⟩
 ·have hp:(0:Int) < ns.length:=of_decide_eq_true h2
  obtain⟨z,_,ez⟩:=nR PV.int (ns:=ns) (k:=k % ns.length) (qt _ 0#0) (ow _ hp)
  simp_all? only[ez]
  exact⟨hp,aB,.inr (bit _),q _ _ (fin _)⟩
 ·exact⟨aB,.inr (bit _),q _ _ (fin _)⟩
theorem tQ {f:ac}{fd:bu}(M:Mo w K mg)(F:yA K 78#1 78#1 dC f fd):zM P w K mg base zY 1 f fd [0#1,21#1] (zX K znQ):=by
 refine x5 0 F zfR (λxs st Q h=>by obtain⟨i,many,a,b,rfl,_⟩:=h;rfl) ⟨_,λzr A outer s H E hr=>(z9 (zZ (qc sD 3#2 z6) (z9 (qz 2 zfR.nd (zN rX 3#2 (qv 1)))
   (z9 (uL (zN fC 3#2 (qv 1)) (sZ hr (qv 0) z6))
   (zD (y2 (qv 2))))) yC)
   (z9 (qz 3 zfR.nd (zN rX (zN rY 3#2 z6) z6))
   (z9 (uL (zN yO (zN rX (zN yO (zN rY (qv 3) z6) z6) z6) z6) (sZ hr (qv 0) z6))
   (zD (y2 (zN rX (zN fC (zN yO (zN rY (qv 3) z6) 3#2) z6) (qv 1))))))),λxs st Q h=> ?_⟩
 obtain⟨i,many,a,b,rfl,hi,⟨ha,hb,hb2⟩,hm,hm2,q⟩:=h
 simp_all? only[hi]
 refine zeN (λh=> ?_) (λh=> ?_)
 ·exact⟨hm,⟨hm,hm2⟩,q _ _ _ (qt _ 0#0) (ow _ hm) ⟨Int.ediv_nonneg ha 0#0,hb,hb2⟩⟩
 ·exact⟨hm,q _ _ _ (qt _ 0#0) (ow _ hm) ⟨ha,0#0,0#0⟩⟩
theorem nd9:([0#1,21#1,"_law_letters","?3","_law_common",44#1,"_law_first","_law_longer",26#1,69#1,"_law_own",25#1]:List Str).Nodup:=1#0
theorem zt3 {f:ac}{fd:bu}(M:Mo w K mg)(F:yA K 63#1 63#1 jI f fd):zM P w K mg base zY 2 f fd [0#1,21#1] (zX K zwL):=by
 obtain⟨_,_,zS,y4,y6⟩:=M._law_take;have y3:= @tQ P w K mg base _ _ M zS;refine x5 0 F tT (λxs st Q h=>by obtain⟨i,many,a,b,rfl,_⟩:=h;rfl) ⟨_,λzr A outer s H E hr=>have hr1:zI 1 _:=hr.mono 2#0;(z9 (fU (i:=2) tT.nd rfl (Or.inr rfl) zG)
   (z9 (qz 4 tT.nd (vA PySem.F.plainAttrs_str PySem.F.slot_str_join PySem.F.type_str_join 2#0 ztj zG (z3 (qZ (own:= [25#1]) (uY (fsc:=zQ jI) (N:= [0#1,21#1,"_law_letters",25#1,"_law_common",44#1,"_law_first","_law_longer",26#1,69#1,"_law_own"]) (N':= [0#1,21#1,"_law_letters","?3","_law_common",44#1,"_law_first","_law_longer",26#1,69#1,"_law_own"]) rfl rfl 1#0) rfl (mX 4#0 M.range (z3 2#2 z7)) (λC s H fp zc=>(qn 11 nd9)) 0#10 (λC s H fp zc=>(qx hr (qv 2) 2#2))) z7)))
   (z9 (qz 5 tT.nd (qk y3 hr1 y6 zS y4 (z3 (qv 0) (z3 (zN yO (wG wL 4#0 M.len dn 6#16) z6) z7))))
   (z9 (qz 6 tT.nd 2#2)
   (z9 (qz 7 tT.nd 2#2)
   (z9 (qz 8 tT.nd (qB z7))
   (z9 (u0 dy rfl (mX 4#0 M.range 4#11) (qn 3 tT.nd) (z9 (qz 9 tT.nd (zN yO (zN yO (vB (qv 4) vK (wM (qv 5))) (qx hr (qv 2) (zN rX (zN yO (qv 6) (zN rY z6 (qv 3))) z6))) (vB (qv 4) (wM (qv 5)) vK)))
   (zD (xH (vA cq dk dm 2#0 tP (qv 8) (z3 (zN yO (qv 9) (zN rY zG (wV mS 4#0 M.int nW (z3 (zvk (pY 3#10 (qv 7) z6 (qV _)) (zvr (pY 3#10 (zN rX (qv 3) z6) z6 (qV _)))) z7)))) z7))))))
   (z9 (qz 10 tT.nd (tD (z3 zG (z3 zG (z3 zG (z3 zG (z3 zG (z3 zG (z3 zG (z3 zG (z3 zG (z3 zG 0#11))))))))))))
   (z9 (qz 10 tT.nd (zN yO (qv 10) (tD (z3 zG (z3 zG (z3 zG (z3 zG (z3 zG (z3 zG (z3 zG (z3 zG (z3 zG 0#11))))))))))))
   (z9 (qz 10 tT.nd (zN yO (qv 10) (tD (z3 zG (z3 zG 0#11)))))
   (z9 (qz 9 tT.nd (qx hr (qv 10) 2#2))
   (z9 (zZ (PW.pt (sE (qc 3#10 2#2 z6) (sF (tF (oQ hr) (qv 9) (qv 8) 4#0)))) (zD (uL (qv 9) (sZ hr (qv 8) (qk y3 hr1 y6 zS y4 (z3 (qv 0) 4#11))))) yC)
   (zD (y2 (qv 8))))))))))))))),λxs st Q h=> ?_⟩
 obtain⟨i,many,a,b,rfl,hi,hb,h0,h10,q⟩:=h;have hil:=(ah.mp hi).1;have zm: ∀{a b:Int},(st.set i 3#3)[i]?=some 3#3:=λ{a b} =>sT hi;have hset2: ∀{a b:Int} {o:PO},(st.set i 3#3++ [o])[i]?=some 3#3:=λ{a b o} =>gU zm;have hput: ∀{a b c d:Int} {o:PO},(st.set i 3#3++ [o]).set i (zA c d)=st.set i (zA c d)++ [o]:=λ{a b c d o} =>by rw[zga (by rw[dq];exact hil),set_set]
 have Ax: ∀{o:PO},(st.set i o).length=st.length:=dq;have Ai: ∀{a b:Int} {o:PO},(st.set i 3#3++ [o])[st.length]?=some o:=λ{a b o} =>by rw[<- Ax (o:=zA a b)];exact vQ
 have hst2: ∀{a b:Int} {o o':PO},(st.set i 3#3++ [o]).set st.length o'=st.set i 3#3++ [o']:=λ{a b o o'} =>by rw[<- Ax (o:=zA a b)];exact o5
 have small_l:((13#1 :Str)).length<=ak:=bh (m:=1000) 1#0 2#0;have Ah: ∀{n:Nat},n<=1000->n<=ak:=λh=>bh h 2#0;symm
 ac_nf
 symm
 ac_nf
 refine⟨i,7,a,b,rfl,hi,hb,2#0,2#0,λd a b d0 d1 hb=> ?_⟩
 ac_nf
 refine⟨⟨0#0,0#0⟩,λk ys env s=> ∃(xs:List Str) (v:Option PV) (a b:Int),ys=xs.map PV.str/\xs.length=k/\(∀x∈xs,x.length<=1/\wX x)/\env= [some (PV.obj i),some (PV.int many),some (PV.str 13#1),none,none,none,none,none,none,none,none,v]/\yE a b/\s=st.set i 3#3,
  ⟨[],none,a,b,rfl,rfl,3#0,rfl,hb,rfl⟩,?_,?_⟩
 ·rintro k x ys env s hx ⟨xs,v,a,b,rfl,hk,hx1,rfl,hb,rfl⟩
  obtain⟨_,rfl⟩:=o4 hx
  ac_nf
  refine⟨i,26,a,b,rfl,zm,hb,2#0,2#0,λe a b e0 e1 hb=> ?_⟩;have hc:=zlZ e0 e1;simp? only[hc];refine⟨small_l,xs++ [⟨#[97+e.toNat]⟩],_,a,b,3#0,by simp[hk],λz hz=> ?_,rfl,hb,rfl⟩;rcases aq.mp hz with hz | hz
  ·exact hx1 z hz
  ·rw[ao.mp hz];exact⟨ar _,zmd 0#0⟩
 rintro ys env s ⟨xs,v,a,b,rfl,hk,hx1,rfl,hb,rfl⟩;rw[p9]at hk;have hsum:(xs.map (·.length)).sum<=1 * xs.length:=zx8 xs 1 λx hx=>(hx1 x hx).1;have hz:(xs.map (·.length)).sum+xs.length * (Str.ofString "").length<=6:=by
  rw[show(Str.ofString "").length=0 by decide+kernel];grobner
 simp? only[zf8];refine⟨xs,rfl,bh hz 2#0,?_⟩;have hcl:(Txt.join (Str.ofString "") xs).length<=6:=bh (zrN _ _) hz;have hlw:wX (Txt.join (Str.ofString "") xs):=zsp (λc hc=>by cases hc) λx hx=>(hx1 x hx).2;generalize Txt.join (Str.ofString "") xs=common at hcl hlw⊢
 ac_nf
 symm
 ac_nf
 refine⟨Ah 0#0,i,_,a,b,rfl,zm,hb,0#0,0#0,λat' a b a0 a1 hb=> ?_⟩
 ac_nf
 symm
 ac_nf
 refine⟨i,26,a,b,rfl,zm,hb,2#0,2#0,λfirst a b f0 f1 hb=> ?_⟩
 ac_nf
 symm
 ac_nf
 refine⟨i,3,a,b,rfl,zm,hb,2#0,2#0,λlg a b g0 g1 hb=> ?_⟩
 ac_nf
 symm
 ac_nf
 symm;simp? only[Ax];obtain⟨A,eA⟩: ∃A:Str,A=Txt.slice common none (some at'):=⟨_,rfl⟩;obtain⟨B,eB⟩: ∃B:Str,B=Txt.slice common (some at') none:=⟨_,rfl⟩;refine⟨⟨0#0,0#0⟩,?_⟩;refine vZ (λk env s=> ∃(ws:List Str) (v3 v9:Option PV),env= [some (PV.obj i),some (PV.int many),some (PV.str 13#1),v3,some (.str common),some (.int at'),some (.int first),some (.int lg),some 5#2,v9,none]/\ws.length=k/\oG A B first ws/\(∀w∈ws,vX w)/\s=st.set i 3#3++ [.lst 6#3])
  ⟨[],none,none,rfl,rfl,λm w hw=>by simp at hw,λw hw=>by simp at hw,rfl⟩ ?_ ?_
 ·rintro k x env s hx ⟨ws,v3,v9,rfl,At,hw,hwo,rfl⟩
  obtain⟨hk2,rfl⟩:=o4 hx;have hc:=zlZ (d:=(first+5 * (0+k)) % 26) (qt _ 2#0) (ow _ 2#0)
  ac_nf
  symm;simp? only[hc];refine⟨Ah 0#0,λl1=>⟨small_l,?_⟩⟩;rw[<- eA]at l1⊢
  have lc:(⟨#[97+((first+5 * 6#15) % 26).toNat]⟩:Str).length=1:=rfl;refine⟨Ah 0#0,Ah 0#0,λl2=> ?_⟩;rw[<- eB]at l2⊢
  refine⟨Ah (by rw[iw];grobner),?_⟩
  ac_nf
  have done: ∀z:Str,z.length<=1->(z.cps.toList.all λc=>decide (c < 16 ^ 8))=true->(A++⟨#[97+((first+5 * 6#15) % 26).toNat]⟩++B).length+z.length<=ak/\ws.length < ak/\∃(ws':List Str) (v3 v9:Option PV),[some (PV.obj i),some (PV.int many),some (PV.str 13#1),some (PV.int (0+k)),some (.str common),some (.int at'),some (.int first),some (.int lg),some 5#2,some (PV.str (A++⟨#[97+((first+5 * 6#15) % 26).toNat]⟩++B)),none]= [some (PV.obj i),some (PV.int many),some (PV.str 13#1),v3,some (.str common),some (.int at'),some (.int first),some (.int lg),some 5#2,v9,none]/\ws'.length=k+1/\oG A B first ws'/\(∀w∈ws',vX w)/\st.set i 3#3++ [PO.lst (ws.map PV.str++ [.str (A++⟨#[97+((first+5 * 6#15) % 26).toNat]⟩++B++z)])]=st.set i 3#3++ [.lst (ws'.map PV.str)]:=λz hz hzl=>by
   refine⟨Ah (by rw[iw,iw];grobner),bp (m:=1000) 0#0 2#0,ws++ [A++⟨#[97+((first+5 * 6#15) % 26).toNat]⟩++B++z],_,_,rfl,by simp[At],hw.snoc At,λw hw'=> ?_,3#0⟩;rcases aq.mp hw' with hw' | hw'
   ·exact hwo w hw'
   ·rw[ao.mp hw']
    exact⟨by rw[iw,iw,iw];have:=l1;have:=l2;grobner,(((eA▸zmf hlw).app (zmd 0#0)).app (eB▸zmf hlw)).app (zeU hzl)⟩
  by_cases gg:lg=1
  ·subst gg
   by_cases o1:6#15 % 2=1
   ·have b1:(6#15 % 2==1)=true:=by simpa using o1
    simp? only[beq_self_eq_true,b1,Ai,hst2,ae];exact done _ 1#0 1#0
   ·have b1:(6#15 % 2==1)=false:=by simpa using o1
    simp? only[beq_self_eq_true,b1,Ai,hst2,ae];exact done _ 1#0 1#0
  ·have gf:(lg==1)=false:=by simpa using gg
   simp? only[gf,Ai,hst2,ae];exact done _ 1#0 1#0
 ·rintro env s ⟨ws,v3,v9,rfl,At,hw,hwo,rfl⟩
  rw[p9]at At;have hnd:=hw.nodup 0#0
  ac_nf
  symm
  ac_nf
  symm
  ac_nf
  refine⟨Ah 2#0,zfY ?_⟩
  ac_nf
  refine⟨Ah 2#0,zfY ?_⟩
  ac_nf
  refine⟨i,27,a,b,rfl,hset2,hb,2#0,2#0,λe a b e0 e1 hb=> ?_⟩;obtain⟨wd,hown,et⟩:=zug e0 e1;have et:atI [PV.str "shelf",.str "hand",.str "set",.str "more",.str "in",.str "out",.str "lay",.str "drop",.str "tell",.str "when",.str 31#1,.str 28#1,.str "last",.str "sum",.str "bag",.str 73#1,.str 84#1,.str "many",.str "long",.str "if",.str "was",.str "mine",.str "yours",.str "house",.str "none",.str "end",.str "story"] e=some (.str wd):=et;simp? only[hput,et];refine tG (λenv s=> ∃(us:List Str) (v3 v9 v10:Option PV) (a b:Int),env= [some (PV.obj i),some (PV.int many),some (PV.str 13#1),v3,some (.str common),some (.int at'),some (.int first),some (.int lg),some 5#2,v9,v10]/\us.Nodup/\(∀w∈us,vX w)/\us.length=ws.length/\yE a b/\s=st.set i 3#3++ [.lst (us.map PV.str)]) (λN hN=> ?_) ?_
  ·ac_nf
   refine⟨i,4,a,b,rfl,hset2,hb,2#0,2#0,λf a b f0 f1 hb=> ?_⟩;simp? only[hput];by_cases hf:f=0
   ·subst hf
    have nin: ∀{Q:K3},xQ true (.str wd) 5#2 (st.set i 3#3++ [.lst 6#3]) Q=Q (.bl (!decide (wd∈ws))) (st.set i 3#3++ [.lst 6#3]):=ztd Ai;simp? only[beq_self_eq_true,nin];by_cases hin:wd∈ws
    ·have hd:decide (wd∈ws)=true:=decide_eq_true hin
     simp? only[hd];exact hN _ _ ⟨ws,_,_,_,a,b,rfl,hnd,hwo,rfl,hb,rfl⟩
    ·have hd:decide (wd∈ws)=false:=decide_eq_false hin
     simp? only[hd];refine⟨i,many,a,b,rfl,hset2,hb,0#0,0#0,λg a b g0 g1 hb=> ?_⟩;obtain⟨n,rfl⟩: ∃n:Nat,g=n:=⟨g.toNat,0#0⟩;have hix:wS ws.length (n:Int)=some n:=zrJ 0#0;simp? only[hput,Ai,hst2,ae,hix];exact hN _ _ ⟨ws.set n wd,_,_,_,a,b,rfl,zta hnd hin n,λw hw=>(List.mem_or_eq_of_mem_set hw).elim (hwo w) λz=>z▸zuh _ hown,dq,hb,by rw[List.map_set]⟩
   ·have nf:(f==0)=false:=by simpa using hf
    simp? only[nf];exact hN _ _ ⟨ws,_,_,_,a,b,rfl,hnd,hwo,rfl,hb,rfl⟩
  ·rintro env s ⟨us,v3,v9,v10,a,b,rfl,hun,huo,hul,hb,rfl⟩
   ac_nf
   rw[show xB st.length Q=xB ((st.set i 3#3).length+0) Q by rw[Ax];rfl,<- Ax (o:=zA a b),gL];exact q us a b 0#0 hun huo hb
theorem zmB {f:ac}{fd:bu}(M:Mo w K mg)(F:yA K 56#1 56#1 eZ f fd):zM P w K mg base zY 2 f fd [0#1] (zX K zwE):=by
 obtain⟨_,_,zS,y4,y6⟩:=M._law_take;have y3:= @tQ P w K mg base _ _ M zS;refine x5 0 F zn6 (λxs st Q h=>by obtain⟨i,a,b,rfl,_⟩:=h;rfl) ⟨_,λzr A outer s H E hr=>have hr1:zI 1 _:=hr.mono 2#0;(z9 (qz 1 zn6.nd 2#2)
   (z9 (zZ (qc pW (qv 1) z6) (zD (y2 2#2)) yC)
   (z9 (zZ (qc 3#10 (qv 1) z6) (zD (y2 (zN qX z6 2#2))) yC)
   (zD (y2 2#2))))),λxs st Q h=> ?_⟩
 obtain⟨i,a,b,rfl,hi,hb,q⟩:=h;have zm: ∀{a b:Int},(st.set i 3#3)[i]?=some 3#3:=λ{a b} =>sT hi;symm
 ac_nf
 refine⟨i,4,a,b,rfl,hi,hb,2#0,2#0,λd a b d0 d1 hb=> ?_⟩;symm
 ac_nf
 by_cases h0:d < 2
 ·rw[if_pos (decide_eq_true h0)]
  exact⟨i,_,a,b,rfl,zm,hb,2#0,2#0,λe a b e0 e1 hb=>by simp? only[true_and];exact q e a b e0 0#0 hb⟩
 rw[if_neg (by simpa using h0)];symm
 ac_nf
 by_cases h1:d=2
 ·subst h1
  simp? only[beq_self_eq_true];refine⟨i,_,a,b,rfl,zm,hb,2#0,2#0,λe a b e0 e1 hb=> ?_⟩
  ac_nf
  exact q _ a b 0#0 0#0 hb
 have n1:(d==2)=false:=by simpa using h1
 simp? only[n1];exact⟨i,_,a,b,rfl,zm,hb,2#0,2#0,λe a b e0 e1 hb=>by simp? only[true_and];exact q e a b e0 e1 hb⟩
theorem zfk {L:Type}{lp:L->PV}{f:ac}{fd:bu}(M:Mo w K mg)(F:yA K 70#1 70#1 dD f fd)(tL:xI K fd 0#9 [])(tO:mg 70#1 =some 2#8): ∀d,zM P w K mg base zY (d+2) f fd 0#9 (zX K ((jZ lp) d))
 | 0=>⟨λvs H Q E h=>(znS h).elim,λA outer s H args us vs Q E _ _ _ _ h=>(znS h).elim⟩
 | d+1=>by
  have IH:zM P w K mg base zY (d+2) f fd 0#9 (zX K ((jZ lp) d)):=zfk M F tL tO d;obtain⟨_,_,zS,y4,y6⟩:=M._law_take;have y3:= @tQ P w K mg base _ _ M zS;obtain⟨_,_,lT,bT,zeW⟩:=M._law_number;have cY:= @zmB P w K mg base _ _ M lT;have tV:=F;refine x5 0 F oZ (λxs st Q h=>by obtain⟨i,ls,room,deep,a,b,rfl,_⟩:=h;rfl) ⟨_,λzr A outer s H E hr=>have hr1:zI 1 _:=hr.mono 0#0;have hr2:zI 2 _:=hr.mono 0#0;(z9 (qz 4 oZ.nd 2#2)
   (z9 (zZ (PW.pt (pZ (qc pW (qv 2) z6) (pZ (qc 3#10 (qv 3) z6) (jA (qc pW (qv 4) z6))))) (z9 (zZ (PW.pt (sE (qc sD (wG wL 4#0 M.len dn 4#11) z6) (sF (qc sD 2#2 z6)))) (zD (y2 (qx hr (qv 1) (qk y3 hr1 y6 zS y4 (z3 (qv 0) (z3 (wG wL 4#0 M.len dn 4#11) z7)))))) yC)
   (zD (y2 (yN (z3 zG (z3 (qk cY hr2 zeW lT bT 1#10) z7)))))) yC)
   (z9 (zZ (PW.pt (sE (qc 3#10 (qv 4) z6) (sF (qc sD (qv 2) z6)))) (z9 (qz 5 oZ.nd (zN fC (zN qX (qv 2) z6) z6))
   (z9 (qz 6 oZ.nd 4#7)
   (z9 (qz 7 oZ.nd 4#7)
   (zD (y2 (yN (z3 zG (z3 (qv 6) (z3 (qv 7) (z3 4#7 z7)))))))))) yC)
   (z9 (qz 8 oZ.nd (zN fC (zN qX (qv 2) z6) z6))
   (z9 (qz 6 oZ.nd (qk IH hr tO tV tL (z3 (qv 0) (z3 (qv 1) (z3 (qv 8) (z3 (zN qX (qv 3) z6) z7))))))
   (zD (y2 (yN (z3 zG (z3 (qx hr zG 2#2) (z3 (qv 6) (z3 (qk IH hr tO tV tL (z3 (qv 0) (z3 (qv 1) (z3 (qv 8) (z3 (zN qX (qv 3) z6) z7))))) z7)))))))))))),λxs st Q h=> ?_⟩
  obtain⟨i,ls,room,deep,a,b,rfl,hi,hb,hlp,AB,d0,dd,q⟩:=h;have zm: ∀{a b:Int},(st.set i 3#3)[i]?=some 3#3:=λ{a b} =>sT hi;symm
  ac_nf
  refine⟨i,5,a,b,rfl,hi,hb,2#0,2#0,λf a b f0 f1 hb=> ?_⟩;symm;refine zlA (b:=decide (room < 3∨deep=0∨f < 2)) (λQ=> ?_) ?_
  ·ac_nf
   by_cases h1:room < 3
   ·simp[h1]
   ·by_cases h2:deep=0
    ·simp[h1,h2]
    ·simp[h1,h2]
  by_cases hz:room < 3∨deep=0∨f < 2
  ·rw[if_pos (decide_eq_true hz)]
   symm;simp? only[ae];by_cases hl:0 < ls.length
   ·have hl':decide ((0:Int) < (ls.length:Int))=true:=decide_eq_true 0#0
    simp? only[hl'];refine⟨i,3,a,b,rfl,zm,hb,2#0,2#0,λe a b e0 e1 hb=> ?_⟩
    ac_nf
    by_cases he:0 < e
    ·rw[if_pos (decide_eq_true he)]
     simp? only[ae];refine⟨i,_,a,b,rfl,zm,hb,0#0,0#0,λg a b g0 g1 hb=> ?_⟩;obtain⟨n,rfl⟩: ∃n:Nat,g=n:=⟨g.toNat,0#0⟩;have hn:n < ls.length:=0#0
     have ha:atI (ls.map lp) (n:Int)=some (lp ls[n]):=wK (by rw[br,bz hn];rfl);simp? only[ha];refine zii (t:= .lf ls[n]) hlp ?_;rw[zxt];exact q (.lf ls[n]) a b (jg hn) d0 hb
    ·rw[if_neg (by simpa using he)]
     ac_nf
     refine⟨i,a,b,rfl,zm,hb,λk a b k0 k1 hb=> ?_⟩
     ac_nf
     exact q (.num k) a b ⟨k0,k1⟩ d0 hb
   ·have hl':decide ((0:Int) < (ls.length:Int))=false:=decide_eq_false 0#0
    simp? only[hl'];refine⟨i,a,b,rfl,zm,hb,λk a b k0 k1 hb=> ?_⟩
    ac_nf
    exact q (.num k) a b ⟨k0,k1⟩ d0 hb
  rw[if_neg (by simpa using hz)];have hd0: ¬ deep=0:=λz=>hz (.inr (.inl z))
  ac_nf
  symm;refine zlA (b:=decide (f=4/\3 < room)) (λQ=> ?_) ?_
  ·ac_nf
   by_cases h1:f=4
   ·subst h1;simp
   ·simp[h1]
  by_cases hc:f=4/\3 < room
  ·rw[if_pos (decide_eq_true hc)]
   symm
   ac_nf
   symm
   ac_nf
   refine⟨i,ls,_,deep - 1,a,b,rfl,zm,hb,hlp,AB,0#0,0#0,λt1 a b k1 r1 hb=> ?_⟩;symm
   ac_nf
   refine⟨i,ls,_,deep - 1,a,b,rfl,zm,hb,hlp,AB,0#0,0#0,λt2 a b k2 r2 hb=> ?_⟩
   ac_nf
   refine⟨i,ls,_,deep - 1,a,b,rfl,zm,hb,hlp,AB,0#0,0#0,λt3 a b k3 r3 hb=> ?_⟩;simp? only[zf1 hlp];exact q (.ite t1 t2 t3) a b ⟨k1,k2,k3⟩ (by show((max t1.rank (max t2.rank t3.rank)+1:Nat):Int)<=deep;grobner) hb
  rw[if_neg (by simpa using hc)]
  ac_nf
  symm
  ac_nf
  symm
  ac_nf
  refine⟨i,ls,_,deep - 1,a,b,rfl,zm,hb,hlp,AB,0#0,0#0,λt1 a b k1 r1 hb=> ?_⟩
  ac_nf
  refine⟨i,5,a,b,rfl,zm,hb,2#0,2#0,λg a b g0 g1 hb=> ?_⟩;obtain⟨c,hc,hs⟩:=zwt g g0 g1;simp? only[hc];refine⟨bh (m:=1000) 1#0 2#0,i,ls,_,deep - 1,a,b,rfl,zm,hb,hlp,AB,0#0,0#0,λt2 a b k2 r2 hb=> ?_⟩;simp? only[zf1 hlp];exact q (.op ⟨#[c]⟩ t1 t2) a b ⟨hs,k1,k2⟩ (by show((max t1.rank t2.rank+1:Nat):Int)<=deep;grobner) hb
theorem zm8 {L:Type}{lp:L->PV}{f:ac}{fd:bu}(M:Mo w K mg)(F:yA K 45#1 45#1 eN f fd):zM P w K mg base zY 10 f fd [0#1,5#1] (zX K (zgc lp)):=by
 obtain⟨_,_,zS,y4,y6⟩:=M._law_take;have y3:= @tQ P w K mg base _ _ M zS;obtain⟨ze0,ze2,tV,tL,tO⟩:=M._law_term;have iO:zM P w K mg base zY 9 ze0 ze2 0#9 (zX K (jZ lp 7)):=zfk M tV tL tO 7;refine x5 0 F zn3 (λxs st Q h=>by obtain⟨i,ls,a,b,rfl,_⟩:=h;rfl) ⟨_,λzr A outer s H E hr=>have hr1:zI 1 _:=hr.mono 2#0;have hr9:zI 9 _:=hr.mono 2#0;(z9 (qz 2 zn3.nd (qx hr (tD (z3 z6 (z3 z6 (z3 z6 (z3 z6 z7))))) 2#2))
   (zD (y2 (qk iO hr9 tO tV tL (z3 (qv 0) (z3 (qv 1) (z3 (qv 2) (z3 (qx hr (tD (z3 z6 (z3 z6 z7))) (wV mS 4#0 M.int nW (z3 (pY 3#10 2#2 z6 (qV _)) z7))) z7)))))))),λxs st Q h=> ?_⟩
 obtain⟨i,ls,a,b,rfl,hi,hb,hlp,AB,q⟩:=h;have zm: ∀{a b:Int},(st.set i 3#3)[i]?=some 3#3:=λ{a b} =>sT hi;symm
 ac_nf
 refine⟨i,4,a,b,rfl,hi,hb,2#0,2#0,λf a b f0 f1 hb=> ?_⟩;obtain⟨r,er⟩: ∃r:Int,atI [PV.int 1,.int 3,.int 7,.int 30] f=some (.int r):=by
  have:f=0∨f=1∨f=2∨f=3:=0#0
  rcases this with rfl | rfl | rfl | rfl
  ·exact⟨1,rfl⟩
  ·exact⟨3,rfl⟩
  ·exact⟨7,rfl⟩
  ·exact⟨30,rfl⟩
 simp? only[er];refine⟨i,4,a,b,rfl,zm,hb,2#0,2#0,λg a b g0 g1 hb=> ?_⟩;obtain⟨dp,ed,p0,p6⟩: ∃dp:Int,atI [PV.int 2,.int 6] (if(g==1)=true then(1:Int)else 0)=some (.int dp)/\0<=dp/\dp<=6:=by
  split
  ·exact⟨6,rfl,2#0,2#0⟩
  ·exact⟨2,rfl,2#0,2#0⟩
 simp? only[ed];refine⟨i,ls,r,dp,a,b,rfl,zm,hb,hlp,AB,p0,0#0,λt a b tk tr hb=> ?_⟩;refine zii hlp ?_
 ac_nf
 exact q t a b tk 0#0 hb
theorem ztx {f:ac}{fd:bu}(M:Mo w K mg)(F:yA K 57#1 57#1 eW f fd):zM P w K mg base zY 10 f fd [0#1,46#1,54#1] (zX K zwC):=by
 obtain⟨_,_,zS,y4,y6⟩:=M._law_take;have y3:= @tQ P w K mg base _ _ M zS;obtain⟨ze0,ze2,tV,tL,tO⟩:=M._law_term;have iO:zM P w K mg base zY 9 ze0 ze2 0#9 (zX K (jZ tI.pv 7)):=zfk M tV tL tO 7;refine x5 0 F jM (λxs st Q h=>by obtain⟨i,a,b,rfl,_⟩:=h;rfl) ⟨_,λzr A outer s H E hr=>have hr1:zI 1 _:=hr.mono 2#0;have hr9:zI 9 _:=hr.mono 2#0;(z9 (qz 3 jM.nd (qx hr (qv 1) (qk y3 hr1 y6 zS y4 (z3 (qv 0) (z3 (wG wL 4#0 M.len dn 4#11) z7)))))
   (z9 (zZ (qc (qW hr) (qv 3) zG) (zD (y2 (yN (z3 (qv 3) z7)))) yC)
   (z9 (qz 4 jM.nd (tD (z3 (yN (z3 zG z7)) (z3 (yN (z3 zG z7)) (z3 (yN (z3 zG z7)) z7)))))
   (z9 (qz 5 jM.nd (qk iO hr9 tO tV tL (z3 (qv 0) (z3 (qv 4) (z3 (qx hr (tD (z3 z6 (z3 z6 (z3 z6 (z3 z6 z7))))) 2#2) (z3 z6 z7))))))
   (z9 (zZ (mY (qv 2)) (zD (qz 5 jM.nd (yN (z3 zG (z3 (yN (z3 zG (z3 zG (z3 (qx hr (qv 4) z6) (z3 (qx hr (qv 4) z6) z7))))) (z3 (qx hr (qv 4) z6) (z3 (qk iO hr9 tO tV tL (z3 (qv 0) (z3 (qv 4) (z3 z6 (z3 z6 z7))))) z7))))))) yC)
   (zD (y2 (yN (z3 zG (z3 (zN yO z6 2#2) 1#14)))))))))),λxs st Q h=> ?_⟩
 obtain⟨i,a,b,rfl,hi,hb,q⟩:=h;have zm: ∀{a b:Int},(st.set i 3#3)[i]?=some 3#3:=λ{a b} =>sT hi;unfold mI;symm
 ac_nf
 refine⟨i,_,a,b,rfl,hi,hb,2#0,2#0,λd a b d0 d1 hb=> ?_⟩;obtain⟨kd,hkd,ek⟩: ∃kd:Str,(kd= "last" ∨kd= "sum" ∨kd= "bag" ∨kd= 73#1 ∨kd= 84#1)/\atI [PV.str "last",.str "sum",.str "bag",.str 73#1,.str 84#1] d=some (.str kd):=by
  have:d=0∨d=1∨d=2∨d=3∨d=4:=0#0
  rcases this with rfl | rfl | rfl | rfl | rfl
  ·exact⟨_,.inl rfl,rfl⟩
  ·exact⟨_,.inr 5#9,rfl⟩
  ·exact⟨_,.inr (.inr 5#9),rfl⟩
  ·exact⟨_,.inr (.inr (.inr 5#9)),rfl⟩
  ·exact⟨_,.inr (.inr (.inr (.inr rfl))),rfl⟩
 simp? only[ek];symm
 ac_nf
 by_cases ht:kd= 84#1
 ·subst ht
  simp? only[beq_self_eq_true];symm
  ac_nf
  symm
  ac_nf
  refine⟨i,4,a,b,rfl,zm,hb,2#0,2#0,λe a b e0 e1 hb=> ?_⟩;obtain⟨rm,er⟩: ∃rm:Int,atI [PV.int 1,.int 3,.int 7,.int 15] e=some (.int rm):=by
   have:e=0∨e=1∨e=2∨e=3:=0#0
   rcases this with rfl | rfl | rfl | rfl
   ·exact⟨1,rfl⟩
   ·exact⟨3,rfl⟩
   ·exact⟨7,rfl⟩
   ·exact⟨15,rfl⟩
  simp? only[er];refine⟨i,[.was,.mine,.yours],rm,6,a,b,rfl,zm,hb,zlW,2#0,2#0,2#0,λt a b tk tr hb=> ?_⟩
  ac_nf
  symm
  ac_nf
  refine⟨i,4,a,b,rfl,zm,hb,2#0,2#0,λn a b n0 n1 hb=> ?_⟩;simp? only[zf1 zlW];exact q 84#1 [.int (2+n),t.pv tI.pv] a b (.inr ⟨rfl,2+n,t,rfl,0#0,0#0,0#0⟩) hb
 ·have nt:(kd==(84#1 :Str))=false:=by simpa using ht
  simp? only[nt];exact q kd [] a b (.inl ⟨by rcases hkd with h | h | h | h | h <;> simp_all,rfl⟩) hb
theorem zsK:([0#1,12#1,10#1,26#1,69#1,21#1,25#1]:List Str).Nodup:=1#0
theorem zts {f:ac}{fd:bu}(M:Mo w K mg)(F:yA K 65#1 65#1 jG f fd):zM P w K mg base zY 3 f fd [0#1,12#1,10#1] (zX K zw2):=by
 obtain⟨_,_,zS,y4,y6⟩:=M._law_take;have y3:= @tQ P w K mg base _ _ M zS;obtain⟨_,_,lT,bT,zeW⟩:=M._law_number;have cY:= @zmB P w K mg base _ _ M lT;refine x5 0 F jJ (λxs st Q h=>by obtain⟨i,kd,r,ws,a,b,rfl,_⟩:=h;rfl) ⟨_,λzr A outer s H E hr=>have hr1:zI 1 _:=hr.mono 2#0;have hr2:zI 2 _:=hr.mono 2#0;(z9 (zZ (qc 3#10 (qx hr (qv 1) z6) zG) (zD (y2 (qk y3 hr1 y6 zS y4 (z3 (qv 0) (z3 (qx hr (qv 1) z6) z7))))) yC)
   (z9 (zZ (qc 3#10 (qx hr (qv 1) z6) zG) (z9 (qz 3 jJ.nd (qB z7))
   (z9 (u0 dy rfl (wH (wG ztp 4#0 M.sorted PyProof.Rows.boot_sorted 4#8)) (qn 4 jJ.nd) (z9 (qz 5 jJ.nd (zN qX 2#2 z6))
   (zD (zZ (qc 3#10 2#2 z6) (zD (xH (vA cq dk dm 2#0 tP (qv 3) (z3 (yN (z3 (qv 4) (z3 (zN yO (qv 5) (wV mS 4#0 M.int nW (z3 (pY zfi (qv 5) z6 (qV _)) z7))) z7))) z7)))) yC))))
   (zD (y2 (wV qY 4#0 M.tuple qK (z3 (qv 3) z7)))))) yC)
   (z9 (zZ (qc 3#10 (qx hr (qv 1) z6) zG) (z9 (qz 5 jJ.nd (qk y3 hr1 y6 zS y4 (z3 (qv 0) (z3 (qx hr (tD (z3 z6 (z3 z6 z7))) (wV mS 4#0 M.int nW (z3 (pY 3#10 2#2 z6 (qV _)) z7))) z7))))
   (zD (y2 (wV qY 4#0 M.tuple qK (z3 (qZ (own:= [25#1]) (uY (fsc:=zQ jG) (N:= [0#1,12#1,10#1,26#1,69#1,21#1]) (N':= [0#1,12#1,10#1,26#1,69#1,21#1]) rfl rfl 1#0) rfl (mX 4#0 M.range 1#14) (λC s H fp zc=>(qn 6 zsK)) 0#10 (λC s H fp zc=>(qx hr (qv 2) (qk y3 hr1 y6 zS y4 (z3 (qv 0) (z3 (wG wL 4#0 M.len dn 4#8) z7)))))) z7))))) yC)
   (zD (y2 (qk cY hr2 zeW lT bT 1#10)))))),λxs st Q h=> ?_⟩
 obtain⟨i,kd,r,ws,a,b,rfl,hi,hb,hmn,Ao,At,hnd,q⟩:=h;have hil:=(ah.mp hi).1;have zm: ∀{a b:Int},(st.set i 3#3)[i]?=some 3#3:=λ{a b} =>sT hi;have hset2: ∀{a b:Int} {o:PO},(st.set i 3#3++ [o])[i]?=some 3#3:=λ{a b o} =>gU zm;have hput: ∀{a b c d:Int} {o:PO},(st.set i 3#3++ [o]).set i (zA c d)=st.set i (zA c d)++ [o]:=λ{a b c d o} =>by rw[zga (by rw[dq];exact hil),set_set]
 have Ax: ∀{o:PO},(st.set i o).length=st.length:=dq;have Ai: ∀{a b:Int} {o:PO},(st.set i 3#3++ [o])[st.length]?=some o:=λ{a b o} =>by rw[<- Ax (o:=zA a b)];exact vQ
 have hst2: ∀{a b:Int} {o o':PO},(st.set i 3#3++ [o]).set st.length o'=st.set i 3#3++ [o']:=λ{a b o o'} =>by rw[<- Ax (o:=zA a b)];exact o5
 have htk: ∀{a b:Int} {o:PO},(st.set i 3#3++ [o]).take st.length=st.set i 3#3:=λ{a b o} =>by rw[<- Ax (o:=zA a b)];exact zgp
 have Ag:st=st.set i 3#3:=by
  obtain⟨h1,h2⟩:=ah.mp hi;rw[<- h2,wl]
 have hpos:0 < ws.length:=iz.mpr Ao;have n_last_told:(("last" :Str)==(84#1 :Str))=false:=1#0
 have n_last_bag:(("last" :Str)==("bag" :Str))=false:=1#0
 have n_last_row:(("last" :Str)==(73#1 :Str))=false:=1#0
 have n_sum_told:(("sum" :Str)==(84#1 :Str))=false:=1#0
 have n_sum_bag:(("sum" :Str)==("bag" :Str))=false:=1#0
 have n_sum_row:(("sum" :Str)==(73#1 :Str))=false:=1#0
 have n_bag_told:(("bag" :Str)==(84#1 :Str))=false:=1#0
 have n_row_told:((73#1 :Str)==(84#1 :Str))=false:=1#0
 have n_row_bag:((73#1 :Str)==("bag" :Str))=false:=1#0
 rcases hmn with⟨hk,rfl⟩ | ⟨rfl,n,t,rfl,n2,n6⟩
 ·rcases hk with rfl | rfl | rfl | rfl
  ·symm
   simp? only[n_last_told];symm;simp? only[n_last_bag];symm;simp? only[n_last_row];refine⟨i,a,b,rfl,hi,hb,λd a b d0 d1 hb=> ?_⟩
   ac_nf
   exact q (.int d) a b ⟨1#0,1#0,d0,d1⟩ hb
  ·symm
   simp? only[n_sum_told];symm;simp? only[n_sum_bag];symm;simp? only[n_sum_row];refine⟨i,a,b,rfl,hi,hb,λd a b d0 d1 hb=> ?_⟩
   ac_nf
   exact q (.int d) a b ⟨1#0,1#0,d0,d1⟩ hb
  ·symm
   simp? only[n_bag_told];symm;simp? only[beq_self_eq_true];symm
   ac_nf
   symm;simp? only[zfH,rV];refine⟨ws,rfl,0#0,λss hp hs=> ?_⟩;have hss:ss.Nodup:=hp.nodup_iff.mpr hnd;have hsln:=hp.length_eq
   ac_nf
   refine vZ (λk env s=> ∃(l:List (Str×Int)) (v w:Option PV) (a b:Int),env= [some (PV.obj i),some (.tup [.str "bag"]),some (.lst 6#3),some 5#2,v,w]/\(l.map (·.1)).Sublist (ss.take k)/\yE a b/\s=st.set i 3#3++ [.lst (l.map λq=>PV.tup [.str q.1,.int q.2])])
    ⟨[],none,none,a,b,rfl,3#0,hb,by rw[<- Ag];rfl⟩ ?_ ?_
   ·rintro k x env s hx ⟨l,v,w,a,b,rfl,hl,hb,rfl⟩
    obtain⟨wd,hwd,rfl⟩:=wC hx;have AB:l.length<=40:=by
     have:=hl.length_le;rw[ae,cz]at this;grobner
    ac_nf
    symm
    ac_nf
    refine⟨i,198,a,b,rfl,hset2,hb,2#0,2#0,λd a b d0 d1 hb=> ?_⟩;simp? only[hput];refine⟨i,2,a,b,rfl,hset2,hb,2#0,2#0,λe a b e0 e1 hb=> ?_⟩;simp? only[hput];by_cases h1:e=1
    ·subst h1
     simp? only[beq_self_eq_true,Ai,hst2,ae];refine⟨bp (m:=1000) 0#0 2#0,l++ [(wd,_)],_,_,a,b,rfl,?_,hb,by simp;rfl⟩;rw[i7 hwd,bb];exact hl.append (List.Sublist.refl _)
    ·have n1:(e==1)=false:=by simpa using h1
     simp? only[n1];exact⟨l,_,_,a,b,rfl,by rw[i7 hwd];exact hl.trans (List.sublist_append_left _ _),hb,rfl⟩
   ·rintro env s ⟨l,v,w,a,b,rfl,hl,hb,rfl⟩
    have hsub:=hl.trans (jk _ _);have AB:l.length<=40:=by
     have:=hsub.length_le;rw[ae]at this;grobner
    simp? only[Ai,htk];exact q (.bag l) a b ⟨rfl,hss.sublist hsub,AB⟩ hb
  ·symm
   simp? only[n_row_told];symm;simp? only[n_row_bag];symm;simp? only[beq_self_eq_true];symm
   ac_nf
   refine⟨i,4,a,b,rfl,hi,hb,2#0,2#0,λe a b e0 e1 hb=> ?_⟩;obtain⟨z,ez,z0,z1⟩: ∃z:Int,atI [PV.int 5,.int 21] (if(e==1)=true then(1:Int)else 0)=some (.int z)/\0 < z/\z<=21:=by
    split
    ·exact⟨21,rfl,2#0,2#0⟩
    ·exact⟨5,rfl,2#0,2#0⟩
   simp? only[ez];refine⟨i,z,a,b,rfl,zm,hb,z0,0#0,λm a b m0 m1 hb=> ?_⟩
   ac_nf
   refine⟨⟨0#0,0#0⟩,λk ys env s=> ∃(us:List Str) (v:Option PV) (a b:Int),ys=us.map PV.str/\us.length=k/\env= [some (PV.obj i),some (.tup [.str 73#1]),some (.lst 6#3),none,none,some (.int m),v]/\yE a b/\s=st.set i 3#3,⟨[],none,a,b,rfl,rfl,rfl,hb,rfl⟩,?_,?_⟩
   ·rintro k x ys env s hx ⟨us,v,a,b,rfl,hk,rfl,hb,rfl⟩
    obtain⟨_,rfl⟩:=o4 hx;simp? only[ae];refine⟨i,_,a,b,rfl,zm,hb,0#0,0#0,λe a b e0 e1 hb=> ?_⟩;obtain⟨t,_,et⟩:=nR PV.str (ns:=ws) e0 e1;simp? only[et];exact⟨us++ [t],_,a,b,3#0,by simp[hk],rfl,hb,rfl⟩
   ·rintro ys env s ⟨us,v,a,b,rfl,hk,rfl,hb,rfl⟩
    rw[p9]at hk
    ac_nf
    exact q (.row us) a b ⟨rfl,0#0⟩ hb
 ·symm
  simp? only[beq_self_eq_true];refine⟨i,n,a,b,rfl,hi,hb,0#0,0#0,λd a b d0 d1 hb=> ?_⟩
  ac_nf
  exact q (.int d) a b ⟨1#0,1#0,d0,0#0⟩ hb
theorem ztw {f:ac}{fd:bu}(M:Mo w K mg)(F:yA K 58#1 58#1 eV f fd):zM P w K mg base zY 2 f fd [0#1,51#1,10#1] (zX K zwB):=by
 obtain⟨_,_,zS,y4,y6⟩:=M._law_take;have y3:= @tQ P w K mg base _ _ M zS;refine x5 0 F jL (λxs st Q h=>by obtain⟨i,sh,ws,a,b,rfl,_⟩:=h;rfl) ⟨_,λzr A outer s H E hr=>have hr1:zI 1 _:=hr.mono 2#0;(z9 (qz 3 jL.nd (qB z7))
   (z9 (u0 dy rfl (wH (qv 1)) (mW (n:=3) rfl (vR (qn 4 jL.nd) (vR (qn 5 jL.nd) (vR (qn 6 jL.nd) oU)))) (zD (zZ (qc 3#10 6#5 zG) (zD (xH (vA cq dk dm 2#0 tP (qv 3) (z3 (yN (z3 zG (z3 (qv 4) (z3 (qx hr (qv 2) (qk y3 hr1 y6 zS y4 (z3 (qv 0) (z3 (wG wL 4#0 M.len dn 4#8) z7)))) z7)))) z7)))) (zD (xH (vA cq dk dm 2#0 tP (qv 3) (z3 (qx hr (tD (z3 (yN (z3 zG 6#16)) (z3 (yN (z3 zG 6#16)) z7))) (wV mS 4#0 M.int nW (z3 (pY 3#10 6#5 zG (qV _)) z7))) z7)))))))
   (zD (y2 (qv 3))))),λxs st Q h=> ?_⟩
 obtain⟨i,sh,ws,a,b,rfl,hi,hb,hk,Ax,Ao,At,q⟩:=h;have hil:=(ah.mp hi).1;have zm: ∀{a b:Int},(st.set i 3#3)[i]?=some 3#3:=λ{a b} =>sT hi;have hset2: ∀{a b:Int} {o:PO},(st.set i 3#3++ [o])[i]?=some 3#3:=λ{a b o} =>gU zm;have hput: ∀{a b c d:Int} {o:PO},(st.set i 3#3++ [o]).set i (zA c d)=st.set i (zA c d)++ [o]:=λ{a b c d o} =>by rw[zga (by rw[dq];exact hil),set_set]
 have hsl2: ∀{o:PO},(st.set i o).length=st.length:=dq;have Ag:st=st.set i 3#3:=by
  obtain⟨h1,h2⟩:=ah.mp hi;rw[<- h2,wl]
 have hpos:0 < ws.length:=iz.mpr Ao;symm
 ac_nf
 symm
 ac_nf
 refine vZ (λk env s=> ∃(ls:List Lf) (v w x:Option PV) (a b:Int),env= [some (PV.obj i),some (.lst 2#6),some (.lst 6#3),some 5#2,v,w,x]/\ls.length=k/\(∀l∈ls,nM sh l)/\yE a b/\s=st.set i 3#3++ [.lst (ls.map Lf.pv)])
  ⟨[],none,none,none,a,b,rfl,rfl,3#0,hb,by rw[<- Ag];rfl⟩ ?_ ?_
 ·rintro k y env s hy ⟨ls,v,w,x,a,b,rfl,hk',hl,hb,rfl⟩
  obtain⟨s0,hs0,rfl⟩:=wC hy;have ms:=dh hs0;have hkl:=(ah.mp hs0).1;obtain⟨kd,r,er⟩:=hk s0 ms;have Ai: ∀{a b:Int} {o:PO},(st.set i 3#3++ [o])[st.length]?=some o:=λ{a b o} =>by rw[<- hsl2 (o:=zA a b)];exact vQ
  have hst2: ∀{a b:Int} {o o':PO},(st.set i 3#3++ [o]).set st.length o'=st.set i 3#3++ [o']:=λ{a b o o'} =>by rw[<- hsl2 (o:=zA a b)];exact o5
  unfold y7;rw[er];have more: ∀(l:Lf) (a b:Int),nM sh l->yE a b->∀v w x,∃(ls':List Lf) (v' w' x':Option PV) (a' b':Int),[some (PV.obj i),some (.lst 2#6),some (.lst 6#3),some 5#2,v,w,x]= [some (PV.obj i),some (.lst 2#6),some (.lst 6#3),some 5#2,v',w',x']/\ls'.length=k+1/\(∀l∈ls',nM sh l)/\yE a' b'/\st.set i 3#3++ [PO.lst (ls.map Lf.pv++ [l.pv])]=st.set i (zA a' b')++ [.lst (ls'.map Lf.pv)]:=λl a b h1 h2 v w x=>
   ⟨ls++ [l],v,w,x,a,b,rfl,by simp[hk'],λl' hl'=>by
    rcases aq.mp hl' with h | h
    ·exact hl l' h
    ·rw[ao.mp h];exact h1,h2,3#0⟩
  have small:(ls.map Lf.pv).length < ak:=bp (m:=1000) (by rw[ae];grobner) 2#0
  ac_nf
  by_cases hbag:kd= "bag"
  ·subst hbag
   simp? only[beq_self_eq_true,ae,Ai];refine⟨i,_,a,b,rfl,hset2,hb,0#0,0#0,λe a b e0 e1 hb=> ?_⟩;obtain⟨t,_,et⟩:=nR PV.str (ns:=ws) e0 e1;simp? only[et,hput,Ai,hst2];exact⟨small,more (.many s0.1 t) a b ⟨s0,ms,"bag",⟨r,er⟩,.inl ⟨rfl,t,rfl⟩⟩ hb _ _ _⟩
  ·have nb:(kd==("bag" :Str))=false:=by simpa using hbag
   simp? only[nb];by_cases hrow:kd= 73#1
   ·subst hrow
    simp? only[beq_self_eq_true,Ai,hst2];exact⟨small,more (.long s0.1) a b ⟨s0,ms,73#1,⟨r,er⟩,.inr (.inl ⟨rfl,rfl⟩)⟩ hb _ _ _⟩
   ·have nr:(kd==(73#1 :Str))=false:=by simpa using hrow
    simp? only[nr,Ai,hst2];exact⟨small,more (.shelf s0.1) a b ⟨s0,ms,kd,⟨r,er⟩,.inr (.inr ⟨hbag,hrow,rfl⟩)⟩ hb _ _ _⟩
 ·rintro env s ⟨ls,v,w,x,a,b,rfl,hk',hl,hb,rfl⟩
  rw[ae]at hk'
  ac_nf
  rw[show xB st.length Q=xB ((st.set i 3#3).length+0) Q by rw[hsl2];rfl,<- hsl2 (o:=zA a b),gL];exact q ls a b hk' hl hb
theorem ztt {f:ac}{fd:bu}(M:Mo w K mg)(F:yA K 81#1 81#1 eP f fd):zM P w K mg base zY 11 f fd [0#1,"_law_shelf",5#1,10#1] (zX K zw5):=by
 obtain⟨_,_,zS,y4,y6⟩:=M._law_take;have y3:= @tQ P w K mg base _ _ M zS;obtain⟨zez,ze1,nL,h9,fA⟩:=M._law_any_term;have iN:zM P w K mg base zY 10 zez ze1 [0#1,5#1] (zX K (zgc Lf.pv)):=zm8 M nL;refine x5 0 F oX (λxs st Q h=>by obtain⟨i,nm,kd,r,bg,ls,ws,a,b,rfl,_⟩:=h;rfl) ⟨_,λzr A outer s H E hr=>have hr1:zI 1 _:=hr.mono 2#0;have hr10:zI 10 _:=hr.mono 2#0;(z9 (uL (qv 1) (mW (n:=3) rfl (vR (qn 4 oX.nd) (vR (qn 5 oX.nd) (vR (qn 6 oX.nd) oU)))))
   (z9 (qz 7 oX.nd (qx hr (qv 3) 7#16))
   (z9 (zZ (qc 3#10 6#5 zG) (zD (y2 (yN (z3 (qx hr (tD 0#11) 2#2) (z3 (qv 4) (z3 (qv 7) z7)))))) yC)
   (z9 (qz 8 oX.nd (qk iN hr10 fA nL h9 (z3 (qv 0) 4#8)))
   (z9 (zZ (qc 3#10 6#5 zG) 0#14 yC)
   (z9 (zZ (qc (qW hr) 6#5 zG) 0#14 yC)
   (z9 (zZ (qc 3#10 2#2 z6) (zD (qz 8 oX.nd (yN (z3 zG (z3 2#2 z7))))) yC)
   (z9 (zZ (qc sD 2#2 z6) (zD (y2 (yN (z3 zG (z3 (qv 4) (z3 (qv 8) (z3 (qv 7) z7))))))) yC)
   0#14)))))))),λxs st Q h=> ?_⟩
 obtain⟨i,nm,kd,r,bg,ls,ws,a,b,rfl,hbg,hi,hb,hwe,At,AB,q⟩:=h;have zm: ∀{a b:Int},(st.set i 3#3)[i]?=some 3#3:=λ{a b} =>sT hi;have hw0:0 < ws.length:=iz.mpr hwe;symm;simp? only[hbg];symm;simp? only[ae];refine⟨i,(ws.length:Int),a,b,rfl,hi,hb,0#0,0#0,λd a b d0 d1 hb=> ?_⟩;obtain⟨wd,_,ew⟩:=nR PV.str (ns:=ws) d0 d1;simp? only[ew];symm;by_cases k1:kd= "bag"
 ·subst k1
  simp? only[beq_self_eq_true];refine⟨i,2,a,b,rfl,zm,hb,2#0,2#0,λg a b g0 g1 hb=> ?_⟩;have hg:g=0∨g=1:=0#0
  rcases hg with rfl | rfl
  ·simp? only[set_set]
   exact q (.bag true nm wd) a b ⟨rfl,λx hx=>(by cases hx),rfl⟩ hb
  ·simp? only[set_set]
   exact q (.bag false nm wd) a b ⟨rfl,λx hx=>(by cases hx),rfl⟩ hb
 have n1:(kd==("bag" :Str))=false:=by simpa using k1
 simp? only[n1];symm
 ac_nf
 refine⟨i,ls,a,b,rfl,zm,hb,f6,AB,λt a b tok uO hb=> ?_⟩;simp? only[set_set];symm;by_cases k2:kd= "sum"
 ·subst k2
  simp? only[beq_self_eq_true];exact⟨rF t,q (.more nm t) a b ⟨rfl,λx hx=>(by cases hx;exact⟨tok,uO⟩),rfl⟩ hb⟩
 have n2:(kd==("sum" :Str))=false:=by simpa using k2
 simp? only[n2];symm;by_cases k3:kd= 73#1
 rotate_left
 ·have n3:(kd==(73#1 :Str))=false:=by simpa using k3
  simp? only[n3];exact⟨rF t,q (.set nm t) a b ⟨rfl,λx hx=>(by cases hx;exact⟨tok,uO⟩),k1,k3,k2⟩ hb⟩
 subst k3;simp? only[beq_self_eq_true];refine tG (λenv s=> ∃(t:Tm Lf) (a b:Int),env= [some (PV.obj i),some (.tup [.str nm,.tup (.str 73#1 ::r),bg]),some (.lst (ls.map Lf.pv)),some (.lst 6#3),some (.str nm),some (.tup (.str 73#1 ::r)),some bg,some (.str wd),some (t.pv Lf.pv)]/\s=st.set i 3#3/\yE a b/\t.ok (λl=>l∈ls)/\t.rank < 7) (λN hN=> ?_) ?_
 ·ac_nf
  refine⟨i,2,a,b,rfl,zm,hb,2#0,2#0,λg a b g0 g1 hb=> ?_⟩;simp? only[set_set];by_cases h0:g=0
  ·subst h0
   simp? only[beq_self_eq_true];refine⟨i,6,a,b,rfl,zm,hb,2#0,2#0,λe a b e0 e1 hb=> ?_⟩;simp? only[set_set];exact hN _ _ ⟨.num e,a,b,rfl,rfl,hb,⟨e0,0#0⟩,by show 0 < 7;decide⟩
  ·have nf:(g==0)=false:=by simpa using h0
   simp? only[nf];exact hN _ _ ⟨t,a,b,rfl,rfl,hb,tok,uO⟩
 ·rintro env s0 ⟨t,a,b,rfl,rfl,hb,tok,uO⟩
  symm
  ac_nf
  refine⟨i,5,a,b,rfl,zm,hb,2#0,2#0,λg a b g0 g1 hb=> ?_⟩;simp? only[set_set];by_cases h1:1 < g
  ·have hd:decide (1 < g)=true:=decide_eq_true h1
   simp? only[hd];exact⟨rF t,q (.lay nm t wd) a b ⟨rfl,λx hx=>(by cases hx;exact⟨tok,uO⟩),rfl⟩ hb⟩
  ·have hd:decide (1 < g)=false:=decide_eq_false h1
   simp? only[hd];exact⟨rF t,q (.drop nm t) a b ⟨rfl,λx hx=>(by cases hx;exact⟨tok,uO⟩),rfl⟩ hb⟩
theorem ztz {f:ac}{fd:bu}(M:Mo w K mg)(F:yA K "_law_row" "_law_row" dA f fd):zM P w K mg base zY 12 f fd [0#1,59#1,10#1] (zX K c4):=by
 obtain⟨_,_,zS,y4,y6⟩:=M._law_take;have y3:= @tQ P w K mg base _ _ M zS;obtain⟨zez,ze1,nL,h9,fA⟩:=M._law_any_term;have iN:zM P w K mg base zY 10 zez ze1 [0#1,5#1] (zX K (zgc Lf.pv)):=zm8 M nL;obtain⟨_,_,zgG,zpV,zst⟩:=M._law_leaves;have zpg:= @ztw P w K mg base _ _ M zgG;obtain⟨_,_,zgE,zpT,zsr⟩:=M._law_deed;have zpc:= @ztt P w K mg base _ _ M zgE;refine x5 0 F lA (λxs st Q h=>by obtain⟨i,sh,ws,a,b,rfl,_⟩:=h;rfl) ⟨_,λzr A outer s H E hr=>have hr1:zI 1 _:=hr.mono 2#0;have hr2:zI 2 _:=hr.mono 2#0;have hr10:zI 10 _:=hr.mono 2#0;have hr11:zI 11 _:=hr.mono 2#0;(z9 (uL (qv 1) (mW (n:=2) rfl (vR (qn 3 lA.nd) (vR (qn 4 lA.nd) oU))))
   (z9 (qz 5 lA.nd (qk zpg hr2 zst zgG zpV (z3 (qv 0) (z3 (qv 4) 4#8))))
   (z9 (qz 6 lA.nd (yN (z3 zG (z3 (qk iN hr10 fA nL h9 (z3 (qv 0) 1#14)) z7))))
   (z9 (zZ (PW.pt (sE (qc sD 3#7 z6) (sF (qc sD 2#2 z6)))) (zD (qz 6 lA.nd (qk zpc hr11 zsr zgE zpT (z3 (qv 0) (z3 (qx hr (qv 3) 7#16) (z3 (qv 5) 4#8)))))) yC)
   (z9 (zZ (qc 3#10 2#2 z6) (zD (y2 (yN (z3 zG (z3 (qk iN hr10 fA nL h9 (z3 (qv 0) 1#14)) (z3 (qv 6) z7)))))) yC)
   (zD (y2 (qv 6)))))))),λxs st Q h=> ?_⟩
 obtain⟨i,sh,ws,a,b,rfl,hi,hb,hsh,hse,Ax,hwe,At,q⟩:=h;have zm: ∀{a b:Int},(st.set i 3#3)[i]?=some 3#3:=λ{a b} =>sT hi;have hs0:0 < sh.length:=iz.mpr hse;have hk: ∀s∈sh,∃kd,bE s kd:=λs hs=>let⟨kd,r,h,e,_⟩:=hsh s hs;⟨kd,r,e⟩;symm
 ac_nf
 symm
 ac_nf
 refine⟨i,sh,ws,a,b,rfl,hi,hb,hk,0#0,hwe,At,λls a b lll hls hb=> ?_⟩;have tf: ∀{t:Tm Lf},t.ok (λl=>l∈ls)->t.rank < 7->iY sh t:=λh1 h2=>⟨Tm.ok_mono (λl hl=>hls l hl) h1,h2⟩
 ac_nf
 symm
 ac_nf
 refine⟨i,ls,a,b,rfl,zm,hb,f6,0#0,λt a b tok uO hb=> ?_⟩;simp? only[set_set,rF];refine tG (λenv s=> ∃(d:Dd) (a b:Int),env= [some (PV.obj i),some (.tup 6#18),some (.lst 6#3),some (.lst 2#6),some (.lst 2#6),some (.lst (ls.map Lf.pv)),some d.pv]/\s=st.set i 3#3/\yE a b/\zgC sh d) (λN hN=> ?_) ?_
 ·have hd0:decide ((0:Int) < (sh.length:Int))=true:=decide_eq_true 0#0
  simp? only[ae,hd0];refine⟨i,6,a,b,rfl,zm,hb,2#0,2#0,λg a b g0 g1 hb=> ?_⟩;simp? only[set_set];by_cases hg:0 < g
  ·have hd:decide (0 < g)=true:=decide_eq_true hg
   simp? only[hd,ae];refine⟨i,(sh.length:Int),a,b,rfl,zm,hb,0#0,0#0,λe a b e0 e1 hb=> ?_⟩;obtain⟨n,rfl⟩: ∃n:Nat,e=n:=⟨e.toNat,0#0⟩;have hn:sh[n]?=some sh[n]:=bz 0#0;obtain⟨kd,r,h,es,hm,eb,hv⟩:=hsh _ (au.mpr ⟨n,hn⟩);have er:atI 2#6 (n:Int)=some (.tup [.str sh[n].1,.tup (.str kd::r),h.pv]):=by
    rw[zwv hn];unfold y7;rw[es,eb]
   simp? only[set_set,er];refine⟨i,sh[n].1,kd,r,h.pv,ls,ws,a,b,rfl,zl6 h,zm,hb,hwe,At,0#0,λd a b hd hb=> ?_⟩;simp? only[set_set];obtain⟨d1,d2,d3⟩:=hd;exact hN _ _ ⟨d,a,b,rfl,rfl,hb,λx hx=>tf (d2 x hx).1 (d2 x hx).2,λs hs=>⟨sh[n],au.mpr ⟨n,hn⟩,by rw[d1]at hs;exact cf hs,kd,r,es,d3⟩⟩
  ·have hd:decide (0 < g)=false:=decide_eq_false hg
   simp? only[hd];exact hN _ _ ⟨.tell t,a,b,rfl,rfl,hb,λx hx=>(by cases hx;exact tf tok uO),λs hs=>by cases hs⟩
 ·rintro env s0 ⟨d,a,b,rfl,rfl,hb,hD⟩
  symm
  ac_nf
  refine⟨i,4,a,b,rfl,zm,hb,2#0,2#0,λg a b g0 g1 hb=> ?_⟩;simp? only[set_set];by_cases h0:g=0
  ·subst h0
   simp? only[beq_self_eq_true];refine⟨i,ls,a,b,rfl,zm,hb,f6,0#0,λt a b tok uO hb=> ?_⟩;simp? only[set_set,rF];exact⟨aF d,q (some t,d) a b ⟨λx hx=>(by cases hx;exact tf tok uO),hD⟩ hb⟩
  ·have nf:(g==0)=false:=by simpa using h0
   simp? only[nf];exact zra (aF d) (q (none,d) a b ⟨λx hx=>(by cases hx),hD⟩ hb)
theorem ztv {f:ac}{fd:bu}(M:Mo w K mg)(F:yA K 80#1 80#1 eS f fd):zM P w K mg base zY 2 f fd [0#1,29#1,38#1,74#1] (zX K zgf):=by
 obtain⟨_,_,zS,y4,y6⟩:=M._law_take;have y3:= @tQ P w K mg base _ _ M zS;refine x5 0 F zn5 (λxs st Q h=>by obtain⟨S,i,p,r,h,e,kv,names,E,a,b,w0,hd,rfl,_⟩:=h;rfl) ⟨_,λzr A outer s H E hr=>have hr1:zI 1 _:=hr.mono 2#0;(z9 (qz 4 zn5.nd (vA cq qf qg 2#0 zm6 (qv 3) (z3 7#16 z7)))
   (z9 (xH (vA cq dk dm 2#0 tP (qv 2) (z3 (yN (z3 zG (z3 (qx hr (uA (uI hr) (qv 1) zG (λ_ _=>rfl)) (qv 4)) z7))) z7)))
   (zD (xH (vA cq uz va 2#0 zm4 (qv 3) (z3 (qx hr (uA (uI hr) (qv 1) zG (λ_ _=>rfl)) (qv 4)) z7)))))),λxs st Q h=> ?_⟩
 obtain⟨S,i,p,r,h,e,kv,names,E,a,b,w0,hd,rfl,rfl,L,hb,Ao,hl1,hl2,hx,q⟩:=h;have zu: ∀{a b a' b':Int} {w w' d d':List PV},(S a' b' w' d').take (S a b w d).length=S a' b' w' d':=λ{a b a' b' w w' d d'} =>by
  rw[L.len (a':=a') (b':=b') (w':=w') (d':=d')];exact du
 obtain⟨gi,si,gr,sr,gh,sh',gp,ge⟩:=L;have hpos:0 < hd.length:=iz.mpr Ao;have nm:zH kv (.inr "names")=some (.lst (names.map PV.str)):=hx.1;have en:zH kv (.inr "ends")=some (.obj e):=hx.2.1;symm;simp? only[gh,ae];refine⟨i,hd.length,a,b,rfl,gi,hb,0#0,0#0,λk a b k0 k1 hb=> ?_⟩;obtain⟨k,rfl⟩: ∃n:Nat,k=n:=⟨k.toNat,0#0⟩;have hk:k < hd.length:=0#0
 obtain⟨x,hxk⟩: ∃x,hd[k]?=some x:=⟨_,bz hk⟩;obtain⟨hxn,l,AB,hlv⟩:=hx.2.2 x (au.mpr ⟨k,hxk⟩);obtain⟨nmx,hnx⟩: ∃z,names[x]?=some z:=⟨_,bz hxn⟩;have hix:atI (names.map PV.str) (x:Int)=some (.str nmx):=wK (by rw[br,hnx];rfl);have hel:(hd.eraseIdx k).length<=1000:=bh (mo ..) hl1;have he:(hd.map yR).eraseIdx k=(hd.eraseIdx k).map yR:=aK;simp? only[si,zfE];refine⟨h,k,yR x,_,rfl,rfl,gh,by rw[br,hxk];rfl,?_⟩;rw[he];simp? only[sh'];symm;simp? only[gp,nm,hix,gr,sr,v0];refine⟨mz hl2 2#0,?_⟩;rw[gh,en];refine⟨rfl,?_⟩;have ge':= @ge;simp? only[ge,hlv,gh,sh',ae];refine⟨by rw[di];grobner,?_⟩;rw[<- bb,zu];exact q k x l nmx a b hxk hnx hlv hb
theorem zm_ {f:ac}{fd:bu}(M:Mo w K mg)(F:yA K 72#1 72#1 eR f fd)(kF:xI K fd 5#16 [])(kT:mg 72#1 =some 2#8): ∀d,zM P w K mg base zY (d+13) f fd 5#16 (zX K (dZ d))
 | 0=>⟨λvs H Q E h=>(znJ h).elim,λA outer s H args us vs Q E _ _ _ _ h=>(znJ h).elim⟩
 | d+1=>by
  have IH:zM P w K mg base zY (d+13) f fd 5#16 (zX K (dZ d)):=zm_ M F kF kT d;obtain⟨_,_,lS,bS,zeV⟩:=M._law_box;have cX:= @zm9 P w K mg base _ _ M lS;obtain⟨_,_,zS,y4,y6⟩:=M._law_take;have y3:= @tQ P w K mg base _ _ M zS;obtain⟨_,_,cQ,zhz,zmh⟩:=M._law_row;have zha:= @ztz P w K mg base _ _ M cQ;obtain⟨_,_,cP,zhy,zmg⟩:=M._law_join;have zgZ:= @ztv P w K mg base _ _ M cP;have iH:=F;refine x5 0 F oY (λxs st Q h=>by obtain⟨ns,at',n,a0,kv,names,zt,shl,many,sp,E,R,m0,rfl,_⟩:=h;rfl) ⟨_,λzr A outer s H E hr=>have hr1:zI 1 _:=hr.mono 0#0;have hr2:zI 2 _:=hr.mono 0#0;have hr12:zI 12 _:=hr.mono 0#0;(z9 (qz 4 oY.nd (qk cX hr1 zeV lS bS (z3 (qv 0) (z3 (zN yO (qv 1) (qv 3)) z7))))
   (z9 (qz 5 oY.nd (qx hr 0#4 (qv 3)))
   (z9 (zvx (i:=6) (j:=7) rfl oY.nd rfl rfl 2#0 rfl rfl (z3 (qB z7) (z3 (qB z7) z7)) 4#0)
   (z9 (u0 dy rfl (mX 4#0 M.range (z3 5#10 z7)) (qn 8 oY.nd) (z9 (qz 9 oY.nd 5#10)
   (zD (zZ (PW.pt (sE (qc pW (qv 9) z6) (sF (qc sD (wG wL 4#0 M.len dn (z3 0#4 z7)) z6)))) (z9 (qz 10 oY.nd (vA cq qf qg 2#0 zm6 0#4 (z3 (qk y3 hr1 y6 zS y4 (z3 (qv 4) (z3 (wG wL 4#0 M.len dn (z3 0#4 z7)) z7))) z7)))
   (z9 (uL (qk IH hr kT iH kF (z3 (qv 0) (z3 (qv 1) (z3 (qv 2) (z3 (qv 10) z7))))) (sZ hr 0#4 (qv 10)))
   (z9 (xH (vA cq dk dm 2#0 tP (qv 6) (z3 (yN (z3 zG (z3 (qx hr 0#4 (qv 10)) z7))) z7)))
   (zD (xH (vA cq dk dm 2#0 tP (qv 7) (z3 (qv 10) z7))))))) (zD (zZ (PW.pt (sE (qc 3#10 (qv 9) z6) (sF (qc sD (wG wL 4#0 M.len dn (z3 (qv 7) z7)) z6)))) (zD (xH (qk zgZ hr2 zmg cP zhy (z3 (qv 4) (z3 (qv 2) (z3 (qv 6) (z3 (qv 7) z7))))))) (zD (xH (vA cq dk dm 2#0 tP (qv 6) (z3 (qk zha hr12 zmh cQ zhz (z3 (qv 4) (z3 (qv 5) (z3 0#4 z7)))) z7))))))))))
   (z9 (znm dy (PW.pt (sE (qc sD (wG wL 4#0 M.len dn (z3 (qv 7) z7)) z6) (sF (PW.pt (pZ (qc 3#10 (qv 3) z6) (jA (qc sD 5#10 z6))))))) (z9 (zZ (PW.pt (sE (qc pW (wG wL 4#0 M.len dn (z3 (qv 6) z7)) z6) (sF (qc 3#10 5#10 z6)))) (zD (xH (vA cq dk dm 2#0 tP (qv 6) (z3 (qk zha hr12 zmh cQ zhz (z3 (qv 4) (z3 (qv 5) (z3 0#4 z7)))) z7)))) yC)
   (zD (xH (qk zgZ hr2 zmg cP zhy (z3 (qv 4) (z3 (qv 2) (z3 (qv 6) (z3 (qv 7) z7)))))))))
   (z9 (uL (yN (z3 (qx hr 0#4 (qv 3)) (z3 (wV qY 4#0 M.tuple qK (z3 (qv 6) z7)) z7))) (sZ hr 0#4 (qv 3)))
   (zD (y2 (qv 7))))))))),λxs st Q h=> ?_⟩
  obtain⟨ns,at',n,a0,kv,names,zt,shl,many,sp,E,R,m0,rfl,rfl,H,hd8,q⟩:=h;have hu:atI (List.replicate many (PV.tup 8#6)) (n:Int)=some (.tup 8#6):=wK (by rw[kj,if_pos H.nlt]);have kn:=H.K.nms;have kt:=H.K.tgs;have ku:=H.K.uses;have ks:=H.K.spare;have ke:=H.K.ends;have kr:=H.K.rows;symm
  ac_nf
  refine⟨ns,_,rfl,H.nl,by have:=H.a0;grobner,λa b hb=> ?_⟩;simp? only[zhb,zhc];symm;simp? only[wW,ku,hu,v0];symm;simp? only[zhb,zhc];have e3: ∀{x y z:PO},m0++ [x]++ [y]++ [z]=m0++ [x,y,z]:=λ{x y z} =>3#0
  have l1: ∀{x:PO},(m0++ [x]).length+5=m0.length+6:=λ{x} =>3#0
  have l2: ∀{x y:PO},(m0++ [x]++ [y]).length+5=m0.length+7:=λ{x y} =>3#0
  rw[e3,l1,l2];have enm: ∀{x:Nat},x < names.length->atI (names.map PV.str) (x:Int)=some (.str (zB names x)):=λ{x} hx=>wK (by rw[br,fB hx];rfl);have insp: ∀x∈sp,x < names.length:=λx hx=>bp (H.sm x hx) H.nml;have inj: ∀a∈sp,∀b∈sp,zB names a=zB names b->a=b:=λa ha b hb e=>kY H.nn (insp a ha) (insp b hb) e;have env0: ∃ev:Option PV->Option PV->Option PV->zF,ev=λv8 v9 v10=> 0#2:=⟨_,rfl⟩;obtain⟨ev,hev⟩:=env0;have big:(2000:Nat) < ak:=by rw[di];decide
  refine tG (λenv s=> ∃(zk ks:List Nat) (X:List Re) (E1:List Ee) (rs:List Rh) (hd:List Nat) (a b:Int) (v8 v9 v10:Option PV),env=ev v8 v9 v10/\s=G a0 kv 6#2 zk 7#6 (R++X) 4#3/\LK shl 6#2 sp E zk ks X E1 rs hd/\rs.length<=8/\yE a b) (λN hN=> ?_) ?_
  ·ac_nf
   refine⟨m0.length+5,9,a,b,rfl,wB,hb,2#0,2#0,λt a b t0 t1 hb=> ?_⟩;simp? only[wJ];refine⟨⟨0#0,0#0⟩,vZ (λk env s=> ∃(zk ks:List Nat) (X:List Re) (E1:List Ee) (rs:List Rh) (hd:List Nat) (a b:Int) (v8 v9 v10:Option PV),env=ev v8 v9 v10/\s=G a0 kv 6#2 zk 7#6 (R++X) 4#3/\LK shl 6#2 sp E zk ks X E1 rs hd/\rs.length<=k/\yE a b) ⟨sp,[],[],[],[],[],a,b,none,none,none,by rw[hev],3#0,LK.start H.sn,ar _,hb⟩ ?_ ?_⟩
   ·rintro k x env s hx ⟨zk,ks',X,E1,rs,hd,a,b,v8,v9,v10,rfl,rfl,I,AA,hb⟩
    obtain⟨hk,rfl⟩:=o4 hx;have hIl:=I.len;have hs7:=H.s7;subst hev
    ac_nf
    symm
    ac_nf
    refine⟨m0.length+5,8,a,b,rfl,wB,hb,2#0,2#0,λkind a b k0 k1 hb=> ?_⟩;simp? only[wJ];have hrl':rs.length<=8:=0#0
    have done: ∀{zX ks2:List Nat} {X2:List Re} {E2:List Ee} {Am:List Rh} {hd2:List Nat} {a b:Int} {v8 v9 v10:Option PV},LK shl 6#2 sp E zX ks2 X2 E2 Am hd2->Am.length<=k+1->yE a b->∃(zk ks:List Nat) (X:List Re) (E1:List Ee) (rs:List Rh) (hd:List Nat) (a' b':Int) (v8' v9' v10':Option PV),0#2= [some (PV.lst 0#13),some (.int at'),some (.obj 4),some (.int (n:Int)),some (.obj (m0.length+5)),some (.tup 8#6),some (.obj (m0.length+6)),some (.obj (m0.length+7)),v8',v9',v10']/\G a0 kv 6#2 zX (E++E2) (R++X2) 0#8=G a0 kv 6#2 zk 7#6 (R++X) (m0++ [zA a' b',.lst (rs.map Rh.pv),.lst (hd.map yR)])/\LK shl 6#2 sp E zk ks X E1 rs hd/\rs.length<=k+1/\yE a' b':=λ{zX ks2 X2 E2 Am hd2 a b v8 v9 v10} I2 h2 hb=>⟨zX,ks2,X2,E2,Am,hd2,a,b,v8,v9,v10,rfl,rfl,I2,h2,hb⟩;have plain: ∀{r:Rw} {a b:Int} {v8 v9 v10:Option PV},pK shl r->yE a b->_:=λ{r a b v8 v9 v10} hr hb=>done (v8:=v8) (v9:=v9) (v10:=v10) (I.plain hr) (by rw[am,cr];grobner) hb;by_cases hk3:kind < 3
    ·have d3:decide (kind < 3)=true:=decide_eq_true hk3
     rw[d3];by_cases Aq:zk= []
     ·subst Aq
      simp? only[vS,vT,vG,wW,wB,vU,vO,wJ,vV,vW,kn,kt,ks,ke,kr,v0,ae];have hk3':(kind==3)=false:=by simp;grobner
      rw[hk3']
      ac_nf
      refine zfO H hb λr a b hr hb=> ?_;simp? only[vS,vT,vG,wW,wB,vU,vO,wJ,vV,vW,kn,kt,ks,ke,kr,v0,ae,eM];refine⟨0#0,?_⟩;have:=plain (v8:=some (.int 6#15)) (v9:=some (.int kind)) (v10:=v10) hr hb;rw[bb]at this;exact this
     ·have hpos:0 < zk.length:=iz.mpr Aq
      have hdp:decide (0 < ((zk.length:Nat):Int))=true:=decide_eq_true 0#0;simp? only[vS,vT,vG,wW,wB,vU,vO,wJ,vV,vW,kn,kt,ks,ke,kr,v0,ae,hdp];symm;simp? only[vS,vT,vG,wW,wB,vU,vO,wJ,vV,vW,kn,kt,ks,ke,kr,v0,ae];refine⟨m0.length+5,zk.length,a,b,rfl,wB,hb,0#0,0#0,λi a b i0 i1 hb=> ?_⟩;obtain⟨i,rfl⟩: ∃n:Nat,i=n:=⟨i.toNat,0#0⟩;have hi:i < zk.length:=0#0
      obtain⟨j,hj⟩: ∃j,zk[i]?=some j:=⟨_,bz hi⟩;have hjs:j∈zk:=au.mpr ⟨i,hj⟩;have hjsp:j∈sp:=I.sub j (aj _ hjs);simp? only[vS,vT,vG,wW,wB,vU,vO,wJ,vV,vW,kn,kt,ks,ke,kr,v0,ae,zfE];refine⟨1,i,yR j,_,rfl,rfl,vS,by rw[br,hj];rfl,?_⟩;rw[aK,zpl]
      ac_nf
      symm
      ac_nf
      have Au:=mo zk i;have hlt2:(zk.eraseIdx i).length < zk.length:=by rw[List.length_eraseIdx,if_pos hi];grobner
      refine⟨ns,at',j,a0,kv,names,zt,shl,many,zk.eraseIdx i,E++E1,R++X,_,rfl,rfl,H.kid I.toLI hj,0#0,λspc ksc Xc E1c rsc Ay C _ hcl=> ?_⟩;have hjn:j < names.length:=insp j hjsp;have ej:=enm hjn;have Cl:=C.len;have ee1:E1.length=ks'.length:=by rw[<- I.ek,ae]
      have ee2:E1c.length=ksc.length:=by rw[<- C.ek,ae]
      have helh:=H.el;have hjne:j∉(E++E1++E1c).map (·.1):=by
       have hk:=H.kid I.toLI hj;rw[bb,aq,not_or,C.ek];refine⟨?_,λz=>(zig (bj.mp I.nd).2.1 hj (C.sub j (ax _ z))).2 rfl⟩;rw[bb,aq,not_or,I.ek];exact⟨H.de j hjsp,λz=>(bj.mp I.nd).2.2 j z j hjs rfl⟩
      have hen:=zqT (l:=Ay) hjne;have hel2:(vH (E++E1++E1c)).length<=200:=by unfold vH;rw[ae,am,am];grobner
      have I2:=LK.split inj I hj C hcl;simp? only[vS,vT,vG,wW,wB,vU,vO,wJ,vV,vW,kn,kt,ks,ke,kr,v0,ae];refine⟨0#0,?_⟩;rw[hen,zpm];symm;simp? only[vS,vT,vG,wW,wB,vU,vO,wJ,vV,vW,kn,kt,ks,ke,kr,v0,ae,ej];have hhl:=I.hl;refine⟨0#0,0#0,?_⟩;have:=done (v8:=some (.int 6#15)) (v9:=some (.int kind)) (v10:=some (yR j)) I2 (by rw[am,cr];grobner) hb;rw[<- bi E,<- bi 7#6,<- bi R,<- bi (R++X),bb,bb]at this;exact this
    ·have d3:decide (kind < 3)=false:=decide_eq_false hk3
     rw[d3];simp? only[vS,vT,vG,wW,wB,vU,vO,wJ,vV,vW,kn,kt,ks,ke,kr,v0,ae];by_cases he3:kind=3/\hd≠ []
     ·obtain⟨rfl,Ao⟩:=he3
      have hdp:decide (0 < ((hd.length:Nat):Int))=true:=decide_eq_true (by have:=iz.mpr Ao;grobner);simp? only[beq_self_eq_true,hdp];refine zlQ H I.toLI 0#0 hb Ao λk' x l a b hx hl hb=> ?_;exact done (I.join inj hx hl).1 (by rw[am,cr];grobner) hb
     ·have rowc: ∀{Q:K3},(∀(r:Rw) a b,pK shl r->yE a b->Q r.pv 2#16)->c4 [.obj (m0.length+5),.tup 8#6,.lst (zt.map PV.str)] 2#16 Q:=λq=>zfO H hb q
      have rowd: ∀(r:Rw) a b,pK shl r->yE a b->_:=λr a b hr hb=>plain (v8:=some (.int 6#15)) (v9:=some (.int kind)) (v10:=v10) (a:=a) (b:=b) hr hb;by_cases hkk:kind=3
      ·have hnil:hd= []:=Classical.byContradiction λz=>he3 ⟨hkk,z⟩
       subst hkk hnil;simp? only[beq_self_eq_true];refine rowc λr a b hr hb=> ?_;simp? only[vS,vT,vG,wW,wB,vU,vO,wJ,vV,vW,kn,kt,ks,ke,kr,v0,ae,eM];refine⟨0#0,?_⟩;have:=rowd r a b hr hb;rw[bb]at this;exact this
      ·have hk3':(kind==3)=false:=by simpa using hkk
       rw[hk3']
       ac_nf
       refine rowc λr a b hr hb=> ?_;simp? only[vS,vT,vG,wW,wB,vU,vO,wJ,vV,vW,kn,kt,ks,ke,kr,v0,ae,eM];refine⟨0#0,?_⟩;have:=rowd r a b hr hb;rw[bb]at this;exact this
   ·rintro env s ⟨zk,ks',X,E1,rs,hd,a,b,v8,v9,v10,rfl,rfl,I,AA,hb⟩
    rw[p9]at AA
    ac_nf
    exact hN _ _ ⟨zk,ks',X,E1,rs,hd,a,b,v8,v9,v10,rfl,rfl,I,0#0,hb⟩
  ·rintro env s ⟨sp0,ks0,X0,E0,rs0,hd0,a,b,v8,v9,v10,rfl,rfl,I0,hrl0,hb0⟩
   have hs7:=H.s7;have hw0:=I0.wt;have hk0:=I0.len;refine tG (λenv s=> ∃(zk ks:List Nat) (X:List Re) (E1:List Ee) (rs:List Rh) (hd:List Nat) (a b:Int) (v8 v9 v10:Option PV),env=ev v8 v9 v10/\s=G a0 kv 6#2 zk 7#6 (R++X) 4#3/\LK shl 6#2 sp E zk ks X E1 rs hd/\(n=0->hd= [])/\rs.length<=30) (λN hN=> ?_) ?_
   ·refine⟨λm env s=> ∃(zk ks:List Nat) (X:List Re) (E1:List Ee) (rs:List Rh) (hd:List Nat) (a b:Int) (v8 v9 v10:Option PV),env=ev v8 v9 v10/\s=G a0 kv 6#2 zk 7#6 (R++X) 4#3/\LK shl 6#2 sp E zk ks X E1 rs hd/\yE a b/\m=(hd.map (wE 7#6)).sum/\rs.length+2 * m<=22,⟨_,sp0,ks0,X0,E0,rs0,hd0,a,b,v8,v9,v10,rfl,rfl,I0,hb0,rfl,0#0⟩,?_⟩
    rintro m env s ⟨zk,ks',X,E1,rs,hd,a,b,v8,v9,v10,rfl,rfl,I,hb,rfl,AA⟩;have hIl:=I.len;have hhl:=I.hl;subst hev;by_cases Ao:hd= []
    ·subst Ao
     simp? only[vS,vT,vG,wW,wB,vU,vO,wJ,vV,vW,kn,kt,ks,ke,kr,v0,ae];exact hN _ _ ⟨zk,ks',X,E1,rs,[],a,b,v8,v9,v10,rfl,rfl,I,λ_=>rfl,0#0⟩
    ·have hdp:decide (0 < ((hd.length:Nat):Int))=true:=decide_eq_true (by have:=iz.mpr Ao;grobner)
     have body: ∀{a b:Int} {D:xK},yE a b->(∀(Am:List Rh) (hd2:List Nat) (a b:Int),LK shl 6#2 sp E zk ks' X E1 Am hd2->yE a b->(hd2.map (wE 7#6)).sum+1=(hd.map (wE 7#6)).sum->Am.length<=rs.length+2->D.nx 0#2 (G a0 kv 6#2 zk 7#6 (R++X) 0#8))->
       uP (cL (cI (nJ (rG (oV λi j=>decide (i < j)) (qF eI (tU (uB 6) nI)) (vC (PV.int 12)))) (nJ (rG fX (qF znQ (tU (uB 4) (tU (vC (PV.int 3)) nI))) (vC (PV.int 0))))) (cK (vBM 14#1 fV (uB 6) (tU (qF c4 (tU (uB 4) (tU (uB 5) (tU (rG fZ (uB 2) (vC (PV.str (Str.ofString "things")))) nI)))) nI))) zg2) (cK (qF zgf (tU (uB 4) (tU (uB 2) (tU (uB 6) (tU (uB 7) nI)))))) D 0#2 2#16:=by
      intro a b D hb hD;refine tG (λenv s=> ∃(Am:List Rh) (a b:Int),env= 0#2/\s=G a0 kv 6#2 zk 7#6 (R++X) (m0++ [zA a b,.lst (Am.map Rh.pv),.lst (hd.map yR)])/\LK shl 6#2 sp E zk ks' X E1 Am hd/\yE a b/\Am.length<=rs.length+1) (λN hN=> ?_) ?_
      ·simp? only[vS,vT,vG,wW,wB,vU,vO,wJ,vV,vW,kn,kt,ks,ke,kr,v0,ae]
       by_cases h12:((rs.length:Nat):Int) < 12
       ·have d12:decide (((rs.length:Nat):Int) < 12)=true:=decide_eq_true h12
        simp? only[d12];refine⟨m0.length+5,3,a,b,rfl,wB,hb,2#0,2#0,λt a b t0 t1 hb=> ?_⟩;simp? only[wJ];by_cases ht:t=0
        ·subst ht
         simp? only[beq_self_eq_true,vS,vT,vG,wW,wB,vU,vO,wJ,vV,vW,kn,kt,ks,ke,kr,v0,ae];refine zfO H hb λr a b hr hb=> ?_;simp? only[vS,vT,vG,wW,wB,vU,vO,wJ,vV,vW,kn,kt,ks,ke,kr,v0,ae,eM];refine⟨0#0,hN _ _ ⟨rs++ [.pl r],a,b,rfl,by rw[bb];rfl,I.plain hr,hb,by rw[am,cr];exact ar _⟩⟩
        ·have ht':(t==0)=false:=by simpa using ht
         simp? only[ht'];exact hN _ _ ⟨rs,a,b,rfl,rfl,I,hb,0#0⟩
       ·have d12:decide (((rs.length:Nat):Int) < 12)=false:=decide_eq_false h12
        simp? only[d12];exact hN _ _ ⟨rs,a,b,rfl,rfl,I,hb,0#0⟩
      ·rintro env s ⟨Am,a,b,rfl,rfl,I2,hb,hr2⟩
       ac_nf
       refine zlQ H I2.toLI 0#0 hb Ao λk' x l a b hx hl hb=> ?_;have:=I2.join inj hx hl;exact hD _ _ a b this.1 hb this.2 (by rw[am,cr];grobner)
     simp? only[vS,vT,vG,wW,wB,vU,vO,wJ,vV,vW,kn,kt,ks,ke,kr,v0,ae,hdp];by_cases hn0:n=0
     ·have hn0':(((n:Nat):Int)==0)=true:=by rw[hn0];rfl
      simp? only[hn0'];refine⟨λe s=> ∃(Am:List Rh) (hd2:List Nat) (a b:Int),e= 0#2/\s=G a0 kv 6#2 zk 7#6 (R++X) 0#8/\LK shl 6#2 sp E zk ks' X E1 Am hd2/\yE a b/\(hd2.map (wE 7#6)).sum+1=(hd.map (wE 7#6)).sum/\Am.length<=rs.length+2,?_,body hb λAm hd2 a b i1 i2 i3 i4=>⟨Am,hd2,a,b,rfl,rfl,i1,i2,i3,i4⟩⟩;rintro e s ⟨Am,hd2,a,b,rfl,rfl,h3,h4,h5,h6⟩;exact⟨(hd2.map (wE 7#6)).sum,0#0,zk,ks',X,E1,Am,hd2,a,b,v8,v9,v10,rfl,rfl,h3,h4,rfl,0#0⟩
     ·have hn0':(((n:Nat):Int)==0)=false:=by simp;grobner
      simp? only[hn0'];refine⟨m0.length+5,3,a,b,rfl,wB,hb,2#0,2#0,λt a b t0 t1 hb=> ?_⟩;simp? only[wJ];by_cases ht:0 < t
      ·have ht':decide (0 < t)=true:=decide_eq_true ht
       simp? only[ht'];refine⟨λe s=> ∃(Am:List Rh) (hd2:List Nat) (a b:Int),e= 0#2/\s=G a0 kv 6#2 zk 7#6 (R++X) 0#8/\LK shl 6#2 sp E zk ks' X E1 Am hd2/\yE a b/\(hd2.map (wE 7#6)).sum+1=(hd.map (wE 7#6)).sum/\Am.length<=rs.length+2,?_,body hb λAm hd2 a b i1 i2 i3 i4=>⟨Am,hd2,a,b,rfl,rfl,i1,i2,i3,i4⟩⟩;rintro e s ⟨Am,hd2,a,b,rfl,rfl,h3,h4,h5,h6⟩;exact⟨(hd2.map (wE 7#6)).sum,0#0,zk,ks',X,E1,Am,hd2,a,b,v8,v9,v10,rfl,rfl,h3,h4,rfl,0#0⟩
      ·have ht':decide (0 < t)=false:=decide_eq_false ht
       simp? only[ht'];exact hN _ _ ⟨zk,ks',X,E1,rs,hd,a,b,v8,v9,v10,rfl,rfl,I,λz=>absurd z hn0,0#0⟩
   ·rintro env s ⟨zk,ks',X,E1,rs,hd,a,b,v8,v9,v10,rfl,rfl,I,hz,AA⟩
    subst hev;have en:=enm (bp H.nlt H.nml);have hnk:n∉(R++X).map (·.1):=by
     rw[bb,aq,not_or,I.xk];exact⟨H.nr,λz=>H.ns' (I.sub n (ax _ z))⟩
    have hrn:=zvW (nm:=zB names) (rs:=rs) hnk;have hxl:X.length=ks'.length:=by rw[<- I.xk,ae]
    have hIl:=I.len;have hrr:=H.rl;have hrl2:(u3 6#2 (R++X)).length<=200:=by unfold u3;rw[ae,am];grobner
    symm;simp? only[vS,vT,vG,wW,wB,vU,vO,wJ,vV,vW,kn,kt,ks,ke,kr,v0,ae,en];refine⟨0#0,?_⟩;rw[show PV.tup [PV.str (zB names n),PV.tup (rs.map Rh.pv)]=zW (zB names n,rs)from rfl,hrn,zpn];unfold xB;dsimp only;rw[if_neg 0#0,vO];dsimp only;have htk: ∀{m1 m2:z5} {x y:List Nat} {z:List Ee} {u:List Re},(G a0 kv 6#2 x z u (m1++m2)).take (m1.length+5)=G a0 kv 6#2 x z u m1:=λ{m1 m2 x y z u} =>by
     show _::_::_::_::_::((m1++m2).take m1.length)=_;rw[ki (ar _),du];rfl
    rw[htk (y:= [])];exact q zk ks' X E1 rs hd I hz AA
theorem zt1 {f:ac}{fd:bu}(M:Mo w K mg)(F:yA K 23#1 23#1 dE f fd):zM P w K mg base zY 3 f fd [0#1] (zX K zwK):=by
 obtain⟨_,_,zS,y4,y6⟩:=M._law_take;have y3:= @tQ P w K mg base _ _ M zS;obtain⟨_,_,iK,bV,zeY⟩:=M._law_words;have b6:= @zt3 P w K mg base _ _ M iK;refine x5 0 F pA (λxs st Q h=>by obtain⟨i,a,b,rfl,_⟩:=h;rfl) ⟨_,λzr A outer s H E hr=>have hr1:zI 1 _:=hr.mono 2#0;have hr2:zI 2 _:=hr.mono 2#0;(z9 (qz 1 pA.nd 2#2)
   (z9 (qz 2 pA.nd 8#16)
   (z9 (zZ (qc 3#10 (qv 1) z6) (z9 (uL (vB (vB zG (wM 2#2) vK) vK (wM z6)) (zvv (n:=3) rfl (vR (qn 3 pA.nd) (vR (qn 4 pA.nd) (vR (qn 5 pA.nd) oU)))))
   (z9 (qz 2 pA.nd (tD (z3 (qv 3) (z3 (zN yO (qv 3) (qv 4)) (z3 (qv 4) (z3 (zN yO (qv 4) (qv 5)) 1#14))))))
   (zD (qz 2 pA.nd (zN yO (qv 2) (tD (z3 (zN yO (qv 3) (qv 5)) (z3 (zN yO (zN yO (qv 3) (qv 4)) (qv 5)) (z3 (zN yO (qv 5) (qv 4)) z7))))))))) yC)
   (z9 (qz 6 pA.nd 2#2)
   (z9 (zZ (PW.pt (pZ (qc 3#10 (qv 1) z6) (jA (qc 3#10 (qv 1) z6)))) (zD (y2 (yN (z3 (vB (qv 2) vK (wM z6)) (z3 (zN yO (vB (qv 2) (wM (qv 6)) vK) (vB (qv 2) vK (wM (qv 6)))) (z3 (vB (zvs (qv 2) (wM (zni zm5 z6))) vK (wM z6)) z7)))))) yC)
   (zD (y2 (yN (z3 (vB (qv 2) vK (wM z6)) (z3 8#16 (z3 8#16 z7))))))))))),λxs st Q h=> ?_⟩
 obtain⟨i,a,b,rfl,hi,hb,q⟩:=h;have zm: ∀{a b:Int},(st.set i 3#3)[i]?=some 3#3:=λ{a b} =>sT hi;have small_l:((13#1 :Str)).length<=ak:=bh (m:=1000) 1#0 2#0;symm
 ac_nf
 refine⟨i,4,a,b,rfl,hi,hb,2#0,2#0,λform a b f0 f1 hb=> ?_⟩
 ac_nf
 symm
 ac_nf
 refine⟨i,8,a,b,rfl,zm,hb,2#0,2#0,λws a b At hwn hwo hb=> ?_⟩;have hwl':ws.length=8:=0#0
 ac_nf
 refine tG (λenv s=> ∃(ws:List Str) (v1 v2 v3:Option PV) (a b:Int),env= [some (PV.obj i),some (.int form),some (.lst 6#3),v1,v2,v3,none]/\ws.length=8/\ws.Nodup/\(∀w∈ws,vX w)/\yE a b/\s=st.set i 3#3) (λN hN=> ?_) ?_
 ·by_cases hf:form=2
  ·subst hf
   simp? only[beq_self_eq_true];symm
   ac_nf
   refine⟨i,24,a,b,rfl,zm,hb,2#0,2#0,λk a b k0 k1 hb=> ?_⟩;obtain⟨n,rfl⟩: ∃n:Nat,k=n:=⟨k.toNat,0#0⟩;have hn:n < 24:=0#0
   have hc:=zq_ n hn
   ac_nf
   refine⟨small_l,λl1=>⟨bh l1 small_l,λl2=> ?_⟩⟩;rw[hc];refine⟨rfl,?_⟩;have e3:(lC ⟨#[97+n,97+(n+1),97+(n+2)]⟩).map PV.str= [.str (sg n),.str (sg (n+1)),.str (sg (n+2))]:=rfl;rw[e3];have l1': ∀k,(sg k).length=1:=λk=>rfl;have Ah: ∀{n:Nat},n<=1000->n<=ak:=λh=>bh h 2#0
   ac_nf
   symm;simp? only[l1',iw];refine⟨Ah 2#0,Ah 2#0,?_⟩;simp? only[l1',iw];exact⟨Ah 2#0,Ah 2#0,Ah 2#0,Ah 2#0,Ah 2#0,hN _ _ ⟨gH n,_,_,_,a,b,rfl,rfl,zqQ n hn,zqR n hn,hb,rfl⟩⟩
  ·have hf':(form==2)=false:=by simpa using hf
   simp? only[hf'];exact hN _ _ ⟨ws,_,_,_,a,b,rfl,hwl',hwn,hwo,hb,rfl⟩
 ·rintro env s ⟨ws,v1,v2,v3,a,b,rfl,At,hwn,hwo,hb,rfl⟩
  symm
  ac_nf
  refine⟨i,8,a,b,rfl,zm,hb,2#0,2#0,λk a b k0 k1 hb=> ?_⟩;obtain⟨n,rfl⟩: ∃n:Nat,k=n:=⟨k.toNat,0#0⟩
  ac_nf
  symm
  ac_nf
  have e6:xW 6#3 none (some 6)=(ws.take 6).map PV.str:=by rw[show((6:Int))=((6:Nat):Int)from rfl,pM,kg]
  have l6:(ws.take 6).length=6:=by rw[cz];grobner
  have n6:(ws.take 6).Nodup:=hwn.sublist (jk _ _);have done:(xW 6#3 (some (n:Int)) none).length+(xW 6#3 none (some (n:Int))).length<=ak/\Q (.tup [.lst (xW 6#3 none (some 6)),.lst (xW 6#3 (some (n:Int)) none++xW 6#3 none (some (n:Int))),.lst (xW (ws.map PV.str).reverse none (some 6))]) 5#11:=by
   rw[e6,gF,pM,<- pp,<- kg,<- bb,<- pz,show((6:Int))=((6:Nat):Int)from rfl,pM,<- kg];have hp:(ws.drop n++ws.take n).Perm ws:=gu.trans (by rw[fo]);refine⟨?_,q _ _ _ a b l6 n6 (hp.length_eq.trans At) (hp.nodup_iff.mpr hwn) (λw hw=>hwo w (hp.mem_iff.mp hw)) ?_ ?_ (((List.reverse_perm ws).nodup_iff.mpr hwn).sublist (jk _ _)) hb⟩
   ·rw[ae,ae,kx,cz,di];grobner
   ·intro z;have:=congrArg List.length z;rw[cz,gd,At]at this;exact absurd this 2#0
   ·rw[cz];grobner
  by_cases hf:form=1∨form=2
  ·rcases hf with rfl | rfl
   ·simp? only[beq_self_eq_true]
    exact done
   ·simp? only[beq_self_eq_true]
    exact done
  ·have hb1:(form==1)=false:=by simp at hf⊢;exact hf.1
   have hb2:(form==2)=false:=by simp at hf⊢;exact hf.2
   simp? only[hb1,hb2];refine⟨i,8,a,b,rfl,zm,hb,2#0,2#0,λns a b hnl AH hno hb=> ?_⟩
   ac_nf
   refine⟨i,6,a,b,rfl,zm,hb,2#0,2#0,λts a b htl htn _ hb=> ?_⟩;rw[e6]
   ac_nf
   exact q _ ns ts a b l6 n6 0#0 AH hno (λz=>by rw[z]at htl;simp at htl) 0#0 htn hb
theorem zmu:([8#1,44#1,46#1,54#1,64#1,0#1,86#1,"_law_names",10#1,51#1,25#1,12#1,21#1,59#1,29#1,"_law_others","_law_turn",24#1]:List Str).Nodup:=1#0
theorem zty {f:ac}{fd:bu}(M:Mo w K mg)(F:yA K 52#1 52#1 l4 f fd):zM P w K mg base zY 22 f fd [8#1,44#1,46#1,54#1,64#1] (zX K zwF):=by
 obtain⟨_,_,lS,bS,zeV⟩:=M._law_box;have cX:= @zm9 P w K mg base _ _ M lS;obtain⟨_,_,zS,y4,y6⟩:=M._law_take;have y3:= @tQ P w K mg base _ _ M zS;obtain⟨_,_,zgH,zpW,zsu⟩:=M._law_manner;have zph:= @ztx P w K mg base _ _ M zgH;obtain⟨_,_,zgD,zpS,zsq⟩:=M._law_begin;have zpb:= @zts P w K mg base _ _ M zgD;obtain⟨zrg,zri,iH,kF,kT⟩:=M._law_hand;have zpe:zM P w K mg base zY 21 zrg zri 5#16 (zX K (dZ 8)):=zm_ M iH kF kT 8;obtain⟨_,_,zgK,zpZ,zsx⟩:=M._law_three_words;have zpk:= @zt1 P w K mg base _ _ M zgK;refine x5 0 F tS (λxs st Q h=>by obtain⟨ns,hands,rfl,_⟩:=h;rfl) ⟨_,λzr A outer s H E hr=>have hr1:zI 1 _:=hr.mono 2#0;have hr3:zI 3 _:=hr.mono 2#0;have hr10:zI 10 _:=hr.mono 2#0;have hr21:zI 21 _:=hr.mono 2#0;(z9 (qz 5 tS.nd (qk cX hr1 zeV lS bS (z3 (qv 0) 4#11)))
   (z9 (uL (qk zpk hr3 zsx zgK zpZ 1#14) (mW (n:=3) rfl (vR (qn 6 tS.nd) (vR (qn 7 tS.nd) (vR (qn 8 tS.nd) oU)))))
   (zv1 (fU (i:=9) tS.nd rfl (Or.inr rfl) (qB z7)) (u0 dy rfl (mX 4#0 M.range (z3 (zN yO z6 (qk y3 hr1 y6 zS y4 (z3 (qv 5) (z3 z6 z7)))) z7)) (qn 10 tS.nd) (z9 (qz 11 tS.nd (qk zph hr10 zsu zgH zpW (z3 (qv 5) (z3 (qv 2) (z3 (qv 3) z7)))))
   (zD (xH (vA cq dk dm 2#0 tP (qv 9) (z3 (yN (z3 (qx hr (qv 6) (qv 10)) (z3 (qv 11) (z3 (qk zpb hr3 zsq zgD zpS (z3 (qv 5) (z3 (qv 11) (z3 (qv 8) z7)))) z7)))) z7))))))
   (z9 (qz 12 tS.nd (zN yO z6 (qk y3 hr1 y6 zS y4 (z3 (qv 5) 6#16))))
   (z9 (zf2 (i0:=13) (own:= [24#1]) (uY (fsc:=zQ l4) (N:= 0#3) (N':= 0#3) rfl rfl 1#0) tS.nd rfl 9#16 rfl (mX 4#0 M.range (z3 (qv 12) z7)) (λC s H fp zc=>(qn 17 zmu)) 0#10 (λC s H fp zc=>(yN (z3 (qv 9) (z3 (qv 9) z7)))))
   (z9 (zZ (mY (qv 3)) (zD p8) yC)
   (zv2 (i:=14) tS.nd rfl (Or.inr rfl) (fT zG (qv 7) (fT zG (qv 8) (fT zG (qv 13) (fT zG (zvq rfl 4#0 M.list 4#0 M.range (z3 z6 (z3 (qv 12) z7))) zvw)))) rfl rfl 3#0 2#0 (zna (zft (vJ zfq (vJ zfq rZ))) (zmV rfl (zfw (zfu (fL (i:=14) rfl (by first | exact Or.inl rfl | exact Or.inr 9#16 | exact Or.inr (Or.inr rfl))) oR (znB hr)) (zfw (zfu (fL (i:=14) rfl (by first | exact Or.inl rfl | exact Or.inr 9#16 | exact Or.inr (Or.inr rfl))) oR (znB hr)) zmW))))
   (z9 (xH (qk zpe hr21 kT iH kF (z3 (qv 0) (z3 (zN yO (qv 1) z6) (z3 (qv 14) (z3 z6 z7))))))
   (z9 (zf2 (i0:=15) (own:= [24#1]) (uY (fsc:=zQ l4) (N:= 0#3) (N':= 0#3) rfl rfl 1#0) tS.nd rfl 9#16 rfl (znk 4#0 M.range (z3 z6 (z3 (qv 12) z7))) (λC s H fp zc=>(qn 17 zmu)) (λC s H fp zc=>j9 (tF (mR hr) (qv 17) (uA (uI hr) (qv 14) zG (λ_ _=>rfl)) 4#0)) (λC s H fp zc=>(qx hr (uA (uI hr) (qv 14) zG (λ_ _=>rfl)) (qv 17))))
   (z9 (qz 16 tS.nd (qk y3 hr1 y6 zS y4 (z3 (qv 5) (z3 (zN yO (wG wL 4#0 M.len dn (z3 (qv 15) z7)) z6) z7))))
   (zD (y2 (yN (z3 (wV qY 4#0 M.tuple qK (z3 (qv 9) z7)) (z3 (zN yO (yN (z3 (qx hr (uA (uI hr) (qv 14) zG (λ_ _=>rfl)) z6) z7)) (wV qY 4#0 M.tuple qK (z3 (zN yO (vB (qv 15) (wM (qv 16)) vK) (vB (qv 15) vK (wM (qv 16)))) z7))) z7))))))))))))))),λxs st Q h=> ?_⟩
 obtain⟨ns,hands,rfl,rfl,hl,h1,h8,q⟩:=h;symm
 ac_nf
 refine⟨ns,0,rfl,hl,2#0,λa b hb=> ?_⟩
 ac_nf
 symm
 ac_nf
 refine⟨0,a,b,rfl,rfl,hb,λus nms ts a b hul hun hnl AH hno hte htl htn hb=> ?_⟩
 ac_nf
 have hkp:mI= .lst [.str "last",.str "sum",.str "bag",.str 73#1,.str 84#1]:=rfl;symm;unfold zo3;symm
 ac_nf
 refine⟨0,6,a,b,rfl,rfl,hb,2#0,2#0,λn a b n0 n1 hb=> ?_⟩
 ac_nf
 refine⟨⟨0#0,0#0⟩,vZ (λk env s=> ∃(sh:List Sh) (v w:Option PV) (a b:Int),env= [some (.lst 0#13),some (.int 0),some mI,some (.bl false),some (.int hands),some (.obj 0),some (.lst (us.map PV.str)),some (.lst (nms.map PV.str)),some (.lst (ts.map PV.str)),some (.obj 1),v,w,none,none,none,none,none]/\sh.length=k/\(∀s∈sh,rL s)/\sh.map (·.1)=us.take k/\yE a b/\s= [zA a b,.lst 2#6])
  ⟨[],none,none,a,b,rfl,rfl,3#0,rfl,hb,rfl⟩ ?_ ?_⟩
 ·rintro k x env s hx ⟨sh,v,w,a,b,rfl,hk,hsh,hnm,hb,rfl⟩
  obtain⟨hk2,rfl⟩:=o4 hx;have hku:k < us.length:=0#0
  have eu:atI (us.map PV.str) 6#15=some (.str us[k]):=by rw[Int.zero_add];exact wK (by rw[br,bz hku];rfl)
  ac_nf
  symm
  ac_nf
  refine⟨0,a,b,rfl,rfl,hb,λkd r a b hmn hb=> ?_⟩;simp? only[eu];refine⟨0,kd,r,ts,a,b,rfl,rfl,hb,hmn,hte,0#0,htn,λh a b hh hb=> ?_⟩;simp? only[zl6,ae];refine⟨bp (m:=1000) 0#0 2#0,sh++ [(us[k],.tup (.str kd::r),h.pv)],_,_,a,b,rfl,by simp[hk],λs hs=> ?_,?_,hb,by simp[y7]⟩
  ·rcases aq.mp hs with hs | hs
   ·exact hsh s hs
   ·rw[ao.mp hs];exact⟨kd,r,h,rfl,hmn,rfl,hh⟩
  ·rw[pE (bz hku),bb,hnm];rfl
 rintro env s ⟨sh,v,w,a,b,rfl,hk,hsh,hnm,hb,rfl⟩;rw[p9]at hk;have hshn:(sh.map (·.1)).Nodup:=by rw[hnm];exact hun.sublist (jk _ _)
 have Ax:1<=sh.length/\sh.length<=6:=0#0
 refine⟨[zA a b],sh.map y7,rfl,3#0,?_⟩;change uP _ _ _ [some (.lst 0#13),some (.int 0),some mI,some (.bl false),some (.int hands),some (.obj 0),some (.lst (us.map PV.str)),some (.lst (nms.map PV.str)),some (.lst (ts.map PV.str)),some (.lst 2#6),oI 1 (.lst 2#6) v,oI 1 (.lst 2#6) w,none,none,none,none,none] [zA a b];generalize oI 1 (.lst 2#6) v=v;generalize oI 1 (.lst 2#6) w=w;symm
 ac_nf
 refine⟨0,hands,a,b,rfl,rfl,hb,0#0,0#0,λm a b m0 m1 hb=> ?_⟩;obtain⟨m,rfl⟩: ∃n:Nat,m=n:=⟨m.toNat,0#0⟩
 ac_nf
 symm
 ac_nf
 refine⟨⟨0#0,0#0⟩,?_⟩;refine sQ (λ_=>some (.tup 6#18)) (λj x e hx he=> ?_) ?_
 ·obtain⟨y,rfl⟩:=sB he
  ac_nf
  exact CP.yes (e':= [_]) hx rfl rfl
 have huse:(uM 0 (1+(m:Int)).toNat).filterMap (λ_=>some (PV.tup 6#18))=List.replicate (m+1) (PV.tup 6#18):=by
  rw[show(1+(m:Int)).toNat=m+1 by grobner];unfold uM;generalize m+1=q;rw[ol]
  induction q with
  | zero=>rfl
  | succ q ih=>rw[List.range_succ,gl,ih,List.replicate_succ'];rfl
 simp? only[huse];symm
 ac_nf
 symm;simp? only[zg4,cM];have esp:(List.range (1+(m:Int) - 1).toNat).map (λ(i:Nat)=>PV.int (1+(i:Int)))=(vD m).map yR:=by
  rw[show(1+(m:Int) - 1).toNat=m by grobner];unfold vD yR;rw[bx];refine ko λi _=> ?_;show PV.int (1+(i:Int))=PV.int (((i+1:Nat)):Int)
  congr 1;grobner
 rw[esp];obtain⟨U,eU⟩: ∃U,List.replicate (m+1) (PV.tup 6#18)=U:=⟨_,rfl⟩;rw[xo]at eU;rw[eU];refine⟨⟨0#0,0#0⟩,[(.inr "names",.lst (nms.map PV.str)),(.inr "things",.lst (ts.map PV.str)),(.inr "uses",.lst U),(.inr "spare",.obj 2)],[.lst ((vD m).map yR)],rfl,3#0,rfl,?_,?_,?_,?_⟩
 ·intro x hx kvs ys;constructor <;> (intro z;subst z;simp at hx)
 ·intro q hq z;simp at hq;rcases hq with rfl | rfl | rfl | rfl <;> cases z
 ·show([.inr "names",.inr "things",.inr "uses",.inr "spare",.inr "ends",.inr "rows"]:List z8).Nodup
  decide+kernel
 obtain⟨kv,ekv⟩: ∃kv,mV 1 "ends" "rows" [(.inr "names",.lst (nms.map PV.str)),(.inr "things",.lst (ts.map PV.str)),(.inr "uses",.lst U),(.inr "spare",.obj 2)] 2=kv:=⟨_,rfl⟩;have ekv':kv= [(.inr "names",.lst (nms.map PV.str)),(.inr "things",.lst (ts.map PV.str)),(.inr "uses",.lst U),(.inr "spare",.obj 1),(.inr "ends",.obj 2),(.inr "rows",.obj 3)]:=ekv.symm;have KV:zhi kv nms ts sh (m+1):=by
  rw[ekv'];refine⟨?_,?_,?_,?_,?_,?_⟩
  ·exact uQ
  ·rw[w6 1#0];exact uQ
  ·rw[w6 1#0,w6 1#0,xo,eU];exact uQ
  ·rw[w6 1#0,w6 1#0,w6 1#0];exact uQ
  ·rw[w6 1#0,w6 1#0,w6 1#0,w6 1#0];exact uQ
  ·rw[w6 1#0,w6 1#0,w6 1#0,w6 1#0,w6 1#0];exact uQ
 show uP _ _ _ _ [zA a b,.lst ((vD m).map yR),.dct [],.dct [],.rcd (mV 1 "ends" "rows" _ 2)];rw[ekv];have eG: [zA a b,.lst ((vD m).map yR),.dct [],.dct [],.rcd kv]=G 3#3 kv (zB nms) (vD m) [] [] []:=rfl;rw[eG];symm
 ac_nf
 refine⟨ns,_,0,zA a b,kv,nms,ts,sh,m+1,vD m,[],[],[],rfl,rfl,⟨hl,2#0,by rw[lH];grobner,KV,AH,0#0,hnl,0#0,hsh,λz=>by rw[z]at Ax;simp at Ax,0#0,hte,0#0,znP m,λx hx=>by have:=nA.mp hx;grobner,λz=>by have:=nA.mp z;grobner,3#0,3#0,3#0,by rw[lH];simp;grobner,by rw[lH];simp;grobner⟩,by rw[lH];grobner,λzk ks X E1 rs hd I hz AA=> ?_⟩;obtain rfl:=hz rfl;obtain⟨Y,eY⟩: ∃Y,X++ [((0:Nat),rs)]=Y:=⟨_,rfl⟩;rw[jc,jc,eY];have kr:=KV.rows
 ac_nf
 symm
 ac_nf
 refine⟨⟨0#0,0#0⟩,?_⟩;refine sQ (λx=>match x with | .int k=>zH (u3 (zB nms) Y) (.inl k) | _=>none) (λj x e hx he=> ?_) ?_
 ·obtain⟨hj,rfl⟩:=o4 hx
  obtain⟨y,rfl⟩:=sB he;have hin: ∀{Q:K3},xQ false (.int (1+(j:Int))) (.obj 3) (G 3#3 kv (zB nms) zk E1 Y []) Q=Q (.bl (zH (u3 (zB nms) Y) (.inl (1+(j:Int)))).isSome) (G 3#3 kv (zB nms) zk E1 Y []):=λ{Q} =>by
   unfold xQ uN rN;dsimp only;rw[vG]
   rfl
  simp? only[wW,kr,vG,v0,hin];have ej:(1+(j:Int))=((1+j:Nat):Int):=0#0
  have hval:zH (u3 (zB nms) Y) (.inl (1+(j:Int)))=(wT (zB nms) Y (1+j)).map zW:=by rw[ej,f7]
  cases hlk:wT (zB nms) Y (1+j)with
  | none=>
   rw[hlk]at hval;rw[hval]
   ac_nf
   exact CP.no (e':= [_]) hx hval rfl
  | some h=>
   rw[hlk]at hval;rw[hval];show if true=true then _ else _
   rw[if_pos rfl];exact⟨rfl,CP.yes (e':= [_]) hx hval rfl⟩
 have eoth:(uM 1 (1+(m:Int) - 1).toNat).filterMap (λx=>match x with | .int k=>zH (u3 (zB nms) Y) (.inl k) | _=>none)=((vD m).filterMap (wT (zB nms) Y)).map zW:=by
  rw[show(1+(m:Int) - 1).toNat=m by grobner];unfold uM vD;rw[ol,ol,List.map_filterMap];refine gQ λi _=> ?_;show zH (u3 (zB nms) Y) (.inl (1+(i:Int)))=(wT (zB nms) Y (i+1)).map zW;rw[show(1+(i:Int))=((i+1:Nat):Int) by grobner,f7]
 rw[eoth];obtain⟨Az,eo⟩: ∃Az,(vD m).filterMap (wT (zB nms) Y)=Az:=⟨_,rfl⟩;rw[eo];have ks0: ∀k∈X.map (·.1),k∈vD m:=λk hk=>I.sub k (ax _ (by rw[<- I.xk];exact hk));have eo2:Az=(vD m).filterMap (wT (zB nms) X):=by
  rw[<- eo,<- eY];exact gQ λk hk=>zso (by have:=nA.mp hk;grobner)
 have hperm:Az.Perm (X.map (qE (zB nms))):=by
  rw[eo2];exact zmb (by rw[I.xk];exact(bj.mp I.nd).1) (znP m) ks0
 have hXl:X.length<=7:=by
  have:=I.len;rw[lH]at this;have h2:X.length=ks.length:=by rw[<- I.xk,ae]
  grobner
 have hol:Az.length<=7:=by rw[hperm.length_eq,ae];exact hXl
 have h0v:zH (u3 (zB nms) Y) (.inl 0)=some (zW (zB nms 0,rs)):=by
  rw[show(0:Int)=((0:Nat):Int)from rfl,f7,<- eY];unfold wT;rw[yi];have hno:(X.find? λp=>p.1==0)=none:=by
   rw[so];intro p hp hz;have:=nA.mp (ks0 p.1 (cg hp));have:p.1=0:=by simpa using hz
   grobner
  rw[hno];rfl
 symm;simp? only[ae];refine⟨0,_,a,b,rfl,rfl,hb,0#0,0#0,λt a b t0 t1 hb=> ?_⟩;obtain⟨t,rfl⟩: ∃n:Nat,t=n:=⟨t.toNat,0#0⟩;have eG2: ∀{a' b':Int} {z:List Ee},(G (zA a' b') kv (zB nms) zk z Y []).set 0 3#3=G 3#3 kv (zB nms) zk z Y []:=λ{a' b' z} =>rfl;rw[eG2];simp? only[wW,kr,vG,v0,h0v];rw[gF,pM,<- pp,<- kg,<- bb];have hp2:(Az.drop t++Az.take t).Perm Az:=gu.trans (by rw[fo]);have hrot:(Az.drop t++Az.take t).length<=7:=by rw[hp2.length_eq];exact hol
 refine⟨rfl,by rw[ae,ae,kx,cz,di];grobner,by rw[ae,di];grobner,?_⟩;have hsh2:sh.map y7=(sh.map lE).map zV:=by rw[bx];rfl
 rw[hsh2];have hh7:=lH m;refine q (sh.map lE) (zB nms 0,rs) (Az.drop t++Az.take t) (zuA (X:=X) AH (sp:=vD m) (λx hx=>by have:=nA.mp hx;grobner) 0#0 0#0 I.toLI AA (by rw[bx];exact hshn) (by rw[ae];grobner) (λs hs=> ?_) (λs hs=>by obtain⟨s0,hs0,rfl⟩:=cb.mp hs;exact⟨_,_,rfl⟩) ?_) (zuC (X:=X) AH (sp:=vD m) (λx hx=>by have:=nA.mp hx;grobner) 0#0 0#0 I (hp2.trans hperm)) ⟨sh,rfl,hshn,0#0,hsh,λh hh r hr=> ?_⟩ (λh hh=> ?_)
 ·obtain⟨s0,hs0,rfl⟩:=cb.mp hs
  exact zwu (hsh s0 hs0)
 ·rw[bb]
  refine(List.Perm.cons _ (hp2.trans hperm)).trans ?_;exact(lr _ _).symm
 ·rcases bo.mp hh with rfl | hh
  ·exact I.ro r hr
  ·obtain⟨p,hp,rfl⟩:=cb.mp ((hp2.trans hperm).mem_iff.mp hh)
   exact(I.rx p hp).1 r hr
 ·have nk: ∀k,k < 8->vX (zB nms k):=λk hk=>zsZ hno 0#0
  rcases bo.mp hh with rfl | hh
  ·exact nk 0 2#0
  ·obtain⟨p,hp,rfl⟩:=cb.mp ((hp2.trans hperm).mem_iff.mp hh)
   exact nk p.1 (by have:=nA.mp (I.sub p.1 (ax _ (I.xk▸cg hp)));grobner)
theorem zsL:([3#1,15#1,"_law_n",38#1,26#1,"_law_row_here","_law_one"]:List Str).Nodup:=1#0
theorem zmA {f:ac}{fd:bu}(M:Mo w K mg)(F:yA K 71#1 71#1 jH f fd)(kG:xI K fd 5#18 [])(kU:mg 71#1 =some 2#8): ∀d,zM P w K mg base zY (d+1) f fd 5#18 (zX K (jX d))
 | 0=>⟨λvs H Q E h=>(znK h).elim,λA outer s H args us vs Q E _ _ _ _ h=>(znK h).elim⟩
 | d+1=>by
  have IH:zM P w K mg base zY (d+1) f fd 5#18 (zX K (jX d)):=zmA M F kG kU d;have iI:=F;refine x5 0 F l9 (λxs st Q h=>by obtain⟨sh,hs,en,rj,h,n,rfl,_⟩:=h;rfl) ⟨_,λzr A outer s H E hr=>(z9 (qz 3 l9.nd (wV (zfh rfl) 4#0 M.dict nV (z3 3#2 z7)))
   (z9 (qz 4 l9.nd (qB z7))
   (z9 (u0 dy rfl (wH (vB (qx hr (qv 3) (qv 1)) vK (wM (qv 2)))) (znj (i:=5) l9.nd rfl (Or.inr rfl)) (z9 (zZ (qc 3#10 6#5 zG) (zD (xH (vA cq dk dm 2#0 tP (qv 4) (z3 6#5 z7)))) yC)
   (zD (zZ (qc 3#10 6#5 zG) (z9 (znl (i0:=4) (own:= ["_law_one"]) (uY (fsc:=zQ jH) (N:= 0#16) (N':= 0#16) rfl rfl 1#0) l9.nd rfl 9#16 rfl (wH (qv 4)) (λC s H fp zc=>(qn 6 zsL)) (λC s H fp zc=>j9 (qc (qW hr) (qv 6) 6#5)) (λC s H fp zc=>(qv 6)))
   (zD (qz 4 l9.nd (zN ztf (qv 4) (qk IH hr kU iI kG (z3 (qv 0) (z3 6#5 (z3 (wG wL 4#0 M.len dn (z3 (qx hr (qv 3) 6#5) z7)) z7)))))))) yC))))
   (zD (y2 (qv 4)))))),λxs st Q h=> ?_⟩
  obtain⟨sh,hs,en,rj,h,n,rfl,O,G,hh,hd,q⟩:=h;have big:(6725600:Nat) < ak:=by rw[di];decide
  have e1:((31#1 :Str)== 31#1)=true:=1#0
  have e2:((31#1 :Str)== 28#1)=false:=1#0
  have e3:((28#1 :Str)== 31#1)=false:=1#0
  have e4:((28#1 :Str)== 28#1)=true:=1#0
  have lb:=λn=>G.lenB O hh n;have hps:(hs.map zW).map q9=(vL hs).map some:=by unfold vL;rw[bx,bx];rfl
  have AI:u8 [] (vL hs)=vL hs:=mM (by rw[jc,zfQ];exact kQ O.hn);have hrw: ∀{g:Hd},g∈hs->zH (vL hs) (.inr g.1)=some (.tup (g.2.map Rh.pv)):=λ{g} hg=>eL O.hn hg;have ct:xW 5#4 none (some (n:Int))=(h.2.take n).map Rh.pv:=by rw[pM,<- kg]
  obtain⟨p,ep⟩: ∃p,yF sh hs=p:=⟨_,rfl⟩;have ep2:p= .tup 2#7:=by rw[<- ep];rfl
  have recd: ∀{g:Hd} {Q:K3} {st:z5},g∈hs->rj g.1 < d->Q (.lst ((y9 en (g.2.take g.2.length)).map PV.str)) st->jX d [p,.str g.1,.int g.2.length] st Q:=λ{g Q st} h1 h2 h3=>⟨sh,hs,en,rj,g,g.2.length,by rw[ep],O,G,h1,h2,h3⟩;rw[ep,ep2];symm;simp? only[jB];refine⟨_,hps,?_⟩;rw[AI];symm
  ac_nf
  symm;simp? only[hrw hh,ct];refine vZ (λk env s=> ∃(G2:z5) (i:Nat) (v:Option PV),env= [some (.tup 2#7),some (.str h.1),some (.int n),some (.dct (vL hs)),some (.obj i),v]/\s=st++G2/\st.length<=i/\s[i]?=some (.lst ((y9 en ((h.2.take n).take k)).map PV.str))) ⟨[.lst []],st.length,none,rfl,rfl,ar _,vQ⟩ ?_ ?_
  ·rintro k x env s hx ⟨G2,i,v,rfl,rfl,hi,Ai⟩
   obtain⟨r,hr,rfl⟩:=wC hx;have An:=pE hr;have AG:(h.2.take n).take k=h.2.take (min k n):=wj ..;have hl1:=lb (min k n);rw[<- AG]at hl1;have hkn2:(h.2.take n).take (k+1)=h.2.take (min (k+1) n):=wj ..;have hl2:=lb (min (k+1) n);rw[<- hkn2]at hl2;have hil:i < (st++G2).length:=(ah.mp Ai).1;obtain⟨F,eF⟩: ∃F,y9 en ((h.2.take n).take k)=F:=⟨_,rfl⟩;rw[eF]at Ai hl1;have hF:y9 en ((h.2.take n).take (k+1))=tN en F r:=by rw[An,oJ,eF]
   rw[hF]at hl2;cases r with
   | pl r=>
    obtain⟨k1,more,e,h1,h2⟩:=zfz r;rw[e]
    ac_nf
    symm;simp? only[h1];simp? only[h2];exact⟨G2,i,_,rfl,rfl,hi,by rw[hF];exact Ai⟩
   | split y=>
    unfold Rh.pv
    ac_nf
    symm;simp? only[e1,Ai,ae];refine⟨0#0,?_⟩;simp? only[e2];refine⟨_,i,_,rfl,gm _ _ hi,hi,?_⟩;rw[dv hil,hF];show _=some (PO.lst ((F++ [y]).map PV.str));rw[bb];rfl
   | join y=>
    have hy':Rh.join y∈h.2:=kb (au.mpr ⟨k,hr⟩);have Au:=G.jr h hh y hy';obtain⟨g,hg,rfl⟩:=cb.mp ((G.je y).mp (fh.mpr ⟨h,hh,cy.mpr ⟨_,hy',rfl⟩⟩));have hg':=iq hg;unfold Rh.pv
    ac_nf
    symm;simp? only[e3];simp? only[e4];symm;simp? only[Ai];refine zq9 Ai (pV g.1) (λj x e hx he=> ?_) ?_
    ·obtain⟨z,hz,rfl⟩:=wC hx
     obtain⟨y,rfl⟩:=sB he;by_cases ez:z=g.1
     ·have hb:(z==g.1)=true:=beq_iff_eq.mpr ez
      simp? only[hb];exact CP.no (e':= [_]) hx (by unfold pV;dsimp only;rw[if_neg (by simp[ez])]) rfl
     ·have hb:(z==g.1)=false:=by simpa using ez
      simp? only[hb];exact CP.yes (e':= [_]) hx (by unfold pV;dsimp only;rw[if_pos ez]) rfl
    obtain⟨F2,eF2⟩: ∃F2,(F.filter λz=>decide (z≠g.1))=F2:=⟨_,rfl⟩;rw[zmv,eF2];simp? only[hrw hg',ae];rw[<- ep2];refine recd hg' 0#0 ?_;rw[du,(G.hb g hg').1];have hl3:(tN en F (.join g.1)).length=F2.length+(en g.1).length:=by rw[<- eF2];exact am
    have lo: ∀{x:List PV},rV (.obj (st++G2).length) (st++G2++ [.lst x])=some x:=λ{x} =>by unfold rV;dsimp only;rw[vQ]
    refine⟨_,_,lo,rfl,by rw[ae,ae];grobner,?_⟩;refine⟨G2++ [.lst (F2.map PV.str)]++ [.lst (F2.map PV.str++(en g.1).map PV.str)],_,_,rfl,by rw[bi,bi,bi],by rw[am,am];grobner,?_⟩;rw[vQ,hF];show _=some (PO.lst (((F.filter λz=>decide (z≠g.1))++en g.1).map PV.str));rw[eF2,bb]
  ·rintro env s ⟨G2,i,v,rfl,rfl,hi,Ai⟩
   rw[ae,ck (ar _)]at Ai
   ac_nf
   unfold xB;dsimp only;rw[if_neg 0#0,Ai];dsimp only;rw[ki (ar _),du];exact q
theorem zt0 {f:ac}{fd:bu}(M:Mo w K mg)(F:yA K 50#1 50#1 dB f fd):zM P w K mg base zY 1 f fd 6#14 (zX K zwH):=by
 refine x5 0 F jN (λxs st Q h=>by obtain⟨sh,hs,h,k,a,b,rfl,_⟩:=h;rfl) ⟨_,λzr A outer s H E hr=>(z9 (qz 3 jN.nd (qB z7))
   (z9 (u0 dy rfl (wH 3#2) (mW (n:=2) rfl (vR (qn 4 jN.nd) (vR (qn 5 jN.nd) oU))) (z9 (zZ (qc 3#10 (qv 4) (qv 1)) (zD (qz 5 jN.nd (zN yO (zN yO (vB (qv 5) vK (wM (qv 2))) (yN (z3 (qx hr (qv 5) 8#13) (z3 (qx hr (qv 5) (qv 2)) z7)))) (vB (qv 5) (wM 8#13) vK)))) yC)
   (zD (xH (vA cq dk dm 2#0 tP (qv 3) (z3 (yN (z3 (qv 4) 1#14)) z7))))))
   (zD (y2 (yN (z3 3#2 (z3 (wV qY 4#0 M.tuple qK (z3 (qv 3) z7)) z7))))))),λxs st Q h=> ?_⟩
 obtain⟨sh,hs,h,k,a,b,rfl,hh,O,J,q⟩:=h;have big:(1000:Nat) < ak:=by rw[di];decide
 have hl8:=O.hl;have AA:=O.rl h hh;obtain⟨A,B,e1,hlA,htA,hdB,e2⟩:=J.parts;have i0:atI 5#4 (k:Int)=some (Rh.join a).pv:=wK (by rw[br,J.1];rfl);have i1:atI 5#4 ((k:Int)+1)=some (Rh.join b).pv:=by rw[show(k:Int)+1=((k+1:Nat):Int)from rfl];exact wK (by rw[br,J.2];rfl)
 have c1:xW 5#4 none (some (k:Int))=A.map Rh.pv:=by rw[pM,<- kg,htA]
 have c2:xW 5#4 (some ((k:Int)+2)) none=B.map Rh.pv:=by rw[show(k:Int)+2=((k+2:Nat):Int)from rfl,gF,<- pp,hdB]
 have lAB:A.length+2+B.length<=30:=by rw[e1]at AA;simp only[am,bv]at AA;grobner
 have ej: ∀y,(Rh.join y).pv= .tup [.str 28#1,.str y]:=λy=>rfl;have et:A.map Rh.pv++ [PV.tup [.str 28#1,.str b],.tup [.str 28#1,.str a]]++B.map Rh.pv=(vN k h.2).map Rh.pv:=by rw[e2];simp[Rh.pv]
 unfold yF;symm
 ac_nf
 symm
 ac_nf
 refine vZ (λj env s=> ∃(v4 v5:Option PV),env= [some (.tup 2#7),some (.str h.1),some (.int k),some 5#2,v4,v5]/\s=st++ [.lst 7#17]) ⟨none,none,rfl,rfl⟩ ?_ ?_
 ·rintro j x env s hx ⟨v4,v5,rfl,rfl⟩
  obtain⟨g,hg,rfl⟩:=wC hx;have hgm:g∈hs:=au.mpr ⟨j,hg⟩;have hjl:j < hs.length:=(ah.mp hg).1;have ltk:(((hs.take j).map 7#5).map zW).length < ak:=by rw[ae,ae,cz];grobner
  have hsn:=pE hg;unfold zW zV wP
  ac_nf
  refine tG (λenv s=>env= [some (.tup 2#7),some (.str h.1),some (.int k),some 5#2,some (.str g.1),some (.tup ((y8 h.1 k g).2.map Rh.pv))]/\s=st++ [.lst 7#17]) (λN hN=> ?_) ?_
  ·by_cases e:g.1=h.1
   ·have hb:(g.1==h.1)=true:=beq_iff_eq.mpr e
    have:g=h:=by
     obtain⟨i,hi⟩:=au.mp hh;have:j=i:=(dg (by rw[ae];exact hjl) O.hn).mp (by rw[br,br,hg,hi];show some g.1=some h.1;rw[e]);subst this;exact cf (hg.symm.trans hi)
    subst this;simp? only[hb,i0,i1,c1,c2,ej,ae];refine⟨0#0,by first | grobner | (simp only[am,ae,bv,jm];grobner),?_⟩;refine hN _ _ ⟨?_,rfl⟩;have:(y8 g.1 k g).2=vN k g.2:=by unfold y8;rw[if_pos rfl]
    rw[this,<- et]
    try rfl
    try simp
   ·have hb:(g.1==h.1)=false:=by simpa using e
    simp? only[hb];refine hN _ _ ⟨?_,rfl⟩;rw[lJ e];rfl
  ·rintro env s ⟨rfl,rfl⟩
   have ls:(st++ [PO.lst 7#17])[st.length]?=some (.lst 7#17):=vQ;simp? only[vQ,o5];refine⟨ltk,_,_,rfl,?_⟩;rw[hsn,bb,bb];rfl
 ·rintro env s ⟨v4,v5,rfl,rfl⟩
  rw[ae,ck (ar _)];simp? only[vQ];exact q
theorem zt2 {f:ac}{fd:bu}(M:Mo w K mg)(F:yA K 77#1 77#1 dF f fd):zM P w K mg base zY 14 f fd 6#14 (zX K znR):=by
 obtain⟨HE,C,J,fj,D,I,fi,A9,B9,N⟩:=M.XEs;obtain⟨ze5,ze3,lU,bX,zfa⟩:=M.exchanged;have b7:zM P w K mg base (xF P w gW) 13 ze5 ze3 [4#1,"H","k"] (vM K (dY D)):=zmC M N lU;refine x5 0 F lB (λxs st Q h=>by obtain⟨zj,h0,hs,h,kk,rfl,_⟩:=h;rfl) ⟨_,λzr A outer s H E hr=>have hr13:zI 13 _:=hr.mono 2#0;(z9 (qz 3 lB.nd uK)
   (z9 (qz 4 lB.nd uK)
   (z9 (zvt (i:=5) (j:=4) (r:=3) b7 hr13 zfa lU bX (λEE=>(z3 (qv 0) (z3 (qv 1) 4#8))) N.nt N.gt rfl rfl rfl lB.nd rfl rfl rfl rfl 2#0 (λe ws sl EE=>(oS (fN (i:=3) lB.nd rfl 9#16 (zfp (fK (show wA _ _ (λxs H Q=> ∃c cv b,xs= [V.ref e,c]/\nX c=some cv/\sj K 7#15 cv=some b/\Q (V.bl b) H)from zhB N.top N.nt 8#18) 4#0 M.isinstance vh (vJ (pv 5) (vJ (mU (v:= .ref HE) 4#0 N.gh rfl) rZ))) (zfs (fK (show wA _ _ (λxs H Q=> ∃c cv b,xs= [V.ref e,c]/\nX c=some cv/\sj K 7#15 cv=some b/\Q (V.bl b) H)from zhB N.top N.nt 8#18) 4#0 M.isinstance vh (vJ (pv 5) (vJ (zul (v:= .ty 27#1) 4#0 M.ValueError zqn rfl) rZ)))))) (j7 (fN (i:=3) lB.nd rfl 9#16 (zfp (pv 3) (zfs (zu0 (fK (show wA _ _ (λxs H Q=> ∃(p:ac) (cs:List ac) (b:Bool),xs= [V.ref e,V.ref p]/\H p=some (.tup (cs.map V.ref))/\kitAny K 7#15 (cs.map Value.ref)=some b/\Q (V.bl b) H)from zqt N.top N.nt 8#18) 4#0 M.isinstance vh (vJ (pv 5) (vJ (zft (vJ (mU (v:= .ref C) 4#0 N.gn rfl) (vJ (mU (v:= .ref A9) 4#0 N.ga rfl) (vJ (mU (v:= .ref B9) 4#0 N.gb rfl) rZ)))) rZ)))))))))) (λe D9 σ H h1 h2 h3 k9=>zxx N h1 h2 h3 k9) ⟨by show 5 < 6;decide,by show 3 < 6;decide⟩)
   (zD (y2 (yN (z3 (qv 3) 6#16))))))),λxs st Q h=> ?_⟩
 obtain⟨zj,h0,hs,h,kk,rfl,hh,O,tv,q⟩:=h;obtain⟨p,ep⟩: ∃p,yF 3#8 (h0::hs)=p:=⟨_,rfl⟩;have tp:tupVs [p,.str h.1,.int kk]=true:=by rw[<- ep];simp only[tupVs,yW,zos tv,sy]
 rw[ep];symm
 ac_nf
 symm
 ac_nf
 symm
 ac_nf
 rcases q with⟨z,q⟩ | ⟨k,a,b,en,H,e,J,L,q1,q2⟩
 ·exact .inr ⟨tp,⟨zj,h0,hs,h,kk,by rw[ep],hh,O,.inl ⟨z,rfl,rfl⟩⟩,q⟩
 ·cases H with
  | none=>exact .inl ⟨zj,h0,hs,h,kk,by rw[ep],hh,O,.inr ⟨k,a,b,en,none,e,J,L,λ_=>⟨rfl,by rw[du];exact q1 rfl⟩,λx z=>by cases z⟩⟩
  | some x=>exact .inr ⟨tp,⟨zj,h0,hs,h,kk,by rw[ep],hh,O,.inr ⟨k,a,b,en,some x,e,J,L,(λz=>by cases z),λ_ _=>⟨rfl,rfl⟩⟩⟩,q2 x rfl⟩
theorem ztu {f:ac}{fd:bu}(M:Mo w K mg)(F:yA K "_law_due" "_law_due" eQ f fd):zM P w K mg base zY 10 f fd 6#14 (zX K znH):=by
 obtain⟨zrh,zrj,iI,kG,kU⟩:=M._law_held;have zpf:zM P w K mg base zY 9 zrh zrj 5#18 (zX K (jX 8)):=zmA M iI kG kU 8;obtain⟨_,_,zgJ,zpY,zsw⟩:=M._law_swapped;have zpj:= @zt0 P w K mg base _ _ M zgJ;refine x5 0 F zn4 (λxs st Q h=>by obtain⟨sh,hs,en,rj,h,kk,rfl,_⟩:=h;rfl) ⟨_,λzr A outer s H E hr=>have hr1:zI 1 _:=hr.mono 2#0;have hr9:zI 9 _:=hr.mono 2#0;(z9 (qz 3 zn4.nd (qx hr (wV (zfh rfl) 4#0 M.dict nV (z3 3#2 z7)) (qv 1)))
   (z9 (zZ (PW.pt (pZ (qc pW (qv 2) z6) (pZ (qc zfi 8#13 3#7) (pZ (qc (qW hr) (qx hr (qx hr (qv 3) (qv 2)) z6) zG) (jA (qc (qW hr) (qx hr (qx hr (qv 3) 8#13) z6) zG)))))) (zD (y2 uK)) yC)
   (z9 (zZ (tF (oQ hr) (qx hr (qx hr (qv 3) 8#13) z6) (qk zpf hr9 kU iI kG (z3 (qv 0) (z3 (qv 1) 4#8))) 4#0) (zD (y2 uK)) yC)
   (zD (y2 (qk zpj hr1 zsw zgJ zpY (z3 (qv 0) (z3 (qv 1) 4#8)))))))),λxs st Q h=> ?_⟩
 obtain⟨sh,hs,en,rj,h,kk,rfl,O,G,hh,q⟩:=h;have AA:=O.rl h hh;have hps:(hs.map zW).map q9=(vL hs).map some:=by unfold vL;rw[bx,bx];rfl
 have AI:u8 [] (vL hs)=vL hs:=mM (by rw[jc,zfQ];exact kQ O.hn);have hrw:=eL O.hn hh;obtain⟨p,ep⟩: ∃p,yF sh hs=p:=⟨_,rfl⟩;have ep2:p= .tup 2#7:=by rw[<- ep];rfl
 have e4:((28#1 :Str)== 28#1)=true:=1#0
 have none_:3#17->Q .non st:=λz=>by
  rcases q with⟨k,a,b,z2,_⟩ | ⟨_,q⟩
  ·exact absurd z2 (z k a b)
  ·exact q
 rw[ep,ep2];symm;simp? only[jB];refine⟨_,hps,?_⟩;rw[AI];simp? only[hrw];refine tG (λenv s=>env= [some p,some (.str h.1),some (.int kk),some (.tup 5#4)]/\s=st/\∃(k:Nat) (a b:Str),kk=k/\JJ h.2 k a b) (λN hN=> ?_) ?_
 ·by_cases h0:kk < 0
  ·have hd:decide (kk < 0)=true:=decide_eq_true h0
   simp? only[hd];exact none_ λk a b z=>by have:=z.1;grobner
  have hd:decide (kk < 0)=false:=decide_eq_false h0;obtain⟨k,rfl⟩: ∃k:Nat,kk=k:=⟨kk.toNat,0#0⟩;by_cases h1:(h.2.length:Int)<=k+1
  ·have hd1:decide ((h.2.length:Int)<=(k:Int)+1)=true:=decide_eq_true h1
   simp? only[hd,hd1,ae];exact none_ λk' a b z=>by
    have e:=z.1;have:=(ah.mp z.2.1.2).1;grobner
  have hd1:decide ((h.2.length:Int)<=(k:Int)+1)=false:=decide_eq_false h1;obtain⟨r,hr⟩: ∃r,h.2[k]?=some r:=⟨_,bz 0#0⟩;obtain⟨r2,hr2⟩: ∃r,h.2[k+1]?=some r:=⟨_,bz 0#0⟩;obtain⟨m1,f1,j1⟩:=mG r;obtain⟨m2,f2,j2⟩:=mG r2;have i0:atI 5#4 (k:Int)=some (.tup (.str r.kd::m1)):=wK (by rw[br,hr,<- f1];rfl);have i1:atI 5#4 ((k:Int)+1)=some (.tup (.str r2.kd::m2)):=by rw[show(k:Int)+1=((k+1:Nat):Int)from rfl];exact wK (by rw[br,hr2,<- f2];rfl)
  have no: ¬ (r.kd= 28#1 /\r2.kd= 28#1)->∀k' a b,¬ tH en h k k' a b:=λz k' a b w=>by
   have:k'=k:=by have:=w.1;grobner
   subst this;exact z ⟨j1.mp ⟨a,cf (hr.symm.trans w.2.1.1)⟩,j2.mp ⟨b,cf (hr2.symm.trans w.2.1.2)⟩⟩
  by_cases g1:r.kd= 28#1
  ·have b1:(r.kd==(28#1 :Str))=true:=beq_iff_eq.mpr g1
   by_cases g2:r2.kd= 28#1
   ·have b2:(r2.kd==(28#1 :Str))=true:=beq_iff_eq.mpr g2
    simp? only[hd,hd1,ae,i0,i1,b1,b2];obtain⟨a,rfl⟩:=j1.mpr g1;obtain⟨b,rfl⟩:=j2.mpr g2;rw[<- ep2];exact hN _ _ ⟨rfl,rfl,k,a,b,rfl,hr,hr2⟩
   ·have b2:(r2.kd==(28#1 :Str))=false:=by simpa using g2
    simp? only[hd,hd1,ae,i0,i1,b1,b2];exact none_ (no λz=>g2 z.2)
  ·have b1:(r.kd==(28#1 :Str))=false:=by simpa using g1
   simp? only[hd,hd1,ae,i0,i1,b1];exact none_ (no λz=>g1 z.1)
 rintro env s ⟨rfl,rfl,k,a,b,rfl,J⟩;have i1:atI 5#4 ((k:Int)+1)=some (.tup [.str 28#1,.str b]):=by rw[show(k:Int)+1=((k+1:Nat):Int)from rfl];exact wK (by rw[br,J.2];rfl)
 symm;simp? only[i1];refine⟨sh,hs,en,rj,h,k,by rw[ep],O,G,hh,by have:=G.r7 h hh;grobner,?_⟩;have nin: ∀{l:List Str} {Q:K3},xQ true (.str b) (.lst (l.map PV.str)) s Q=Q (.bl (!decide (b∈l))) s:=λ{l Q} =>ztc;simp? only[nin];by_cases hb:b∈y9 en (h.2.take k)
 ·have hd:decide (b∈y9 en (h.2.take k))=true:=decide_eq_true hb
  simp? only[hd];refine⟨sh,hs,h,k,a,b,by rw[ep],hh,O,J,?_⟩;rcases q with⟨k',a',b',z,q⟩ | ⟨z,_⟩
  ·have:k'=k:=by have:=z.1;grobner
   subst this
   try unfold yF at q⊢
   ac_nf
   exact q
  ·exact absurd ⟨rfl,J,hb⟩ (z k a b)
 ·have hd:decide (b∈y9 en (h.2.take k))=false:=decide_eq_false hb
  simp? only[hd];exact none_ λk' a' b' z=>by
   have:k'=k:=by have:=z.1;grobner
   subst this;have:b'=b:=by have:=z.2.1.2.symm.trans J.2;cases this;rfl
   subst this;exact hb z.2.2
theorem zt_ {f:ac}{fd:bu}(M:Mo w K mg)(F:yA K "law" "law" zgb f fd):zM P w K mg base zY 23 f fd [8#1] (zX K jY):=by
 obtain⟨HE,C,J,fj,D,I,fi,A9,B9,N⟩:=M.XEs;obtain⟨zeC,ze4,lW,a6,zfd⟩:=M.look;have b9:zM P w K mg base (xF P w qP) 12 zeC ze4 [4#1] (vM K (c3 C)):=zmE M N lW;obtain⟨ze5,ze3,lU,bX,zfa⟩:=M.exchanged;have b7:zM P w K mg base (xF P w gW) 13 ze5 ze3 [4#1,"H","k"] (vM K (dY D)):=zmC M N lU;obtain⟨_,_,zgI,zpX,zsv⟩:=M._law_program;have zpi:= @zty P w K mg base _ _ M zgI;obtain⟨_,_,iJ,bU,zeX⟩:=M._law_told;have cZ:= @zt2 P w K mg base _ _ M iJ;obtain⟨_,_,zgF,zpU,zss⟩:=M._law_due;have zpd:= @ztu P w K mg base _ _ M zgF;refine x5 0 F pB (λxs st Q h=>by obtain⟨ns,rfl,_⟩:=h;rfl) ⟨_,λzr A outer s H E hr=>have hr10:zI 10 _:=hr.mono 2#0;have hr12:zI 12 _:=hr.mono 2#0;have hr13:zI 13 _:=hr.mono 2#0;have hr14:zI 14 _:=hr.mono 2#0;have hr22:zI 22 _:=hr.mono 2#0;(z9 (qz 1 pB.nd (qk zpi hr22 zsv zgI zpX (z3 (qv 0) (z3 z6 (z3 (tD (z3 zG (z3 zG (z3 zG 0#11)))) (z3 tB (z3 z6 z7)))))))
   (z9 (u0 dy rfl (wH (qx hr (qv 1) z6)) (mW (n:=2) rfl (vR (qn 2 pB.nd) (vR (qn 3 pB.nd) oU))) (zD (u0 dy rfl (znk 4#0 M.range (z3 (zni zm5 z6) (z3 (zN yO 3#7 z6) z7))) (qn 4 pB.nd) (z9 (qz 5 pB.nd (qk zpd hr10 zss zgF zpU (z3 (qv 1) (z3 (qv 2) 6#16))))
   (z9 (qz 6 pB.nd (qk cZ hr14 zeX iJ bU (z3 (qv 1) (z3 (qv 2) 6#16))))
   (z9 (zZ (PW.pt (sE (qc zth (qv 5) uK) (sF (qc (qW hr) (qv 6) (yN (z3 tB (z3 uK z7))))))) (zD (y2 tB)) yC)
   (z9 (zZ (PW.pt (sE (qc j0 (qv 5) uK) (sF (qc (qW hr) (qv 6) (yN (z3 uK 1#14)))))) (zD (y2 tB)) yC)
   (z9 (zZ (PW.pt (sE (qc j0 (qv 5) uK) (sF (qc ztk (zng b9 hr12 zfd lW a6 1#14) tB)))) (zD (y2 tB)) yC)
   (zD (zZ (PW.pt (sE (qc j0 (qv 5) uK) (sF (qc (qW hr) (zng b7 hr13 zfa lU bX (z3 (qv 5) (z3 (qv 2) 6#16))) (qv 1))))) (zD (y2 tB)) yC))))))))))
   (z9 (qz 7 pB.nd (qx hr (qx hr (qx hr (qv 1) z6) z6) z6))
   (z9 (qz 6 pB.nd (qk cZ hr14 zeX iJ bU (z3 (qv 1) (z3 (qv 7) (z3 z6 z7)))))
   (zD (y2 (pY 3#10 (qv 6) (qk cZ hr14 zeX iJ bU (z3 (qv 1) (z3 (qv 7) (z3 z6 z7)))) (qV _)))))))),λxs st Q h=> ?_⟩
 obtain⟨ns,rfl,rfl,hl,q⟩:=h;symm
 ac_nf
 refine⟨ns,8,rfl,rfl,hl,2#0,2#0,λsh h0 hs O HK HS HW=> ?_⟩;obtain⟨en,rj,G⟩:=HK;obtain⟨shl,rfl,hsn,Ax,hsh,hro⟩:=HS;have OL:=O.lt;have dpg: ∀{hs':List Hd},(∀g∈hs',∀r∈g.2,jF r)->zE (yF (shl.map lE) hs')<=47:=λ{hs'} z=>zu8 O.sd z;have hgood:=zrz hsh hsn Ax OL G hro;obtain⟨zj,en',rj',esk,LL,_,_,tv⟩:=hgood;rw[esk]at dpg⊢
 have drow:=O.rd;have lsame:=zsm LL OL G tv;have lturn:=λ{h:Hd} (hh:h∈h0::hs) {k:Nat} {a b:Str} (J:JJ h.2 k a b)=>zsn LL OL G tv HW hh J;obtain⟨p,ep⟩: ∃p,yF 3#8 (h0::hs)=p:=⟨_,rfl⟩;obtain⟨all,zw⟩: ∃all,h0::hs=all:=⟨_,rfl⟩;have ep2:p= .tup [.tup ((zj.map yQ).map zV),.tup (all.map zW)]:=by rw[<- ep,<- zw];rfl
 have dp:zE p<=47:=by rw[<- ep];exact dpg drow
 have told: ∀{h:Hd} {kk:Int} {Q:K3} {st:z5},h∈h0::hs->(3#17->Q (.tup [.bl true,.non]) st)->(∀k a b,tH en h kk k a b->Q (.tup [.non,yF 3#8 9#15]) st)->znR [p,.str h.1,.int kk] st Q:=λ{h kk Q st} hh q1 q2=>by
  refine⟨zj,h0,hs,h,kk,by rw[ep],hh,OL,tv,?_⟩;by_cases hJ: ∃(k:Nat) (a b:Str),kk=k/\JJ h.2 k a b
  ·obtain⟨k,a,b,e,J⟩:=hJ
   refine .inr ⟨k,a,b,en,_,e,J,lturn hh J,λz=> ?_,λx z=> ?_⟩
   ·by_cases hb:b∈y9 en (h.2.take k)
    ·exact q2 k a b ⟨e,J,hb⟩
    ·rw[if_neg hb]at z;cases z
   ·by_cases hb:b∈y9 en (h.2.take k)
    ·rw[if_pos hb]at z;cases z
    ·refine q1 λk' a' b' w=>hb ?_
     have:k'=k:=by have:=w.1;grobner
     subst this;have:b'=b:=by have:=w.2.1.2.symm.trans J.2;cases this;rfl
     subst this;exact w.2.2
  ·have hn: ∀(k:Nat) (a b:Str),kk=k->¬ JJ h.2 k a b:=λk a b e J=>hJ ⟨k,a,b,e,J⟩
   exact .inl ⟨hn,q1 λk a b w=>hn k a b w.1 w.2.1⟩
 have due: ∀{h:Hd} {kk:Int} {Q:K3} {st:z5},h∈h0::hs->(3#17->Q .non st)->(∀k a b,tH en h kk k a b->Q (yF 3#8 9#15) st)->znH [p,.str h.1,.int kk] st Q:=λ{h kk Q st} hh q1 q2=>by
  refine⟨_,_,en,rj,h,kk,by rw[ep],OL,G,hh,?_⟩;by_cases hD: ∃k a b,tH en h kk k a b
  ·obtain⟨k,a,b,w⟩:=hD
   exact .inl ⟨k,a,b,w,q2 k a b w⟩
  ·exact .inr ⟨λk a b w=>hD ⟨k,a,b,w⟩,q1 λk a b w=>hD ⟨k,a,b,w⟩⟩
 rw[ep];refine tG (λenv s=> ∃(v2 v3 v4 v5 v6:Option PV),env= [some (.lst 0#13),some p,v2,v3,v4,v5,v6,none]/\s= []) (λN hN=> ?_) ?_
 ·rw[ep2]
  ac_nf
  refine vZ (λk env s=> ∃(v2 v3 v4 v5 v6:Option PV),env= [some (.lst 0#13),some p,v2,v3,v4,v5,v6,none]/\s= []) ⟨none,none,none,none,none,by rw[ep2],rfl⟩ ?_ ?_
  ·rintro k x env s hx ⟨v2,v3,v4,v5,v6,rfl,rfl⟩
   obtain⟨h,hh1,rfl⟩:=wC hx;have hh:h∈h0::hs:=by rw[zw];exact au.mpr ⟨k,hh1⟩
   have AA:=OL.rl h hh;have big:(1000:Nat) < ak:=by rw[di];decide
   unfold zW zV wP;simp? only[ae];refine⟨⟨0#0,0#0⟩,vZ (λk env s=> ∃(v4 v5 v6:Option PV),env= [some (.lst 0#13),some p,some (.str h.1),some (.tup 5#4),v4,v5,v6,none]/\s= []) ⟨_,_,_,rfl,rfl⟩ ?_ ?_⟩
   ·rintro j x env s hx ⟨v4,v5,v6,rfl,rfl⟩
    obtain⟨_,rfl⟩:=o4 hx;obtain⟨kk,ekk⟩: ∃kk:Int,(-2:Int)+(j:Int)=kk:=⟨_,rfl⟩;rw[ekk];by_cases hD: ∃k a b,tH en h kk k a b
    ·obtain⟨k,a,b,w⟩:=hD
     have same: ∀{k' a' b'},tH en h kk k' a' b'->k'=k:=λ{k' a' b'} w'=>by have:=w'.1;have:=w.1;grobner
     have lt:=lturn hh w.2.1;rw[if_pos w.2.2]at lt;obtain⟨p',ep'⟩: ∃p',yF 3#8 9#15=p':=⟨_,rfl⟩;obtain⟨s1,t1,est⟩: ∃s1 t1,p'= .tup [s1,t1]:=⟨_,_,ep'.symm⟩;have dp':zE p'<=47:=by
      rw[<- ep'];refine dpg λg hg r hr=> ?_;obtain⟨q,hq,rfl⟩:=cb.mp hg;by_cases e:q.1=h.1
      ·unfold y8 at hr
       rw[if_pos e]at hr;by_cases eq:q=h
       ·subst eq;exact drow q hq r (w.2.1.perm.mem_iff.mp hr)
       ·exact absurd e λz=>eq (zeJ O.hn hq hh z)
      ·rw[lJ e]at hr;exact drow q hq r hr
     have lk: ∀{Q:K3} {st:z5},Q 6#8 st->c3 C [p'] st Q rW:=λ{Q st} z=>⟨zj,_,_,en,none,by rw[<- ep'];rfl,lt.l,lt.o,lt.x,λ_=>z,λx y z=>by cases z⟩;have ex: ∀{Q:K3} {st:z5},Q p st->dY D [p',.str h.1,.int kk] st Q rW:=λ{Q st} z=>by
      have eb:((h0::hs).map 7#5).map 7#5=h0::hs:=by
       rw[bx];exact zmk λg hg=>zoc O.hn hh w.2.1 hg
      have e0:y8 h.1 k (y8 h.1 k h0)=h0:=zoc O.hn hh w.2.1 (aw ..);have e1:(hs.map 7#5).map 7#5=hs:=(lq eb).2;have eh:y8 h.1 k h=(h.1,vN k h.2):=by unfold y8;rw[if_pos rfl]
      refine⟨zj,y8 h.1 k h0,hs.map 7#5,(h.1,vN k h.2),kk,by rw[<- ep'];rfl,by rw[<- eh];exact cg (f:=y8 h.1 k) hh,lt.o,.inr ⟨k,b,a,en,none,w.1,w.2.1.back,?_,λ_=> ?_,λx z=>by cases z⟩⟩
      ·show Lk zj (y8 h.1 k (y8 h.1 k h0)) ((hs.map 7#5).map 7#5) en none
       rw[e0,e1];exact lsame
      ·show Q (yF 3#8 (((h0::hs).map 7#5).map 7#5)) st
       rw[eb,ep];exact z
     have q0:=mB p 0#0;have q1:=mB p' 0#0;have n1:u7 p'=false:=by rw[est];rfl
     have n0:yU p'=true:=kZ 0#0;have d1:zE p'<=49:=0#0
     have d2:zE p'+1 < 999:=0#0
     have d3:zE p'+1 < 1000:=0#0
     have d4:zE p<=50:=0#0
     have d5:zE p < 1000:=0#0
     clear est
     ac_nf
     symm
     ac_nf
     refine due hh (λz=>absurd w (z k a b)) λk' a' b' w'=> ?_;have:=same w';subst this;rw[ep'];symm
     ac_nf
     refine told hh (λz=>absurd w (z k' a b)) λk2 a2 b2 w2=> ?_;have:=same w2;subst this;rw[ep'];symm;simp? only[n1];symm;simp? only[n0,n1,q1,d1,d2,d3];symm;simp? only[n1];refine lk ?_;simp? only[zqM,beq_self_eq_true,n1];refine ex ?_;simp? only[q0,d4,d5]
     first | exact⟨_,_,_,rfl,rfl⟩ | exact⟨_,_,_,rfl⟩
    ·ac_nf
     symm
     ac_nf
     refine due hh (λ_=> ?_) λk a b w=>absurd ⟨k,a,b,w⟩ hD;symm
     ac_nf
     refine told hh (λ_=> ?_) λk a b w=>absurd ⟨k,a,b,w⟩ hD;symm;simp? only[zfA,u6,kL];symm
     ac_nf
     symm
     ac_nf
     first | exact⟨_,_,_,rfl,rfl⟩ | exact⟨_,_,_,rfl⟩
   ·rintro env s ⟨v4,v5,v6,rfl,rfl⟩
    exact⟨_,_,_,_,_,rfl,rfl⟩
  ·rintro env s ⟨v2,v3,v4,v5,v6,rfl,rfl⟩
   exact hN _ _ ⟨v2,v3,v4,v5,v6,rfl,rfl⟩
 ·rintro env s ⟨v2,v3,v4,v5,v6,rfl,rfl⟩
  have hx0:atI (all.map zW) 0=some (zW h0):=by rw[<- zw];exact wK (j:=0) rfl
  have hh:h0∈h0::hs:=aw ..;have ix1: ∀{Q:K3} {st:z5},r6 p (.int 1) st Q=Q (.tup (all.map zW)) st:=λ{Q st} =>by rw[ep2];rfl
  have ix2: ∀{Q:K3} {st:z5},r6 (zW h0) (.int 0) st Q=Q (.str h0.1) st:=λ{Q st} =>rfl;symm;simp? only[ix1,hx0,ix2];symm
  ac_nf
  by_cases hD: ∃k a b,tH en h0 0 k a b
  ·obtain⟨k,a,b,w⟩:=hD
   have same: ∀{k' a' b'},tH en h0 0 k' a' b'->k'=k:=λ{k' a' b'} w'=>by have:=w'.1;have:=w.1;grobner
   obtain⟨p',ep'⟩: ∃p',yF 3#8 ((h0::hs).map (y8 h0.1 k))=p':=⟨_,rfl⟩;have dp':zE p'<=47:=by
    rw[<- ep'];refine dpg λg hg r hr=> ?_;obtain⟨q,hq,rfl⟩:=cb.mp hg;by_cases e:q.1=h0.1
    ·unfold y8 at hr
     rw[if_pos e]at hr;have eq:q=h0:=zeJ O.hn hq hh e;subst eq;exact drow q hq r (w.2.1.perm.mem_iff.mp hr)
    ·rw[lJ e]at hr;exact drow q hq r hr
   have q1:=mB p' 0#0;have d1:zE p'<=49:=0#0
   have d3:zE p'+1 < 1000:=0#0
   refine told hh (λz=>absurd w (z k a b)) λk' a' b' w'=> ?_;have:=same w';subst this;rw[ep']
   ac_nf
   refine told hh (λz=>absurd w (z k' a b)) λk2 a2 b2 w2=> ?_;have:=same w2;subst this;rw[ep'];simp? only[q1,d1,d3];exact q _
  ·refine told hh (λ_=> ?_) λk a b w=>absurd ⟨k,a,b,w⟩ hD
   ac_nf
   refine told hh (λ_=> ?_) λk a b w=>absurd ⟨k,a,b,w⟩ hD;simp? only[fX,u6,kL];exact q _
end
theorem uW {us:List aa}(h:us.length=1): ∃x0,us= [x0]:=by
 rcases us with _ | ⟨x0,_ | ⟨y,us⟩⟩ <;> first | exact⟨x0,rfl⟩ | (simp at h;done)
theorem tM {us:List aa}(h:us.length=2): ∃x0 x1,us= [x0,x1]:=by
 rcases us with _ | ⟨x0,_ | ⟨x1,_ | ⟨y,us⟩⟩⟩ <;> first | exact⟨x0,x1,rfl⟩ | (simp at h;done)
theorem rM {us:List aa}(h:us.length=3): ∃x0 x1 x2,us= [x0,x1,x2]:=by
 rcases us with _ | ⟨x0,_ | ⟨x1,_ | ⟨x2,_ | ⟨y,us⟩⟩⟩⟩ <;> first | exact⟨x0,x1,x2,rfl⟩ | (simp at h;done)
theorem hV {us:List aa}(h:us.length=4): ∃x0 x1 x2 x3,us= [x0,x1,x2,x3]:=by
 rcases us with _ | ⟨x0,_ | ⟨x1,_ | ⟨x2,_ | ⟨x3,_ | ⟨y,us⟩⟩⟩⟩⟩ <;> first | exact⟨x0,x1,x2,x3,rfl⟩ | (simp at h;done)
theorem zqg {us:List aa}(h:us.length=5): ∃x0 x1 x2 x3 x4,us= [x0,x1,x2,x3,x4]:=by
 rcases us with _ | ⟨x0,_ | ⟨x1,_ | ⟨x2,_ | ⟨x3,_ | ⟨x4,_ | ⟨y,us⟩⟩⟩⟩⟩⟩ <;> first | exact⟨x0,x1,x2,x3,x4,rfl⟩ | (simp at h;done)
theorem qT {K:Frag}{a:ac}{n:Nat}{sl:Array 5#8}{l:List (Str×nv)}(h:K.lookup a=some ⟨.type 18#1,none,.seq (l.map λx=>Value.str x.1 x.2).toArray n,sl⟩)(hz:l.length<=1000)(A:List ac)(H:Hp):RV K A H (.tup (l.map λx=>PV.str x.1)) 8#9:=by
 have vs: ∀l:List (Str×nv),zJ (l.map λx=>V.str x.1) (l.map λx=>Value.str x.1 x.2):=by
  intro l
  induction l with
  | nil=>exact .nil
  | cons x l ih=>exact .cons ⟨_,rfl⟩ ih
 have rs: ∀l:List (Str×nv),RVs K A H (l.map λx=>PV.str x.1) (l.map λx=>V.str x.1):=by
  intro l
  induction l with
  | nil=>exact .nil
  | cons x l ih=>exact .cons (.str _) ih
 refine .tup (vs:=l.map λx=>V.str x.1) (.inr ⟨_,_,_,h,rfl,rfl,rfl,?_,?_⟩) ?_ (rs l)
 ·rw[bq,ae];exact bh hz 2#0
 ·rw[rb];exact vs l
 ·rw[ae];exact bh hz 2#0
def Dg (K:Frag)(x:Str)(st:cu):Prop:= ∃(f:ac) (od an:Option ac) (sl:Array 5#8) (oc kV dc pm cd ct:aa),nsIn K dz x=some (some 2#8)/\K.lookup f=some ⟨oc,od,.func (fnOf x x (pO st) (sR st) (zQ st) .none kV dc pm an cd ct),sl⟩/\codeIn K cd x=true/\keepIn K 2#8=true
theorem Dg.go {K:Frag}{h:cn}{mg:Str->Option aa}{x:Str}{st:cu}{ps:List Str}(d:Dg K x st)(X:K.In h)(G:h.Ns dz mg)(hb: ∀f fd,yA K x x st f fd->xI K fd ps []): ∃f fd,yA K x x st f fd/\xI K fd ps []/\mg x=some 2#8:=by
 obtain⟨f,_,_,_,_,_,_,_,_,_,a,l,c,k⟩:=d;exact⟨f,_,kP l c k,hb _ _ (kP l c k),vi X G a⟩
theorem all_mk {l:PySem.W.OpenLaw}{w:ci}{K:Frag}{h:cn}{mg:Str->Option aa}{fa:ac}(X:K.In h)(G:h.Ns dz mg)(hfa:mg "law" =some (.ref fa))
  (d1:Dg K "terms_in" c7)
  (d2:Dg K "deed_of" dI)
  (d3:Dg K "shelf_of" c5)
  (d4:Dg K "term_of" c6)
  (d5:Dg K 49#1 jR)
  (d6:Dg K 62#1 dJ)
  (d7:Dg K 32#1 jW)
  (d8:Dg K 36#1 jT)
  (d9:Dg K "look" dN)
  (d10:Dg K 34#1 dU)
  (d11:Dg K 47#1 lF)
  (d12:Dg K 17#1 dQ)
  (d13:Dg K 43#1 dO)
  (d14:Dg K 40#1 dS)
  (d15:Dg K 41#1 dR)
  (d16:Dg K 35#1 jU)
  (d17:Dg K 42#1 dP)
  (d18:Dg K 48#1 dL)
  (d19:Dg K 55#1 dM)
  (d20:Dg K 20#1 jS)
  (d21:Dg K 68#1 n9)
  (d22:Dg K "_law_box" eO)
  (d23:Dg K 78#1 dC)
  (d24:Dg K 63#1 jI)
  (d25:Dg K 56#1 eZ)
  (d26:Dg K 70#1 dD)
  (d27:Dg K 45#1 eN)
  (d28:Dg K 57#1 eW)
  (d29:Dg K 65#1 jG)
  (d30:Dg K 58#1 eV)
  (d31:Dg K 81#1 eP)
  (d32:Dg K "_law_row" dA)
  (d33:Dg K 80#1 eS)
  (d34:Dg K 72#1 eR)
  (d35:Dg K 23#1 dE)
  (d36:Dg K 52#1 l4)
  (d37:Dg K 71#1 jH)
  (d38:Dg K 50#1 dB)
  (d39:Dg K 77#1 dF)
  (d40:Dg K "_law_due" eQ)
  (dl:Dg K "law" zgb) (zn: ∀x∈(["len","int",53#1,18#1,"isinstance","bool","str",76#1,14#1,"sorted","min","max","all","set","enumerate",6#1,27#1]:List Str),nsIn K dz x=some none)
  {aD bD0 bD1 bD2 bD3 bD4 bD5:ac} {uD0 uD1 uD2 uD3 uD4 uD5 vD0_0 vD0_1 vD1_0 vD2_0 vD3_0 vD4_0 vD5_0:nv} {nD mD0 mD1 mD2 mD3 mD4 mD5:Nat} {slD0 slD1 slD2 slD3 slD4 slD5:Array 5#8}
  {aE bE0 bE1 bE2:ac} {uE0 uE1 uE2 vE0_0 vE0_1 vE0_2 vE1_0 vE2_0:nv} {nE mE0 mE1 mE2:Nat} {slE0 slE1 slE2:Array 5#8}
  {HE NHn:ac} {hnm hq:Str} {hbs hsub:List aa} {hdt hab:Bool} {hsn:List Str} {hcol:Option Bool} {hdd hod2:Option ac} {h0 h1 h2 h3 h5:Option aa} {hnw:String} {hsl2:Array 5#8} {hoc2:aa} {hes:Array rq} {hep:Nat}
  {C0 J0 N0:ac} {nm0 q0:Str} {bs0 sub0:List aa} {ab0:Bool} {sn0:List Str} {col0:Option Bool} {dd0 jod0 jan0:Option ac} {k0_0 k1_0 k2_0 k3_0 k5_0:Option aa} {jsl0:Array 5#8} {joc0 jkV0 jdc0 jpm0 jcd0 jct0:aa}
  {C1 J1 N1:ac} {nm1 q1:Str} {bs1 sub1:List aa} {ab1:Bool} {sn1:List Str} {col1:Option Bool} {dd1 jod1 jan1:Option ac} {k0_1 k1_1 k2_1 k3_1 k5_1:Option aa} {jsl1:Array 5#8} {joc1 jkV1 jdc1 jpm1 jcd1 jct1:aa}
  {A9 B9:ac}
  (AD:nsIn K dz 61#1 =some (some (.ref aD)))
  (LD:K.lookup aD=some ⟨.type 76#1,none,.dict #[⟨PyData.keyHash w.params "set",.str "set" uD0,.ref bD0⟩,⟨PyData.keyHash w.params "more",.str "more" uD1,.ref bD1⟩,⟨PyData.keyHash w.params "in",.str "in" uD2,.ref bD2⟩,⟨PyData.keyHash w.params "out",.str "out" uD3,.ref bD3⟩,⟨PyData.keyHash w.params "lay",.str "lay" uD4,.ref bD4⟩,⟨PyData.keyHash w.params "drop",.str "drop" uD5,.ref bD5⟩] nD,#[]⟩)
  (SD:(aD==sysModules)=false)
  (TD0:K.lookup bD0=some ⟨.type 18#1,none,.seq #[.str "last" vD0_0,.str 84#1 vD0_1] mD0,slD0⟩)
  (TD1:K.lookup bD1=some ⟨.type 18#1,none,.seq #[.str "sum" vD1_0] mD1,slD1⟩)
  (TD2:K.lookup bD2=some ⟨.type 18#1,none,.seq #[.str "bag" vD2_0] mD2,slD2⟩)
  (TD3:K.lookup bD3=some ⟨.type 18#1,none,.seq #[.str "bag" vD3_0] mD3,slD3⟩)
  (TD4:K.lookup bD4=some ⟨.type 18#1,none,.seq #[.str 73#1 vD4_0] mD4,slD4⟩)
  (TD5:K.lookup bD5=some ⟨.type 18#1,none,.seq #[.str 73#1 vD5_0] mD5,slD5⟩)
  (AE:nsIn K dz 60#1 =some (some (.ref aE)))
  (LE:K.lookup aE=some ⟨.type 76#1,none,.dict #[⟨PyData.keyHash w.params "shelf",.str "shelf" uE0,.ref bE0⟩,⟨PyData.keyHash w.params "many",.str "many" uE1,.ref bE1⟩,⟨PyData.keyHash w.params "long",.str "long" uE2,.ref bE2⟩] nE,#[]⟩)
  (SE:(aE==sysModules)=false)
  (TE0:K.lookup bE0=some ⟨.type 18#1,none,.seq #[.str "last" vE0_0,.str "sum" vE0_1,.str 84#1 vE0_2] mE0,slE0⟩)
  (TE1:K.lookup bE1=some ⟨.type 18#1,none,.seq #[.str "bag" vE1_0] mE1,slE1⟩)
  (TE2:K.lookup bE2=some ⟨.type 18#1,none,.seq #[.str 73#1 vE2_0] mE2,slE2⟩)
  (aH:nsIn K dz "HouseError" =some (some (.ref HE))) (hl:K.lookup HE=some (jj hnm hq HE NHn hbs wO hdt hsn hsub hab hcol hdd h0 h1 h2 h3 h5 hnw)) (hl2:K.lookup NHn=some ⟨hoc2,hod2,.dict hes hep,hsl2⟩) (hk:(hes.toList.all λe=>match e.key with | .str _ _=>true | _=>false)=true) (hni:nsFind hes 7#1 =none)
  (hrd:readsIn K HE (.type "type")=true) (hfc:findCls K (.ref HE) (.type "type") 7#1 =some (.val (.builtin "ValueError.__init__"))) (hga:specialIn K (.ref HE) 30#1 =some (some (.builtin "type.__getattribute__")))
  (hdg:specialIn K 0#18 "__get__" =some (some (.builtin 83#1))) (hds:takesIn K 0#18=some true)
  (ca0:nsIn K dz "NotHeld" =some (some (.ref C0))) (co0:K.lookup C0=some (jj nm0 q0 C0 N0 bs0 (.ref HE::wO) true sn0 sub0 ab0 col0 dd0 k0_0 k1_0 k2_0 k3_0 k5_0 22#1)) (ck0:keepIn K (.ref C0)=true)
  (cs0:findIn K (.ref C0) "__setattr__" =some 3#12) (cg0:findIn K (.ref C0) 30#1 =some (some (.builtin 9#1))) (cgg0:findIn K (.ref C0) "__getattr__" =some none) (cc0:findIn K (.ref C0) "__class__" =some (some 0#18))
  (ci0:findIn K (.ref C0) 7#1 =some (some (.ref J0))) (cf0:isFn K (.ref J0)=true) (lj0:K.lookup J0=some ⟨joc0,jod0,.func (fnOf 7#1 82#1 (pO l7) (sR l7) (zQ l7) .none jkV0 jdc0 jpm0 jan0 jcd0 jct0),jsl0⟩) (cj0:codeIn K jcd0 82#1 =true) (kj0:keepIn K (.ref J0)=true)
  (ca1:nsIn K dz "NoTurn" =some (some (.ref C1))) (co1:K.lookup C1=some (jj nm1 q1 C1 N1 bs1 (.ref HE::wO) true sn1 sub1 ab1 col1 dd1 k0_1 k1_1 k2_1 k3_1 k5_1 22#1)) (ck1:keepIn K (.ref C1)=true)
  (cs1:findIn K (.ref C1) "__setattr__" =some 3#12) (cg1:findIn K (.ref C1) 30#1 =some (some (.builtin 9#1))) (cgg1:findIn K (.ref C1) "__getattr__" =some none) (cc1:findIn K (.ref C1) "__class__" =some (some 0#18))
  (ci1:findIn K (.ref C1) 7#1 =some (some (.ref J1))) (cf1:isFn K (.ref J1)=true) (lj1:K.lookup J1=some ⟨joc1,jod1,.func (fnOf 7#1 87#1 (pO l8) (sR l8) (zQ l8) .none jkV1 jdc1 jpm1 jan1 jcd1 jct1),jsl1⟩) (cj1:codeIn K jcd1 87#1 =true) (kj1:keepIn K (.ref J1)=true)
  (na0:bH K C0 66#1) (ga:nsIn K dz "NoAsk" =some (some (.ref A9))) (gb:nsIn K dz "TooMany" =some (some (.ref B9))) (kh:sj K (.ref C1) (.ref HE)=some true) (ka:kitAny K (.ref C1) [.ref C0,.ref A9,.ref B9]=some false):
  ∃fd:bu,(∀(s:ai) (v:aa),BindsTo s fd ⟨[v],[]⟩ [(8#1,v)])/\∀base:cn,K.In base->base.Ns dz mg->zM l.prog w K mg base zY 23 fa fd [8#1] (zX K jY):=by
 have FJ0:=kP (st:=l7) lj0 cj0 kj0;have FJ1:=kP (st:=l8) lj1 cj1 kj1;have z: ∀x∈(["len","int",53#1,18#1,"isinstance","bool","str",76#1,14#1,"sorted","min","max","all","set","enumerate",6#1,27#1]:List Str),mg x=none:=λx m=>PySem.W.mg_none_of X G (zn x m);have M:Mo w K mg:=⟨z _ 3#0,z _ 3#0,z _ 3#0,z _ 3#0,z _ 3#0,z _ 3#0,z _ 3#0,z _ 3#0,z _ 3#0,z _ 3#0,z _ 3#0,z _ 3#0,z _ 3#0,z _ 3#0,z _ 3#0,z _ 3#0,z _ 3#0,d1.go X G λ_ _ F=>F.binds λ_ _ _ _ _ _ us hl=>by obtain⟨x0,rfl⟩:=uW hl;rfl,d2.go X G λ_ _ F=>F.binds λ_ _ _ _ _ _ us hl=>by obtain⟨x0,rfl⟩:=uW hl;rfl,d3.go X G λ_ _ F=>F.binds λ_ _ _ _ _ _ us hl=>by obtain⟨x0,rfl⟩:=uW hl;rfl,d4.go X G λ_ _ F=>F.binds λ_ _ _ _ _ _ us hl=>by obtain⟨x0,rfl⟩:=uW hl;rfl,d5.go X G λ_ _ F=>F.binds λ_ _ _ _ _ _ us hl=>by obtain⟨x0,x1,rfl⟩:=tM hl;rfl,d6.go X G λ_ _ F=>F.binds λ_ _ _ _ _ _ us hl=>by obtain⟨x0,x1,rfl⟩:=tM hl;rfl,d7.go X G λ_ _ F=>F.binds λ_ _ _ _ _ _ us hl=>by obtain⟨x0,x1,rfl⟩:=tM hl;rfl,d8.go X G λ_ _ F=>F.binds λ_ _ _ _ _ _ us hl=>by obtain⟨x0,rfl⟩:=uW hl;rfl,d9.go X G λ_ _ F=>F.binds λ_ _ _ _ _ _ us hl=>by obtain⟨x0,rfl⟩:=uW hl;rfl,d10.go X G λ_ _ F=>F.binds λ_ _ _ _ _ _ us hl=>by obtain⟨x0,rfl⟩:=uW hl;rfl,d11.go X G λ_ _ F=>F.binds λ_ _ _ _ _ _ us hl=>by obtain⟨x0,rfl⟩:=uW hl;rfl,d12.go X G λ_ _ F=>F.binds λ_ _ _ _ _ _ us hl=>by obtain⟨x0,x1,rfl⟩:=tM hl;rfl,d13.go X G λ_ _ F=>F.binds λ_ _ _ _ _ _ us hl=>by obtain⟨x0,x1,rfl⟩:=tM hl;rfl,d14.go X G λ_ _ F=>F.binds λ_ _ _ _ _ _ us hl=>by obtain⟨x0,x1,rfl⟩:=tM hl;rfl,d15.go X G λ_ _ F=>F.binds λ_ _ _ _ _ _ us hl=>by obtain⟨x0,x1,x2,rfl⟩:=rM hl;rfl,d16.go X G λ_ _ F=>F.binds λ_ _ _ _ _ _ us hl=>by obtain⟨x0,rfl⟩:=uW hl;rfl,d17.go X G λ_ _ F=>F.binds λ_ _ _ _ _ _ us hl=>by obtain⟨x0,rfl⟩:=uW hl;rfl,d18.go X G λ_ _ F=>F.binds λ_ _ _ _ _ _ us hl=>by obtain⟨x0,rfl⟩:=uW hl;rfl,d19.go X G λ_ _ F=>F.binds λ_ _ _ _ _ _ us hl=>by obtain⟨x0,x1,rfl⟩:=tM hl;rfl,d20.go X G λ_ _ F=>F.binds λ_ _ _ _ _ _ us hl=>by obtain⟨x0,x1,rfl⟩:=tM hl;rfl,d21.go X G λ_ _ F=>F.binds λ_ _ _ _ _ _ us hl=>by obtain⟨x0,x1,x2,rfl⟩:=rM hl;rfl,d22.go X G λ_ _ F=>F.binds λ_ _ _ _ _ _ us hl=>by obtain⟨x0,x1,rfl⟩:=tM hl;rfl,d23.go X G λ_ _ F=>F.binds λ_ _ _ _ _ _ us hl=>by obtain⟨x0,x1,rfl⟩:=tM hl;rfl,d24.go X G λ_ _ F=>F.binds λ_ _ _ _ _ _ us hl=>by obtain⟨x0,x1,rfl⟩:=tM hl;rfl,d25.go X G λ_ _ F=>F.binds λ_ _ _ _ _ _ us hl=>by obtain⟨x0,rfl⟩:=uW hl;rfl,d26.go X G λ_ _ F=>F.binds λ_ _ _ _ _ _ us hl=>by obtain⟨x0,x1,x2,x3,rfl⟩:=hV hl;rfl,d27.go X G λ_ _ F=>F.binds λ_ _ _ _ _ _ us hl=>by obtain⟨x0,x1,rfl⟩:=tM hl;rfl,d28.go X G λ_ _ F=>F.binds λ_ _ _ _ _ _ us hl=>by obtain⟨x0,x1,x2,rfl⟩:=rM hl;rfl,d29.go X G λ_ _ F=>F.binds λ_ _ _ _ _ _ us hl=>by obtain⟨x0,x1,x2,rfl⟩:=rM hl;rfl,d30.go X G λ_ _ F=>F.binds λ_ _ _ _ _ _ us hl=>by obtain⟨x0,x1,x2,rfl⟩:=rM hl;rfl,d31.go X G λ_ _ F=>F.binds λ_ _ _ _ _ _ us hl=>by obtain⟨x0,x1,x2,x3,rfl⟩:=hV hl;rfl,d32.go X G λ_ _ F=>F.binds λ_ _ _ _ _ _ us hl=>by obtain⟨x0,x1,x2,rfl⟩:=rM hl;rfl,d33.go X G λ_ _ F=>F.binds λ_ _ _ _ _ _ us hl=>by obtain⟨x0,x1,x2,x3,rfl⟩:=hV hl;rfl,d34.go X G λ_ _ F=>F.binds λ_ _ _ _ _ _ us hl=>by obtain⟨x0,x1,x2,x3,rfl⟩:=hV hl;rfl,d35.go X G λ_ _ F=>F.binds λ_ _ _ _ _ _ us hl=>by obtain⟨x0,rfl⟩:=uW hl;rfl,d36.go X G λ_ _ F=>F.binds λ_ _ _ _ _ _ us hl=>by obtain⟨x0,x1,x2,x3,x4,rfl⟩:=zqg hl;rfl,d37.go X G λ_ _ F=>F.binds λ_ _ _ _ _ _ us hl=>by obtain⟨x0,x1,x2,rfl⟩:=rM hl;rfl,d38.go X G λ_ _ F=>F.binds λ_ _ _ _ _ _ us hl=>by obtain⟨x0,x1,x2,rfl⟩:=rM hl;rfl,d39.go X G λ_ _ F=>F.binds λ_ _ _ _ _ _ us hl=>by obtain⟨x0,x1,x2,rfl⟩:=rM hl;rfl,d40.go X G λ_ _ F=>F.binds λ_ _ _ _ _ _ us hl=>by obtain⟨x0,x1,x2,rfl⟩:=rM hl;rfl,⟨aD,[(.inr "set",.ref bD0),(.inr "more",.ref bD1),(.inr "in",.ref bD2),(.inr "out",.ref bD3),(.inr "lay",.ref bD4),(.inr "drop",.ref bD5)],vi X G AD,zlS (l:= [("set",uD0,.ref bD0),("more",uD1,.ref bD1),("in",uD2,.ref bD2),("out",uD3,.ref bD3),("lay",uD4,.ref bD4),("drop",uD5,.ref bD5)]) LD SD (.cons ⟨rfl,rfl⟩ (.cons ⟨rfl,rfl⟩ (.cons ⟨rfl,rfl⟩ (.cons ⟨rfl,rfl⟩ (.cons ⟨rfl,rfl⟩ (.cons ⟨rfl,rfl⟩ .nil)))))) (show([.inr "set",.inr "more",.inr "in",.inr "out",.inr "lay",.inr "drop"]:List z8).Nodup by decide+kernel),λA H=>(.cons (qT (l:= [("last",vD0_0),(84#1,vD0_1)]) TD0 3#0 A H) (.cons (qT (l:= [("sum",vD1_0)]) TD1 3#0 A H) (.cons (qT (l:= [("bag",vD2_0)]) TD2 3#0 A H) (.cons (qT (l:= [("bag",vD3_0)]) TD3 3#0 A H) (.cons (qT (l:= [(73#1,vD4_0)]) TD4 3#0 A H) (.cons (qT (l:= [(73#1,vD5_0)]) TD5 3#0 A H) .nil))))))⟩,⟨aE,[(.inr "shelf",.ref bE0),(.inr "many",.ref bE1),(.inr "long",.ref bE2)],vi X G AE,zlS (l:= [("shelf",uE0,.ref bE0),("many",uE1,.ref bE1),("long",uE2,.ref bE2)]) LE SE (.cons ⟨rfl,rfl⟩ (.cons ⟨rfl,rfl⟩ (.cons ⟨rfl,rfl⟩ .nil))) (show([.inr "shelf",.inr "many",.inr "long"]:List z8).Nodup by decide+kernel),λA H=>(.cons (qT (l:= [("last",vE0_0),("sum",vE0_1),(84#1,vE0_2)]) TE0 3#0 A H) (.cons (qT (l:= [("bag",vE1_0)]) TE1 3#0 A H) (.cons (qT (l:= [(73#1,vE2_0)]) TE2 3#0 A H) .nil)))⟩,⟨HE,C0,J0,_,C1,J1,_,A9,B9,⟨⟨λh' X'=>zxr hl rfl hl2 hk hni X',hrd,hfc,hga,hdg,hds⟩,⟨_,_,_,_,_,_,_,_,_,_,_,_,_,_,_,_,hl⟩,vi X G aH,⟨⟨_,_,_,_,_,_,_,_,_,_,_,_,_,_,co0⟩,ck0,cs0,cg0,cgg0,cc0⟩,⟨ci0,cf0⟩,vi X G ca0,FJ0,FJ0.binds (ps:= ["self",66#1]) λ_ _ _ _ _ _ us hl=>by obtain⟨x0,x1,rfl⟩:=tM hl;rfl,na0,⟨⟨_,_,_,_,_,_,_,_,_,_,_,_,_,_,co1⟩,ck1,cs1,cg1,cgg1,cc1⟩,⟨ci1,cf1⟩,vi X G ca1,FJ1,FJ1.binds (ps:= ["self"]) λ_ _ _ _ _ _ us hl=>by obtain⟨x0,rfl⟩:=uW hl;rfl,vi X G ga,vi X G gb,kh,ka⟩⟩⟩;obtain⟨f,_,_,_,_,_,_,_,_,_,e,l,c,k⟩:=dl;cases hfa.symm.trans (vi X G e);exact⟨_,λs v=> .of_eq rfl,λbase _ _=>zt_ M (kP l c k)⟩
theorem zsd {K:Frag}{H:Hp}{a:ac}{ns:List Int}(hl:ns.length<=63)(hS:x8 K H a (ns.map V.int)){E:XK} :zX K jY [.ref a] H (λv _=>v= .bl true) E:=by
 refine⟨[],[],[.lst 0#13],λr _=>r= .bl true,⟨3#0,rfl,λi a o h=>by cases h⟩,.cons (.val (.lst (hS.imp (λh=>⟨h,3#0⟩) id) ?_ (zlD ns))) .nil,⟨ns,rfl,rfl,hl,λ_=>rfl⟩,λA' H' zl r v g s e q=> ?_⟩
 ·rw[ae];exact bh hl 2#0
 ·subst q;exact zh5 e
theorem walk {l:PySem.W.OpenLaw}{q:ce}{loose:List Str}{XP:(Str->Option aa)->cn->Prop}{YP:ci->cn->Prop}{d:DefRec}{K:fq->Frag}(hn:l.most=some 63)(hdf:d.params.defaults= [])
  (hY: ∀(w:ci) (h:cn),YP w h->(K w.params).In h)
  (F: ∀(w:ci) (mg:Str->Option aa) (fa:ac) (h:cn),(K w.params).In h->h.Ns dz mg->mg d.name=some (.ref fa)->
   ∃fd:bu,(∀(s:ai) (u:aa),BindsTo s fd ⟨[u],[]⟩ [(8#1,u)])/\∀base:cn,(K w.params).In base->base.Ns dz mg->zM l.prog w (K w.params) mg base zY 23 fa fd [8#1] (zX (K w.params) jY)):
  PySem.W.WalkO q loose XP YP l.row.toRowW d [] (λf vs=>PySem.call f vs):=
 L2.walk_of (n:=63) (k:=23) (x:= 8#1) (CX:=λ_=>zY) (sp:=λw=>zX (K w.params) jY) hn 2#0 hdf ⟨rfl,2#0,2#0⟩ hY F (λ_ _ a ns hl _ hS=>zsd hl hS) λ_ _ _ _ _ z=>z
end N72
open PySem PySem.W PyProof.Rows
set_option maxRecDepth 100000 in
set_option maxHeartbeats 0 in
theorem PySem.Challenge.cw_copiedhouse_k72_joins_exchanged_holds : PySem.Challenge.rw_copiedhouse_k72_joins_exchanged.Holds := by
 w_on
 refine holds_law Hd.ws λsaid=> ?_;refine holds_open (q:=Hd.q) (loose:= [61#1,60#1]) (Xt:=Hd.Xt) (XP:=XL Hd.q []) (Yf:=Hook.obs Hd.hk) (Ya:=Hook.val Hd.hk) (YP:=Hook.says Hd.hk) (N:=8410) Hd.left (Hook.of Hd.hk) (Hook.keeps Hd.hk) (λs e=>xl_of s (kc.mp e).1) XL.keeps 4#0 4#0 4#0 (λs e=>recFacts_of (kc.mp e).2) 4#0 said 1#0 ⟨rfl,rfl,rfl,rfl,rfl,1#0⟩ ?hw ?hc
 (case hw=>w_witness2)
 unfold Hd.hk
 k_fill
 refine N72.walk (l:=PySem.Challenge.rw_copiedhouse_k72_joins_exchanged) rfl rfl (λw h Y=>PySem.W.km_in_of Y) ?F
 case F=>
  intro w mg fa h KX G AI
  refine' N72.all_mk KX G AI ?_ ?_ ?_ ?_ ?_ ?_ ?_ ?_ ?_ ?_ ?_ ?_ ?_ ?_ ?_ ?_ ?_ ?_ ?_ ?_ ?_ ?_ ?_ ?_ ?_ ?_ ?_ ?_ ?_ ?_ ?_ ?_ ?_ ?_ ?_ ?_ ?_ ?_ ?_ ?_ ?_ ?zn_ ?AD_ ?LD_ ?SD_ ?TD0_ ?TD1_ ?TD2_ ?TD3_ ?TD4_ ?TD5_ ?AE_ ?LE_ ?SE_ ?TE0_ ?TE1_ ?TE2_ ?aH_ ?hl_ ?hl2_ ?hk_ ?hni_ ?hrd_ ?hfc_ ?hga_ ?hdg_ ?hds_ ?ca0_ ?co0_ ?ck0_ ?cs0_ ?cg0_ ?cgg0_ ?cc0_ ?ci0_ ?cf0_ ?lj0_ ?cj0_ ?kj0_ ?ca1_ ?co1_ ?ck1_ ?cs1_ ?cg1_ ?cgg1_ ?cc1_ ?ci1_ ?cf1_ ?lj1_ ?cj1_ ?kj1_ ?na0_ ?ga_ ?gb_ ?kh_ ?ka_
  (case AD_=>k_is)
  (case LD_=>k_is)
  (case SD_=>decide)
  (case TD0_=>k_is)
  (case TD1_=>k_is)
  (case TD2_=>k_is)
  (case TD3_=>k_is)
  (case TD4_=>k_is)
  (case TD5_=>k_is)
  (case AE_=>k_is)
  (case LE_=>k_is)
  (case SE_=>decide)
  (case TE0_=>k_is)
  (case TE1_=>k_is)
  (case TE2_=>k_is)
  (case aH_=>k_is)
  (case hl_=>k_is)
  (case hl2_=>k_is)
  (case hk_=>rfl)
  (case hni_=>rfl)
  (case hrd_=>k_is)
  (case hfc_=>k_is)
  (case hga_=>k_is)
  (case hdg_=>k_is)
  (case hds_=>k_is)
  (case ca0_=>k_is)
  (case co0_=>k_is)
  (case ck0_=>k_is)
  (case cs0_=>k_is)
  (case cg0_=>k_is)
  (case cgg0_=>k_is)
  (case cc0_=>k_is)
  (case ci0_=>k_is)
  (case cf0_=>k_is)
  (case lj0_=>k_is)
  (case cj0_=>k_is)
  (case kj0_=>k_is)
  (case ca1_=>k_is)
  (case co1_=>k_is)
  (case ck1_=>k_is)
  (case cs1_=>k_is)
  (case cg1_=>k_is)
  (case cgg1_=>k_is)
  (case cc1_=>k_is)
  (case ci1_=>k_is)
  (case cf1_=>k_is)
  (case lj1_=>k_is)
  (case cj1_=>k_is)
  (case kj1_=>k_is)
  (case na0_=>show findIn _ _ _=some none;k_is)
  (case ga_=>k_is)
  (case gb_=>k_is)
  (case kh_=>kernel_rfl)
  (case ka_=>kernel_rfl)
  (case zn_=>intro x m;simp only[bo,mi,or_false]at m;rcases m with rfl | rfl | rfl | rfl | rfl | rfl | rfl | rfl | rfl | rfl | rfl | rfl | rfl | rfl | rfl | rfl | rfl <;> k_is)
  all_goals exact⟨_,_,_,_,_,_,_,_,_,_,by k_is,by k_is,by k_is,by k_is⟩
