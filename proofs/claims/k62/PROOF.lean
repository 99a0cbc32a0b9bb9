import PyProof.Rows.All
import Wide.All
import OpenK.AllK
import Wide.FinOn
import Lean
import PyProof.EqAt
import PyProof.EqKinds
import PyProof.TupleCall
import PyProof.SetScanFacts
import PyProof.Rows.SetFrom
import PyProof.Rows.SortWalk
import PyProof.CollectWalk
import PyProof.DictWalks
import KE.KDictList
import PySem.Challenge.RW_holdback_k62_whole_kept_behind_a_stop
set_option linter.all false
set_option maxRecDepth 100000
set_option maxHeartbeats 8000000
set_option tactic.hygienic false
set_option compiler.extract_closed false
open PySem PySem.Spec PyProof.Rows
local macro_rules|`({$xs:term,*})=>`(⟨$xs,*⟩)
open _root_.Array renaming length_toList->ca,getElem?_eq_getElem->eq,getElem?_toList->gu,getElem?_eq_some_iff->ik,getElem?_eq_none->ub,append_assoc->Bo,size_append->Do,toList_push->Ee,isEmpty_iff->Es,all_toList->Hf,all_append->Hr,toList->Lf
open _root_.Bool renaming false_ne_true->aw,and_eq_true->cj,or_eq_false_iff->ic,or_assoc->kq,eq_iff_iff->mz,true_or->pe,or_false->qz,or_eq_true->vk,false_eq_true->wq,not_eq_true'->xk,false_or->xx,not_eq_true->G_,and_false->J_,true_and->Kn
open _root_.False renaming elim->jq
open _root_.ForInStep renaming yield->jh
open _root_.Function renaming comp_def->E_
open _root_.Iff renaming rfl->Ls
open _root_.Int renaming toNat_natCast->cb,ofNat_lt->dr,toNat_of_nonneg->gi,natCast_nonneg->lz,emod_lt_of_pos->sj,zero_add->uc,emod_nonneg->vg,ofNat_le->vt,lt_succ->Aa,natCast_ediv->Hn,natCast_emod->Ho,natCast_add->Io
open _root_.Int.ofNat renaming inj->cg
open _root_.List renaming getElem?_eq_some_iff->ε,length_map->ζ,getElem?_eq_getElem->η,mem_of_getElem?->θ,range->ξ,getElem?_map->τ,mem_cons_of_mem->υ,mem_cons_self->ω,mem_singleton->aa,length_append->af,mem_range->ai,map_append->ak,lookup_cons->ao,mem_map->av,mem_cons->ax,size_toArray->az,mem_append->a_,getElem?_append_left->ba,replicate->bd,getElem?_eq_none->bq,range_succ->bt,mem_append_right->bv,take_length->bx,not_mem_nil->b_,getElem?_append_right->cf,length_filter_le->cm,length_cons->cv,length_range->cy,length_take->cz,any_eq_true->c_,take_add_one->di,map_cons->dk,mem_filter->dn,length_eq_zero_iff->fb,foldl_cons->fj,getElem?_set_self->fz,take_of_length_le->gb,length_reverse->gj,lookup->gq,append_assoc->gr,nodup_cons->gy,getElem?_set_ne->ia,flatten_cons->ii,pairwise_lt_range->il,drop_eq_getElem_cons->iq,length_singleton->iw,length_filterMap_le->i_,mem_append_left->ja,append_nil->jg,getElem_of_mem->jj,length_drop->jn,mem_filterMap->jo,nodup_nil->jr,find?_eq_none->ju,take_append_drop->jv,length_set->jw,foldl_append->ka,take_append_getElem->ki,eraseIdx_eq_take_drop_succ->ku,replicate_succ->kz,all_eq_true->lh,length->lu,find?_eq_some_iff_append->lx,pairwise_cons->mj,filter_append->mn,length_nil->m_,any_cons->nj,length_replicate->nq,cons_lt_cons_iff->nv,nodup_append->n_,reverse_cons->oa,Perm->pi,getElem_mem->pq,map_map->pr,pairwise_iff_getElem->p_,mem_or_eq_of_mem_set->qu,filterMap_cons->qv,countP_pos_iff->qx,eq_of_mem_replicate->q_,nil_append->rg,countP_append->tf,filter_congr->ud,append_eq_nil_iff->uf,cons_append->ul,mem_flatMap->uw,all_cons->u_,reverse_reverse->vd,find?_cons->vn,getElem?_range->vp,getD_eq_getElem?_getD->wj,length_eraseIdx_of_lt->wk,range_add->wt,mem_of_find?_eq_some->wy,getElem?_eq_none_iff->wz,any_eq_false->xa,ext_getElem?->xq,getElem?_replicate->yc,countP_cons->yh,foldl->yo,range_succ_eq_map->yq,map_nil->yr,filter_eq_nil_iff->yw,of_mem_zip->yy,forIn_cons->yz,filter_map->za,getElem?_toArray->zd,filterMap_append->zg,mem_iff_getElem?->zh,pairwise_append->zv,nodup_iff_count->zz,map_eq_nil_iff->Ar,map_take->Be,map_drop->Bf,getElem?_drop->Bt,filter_filter->Bu,count_pos_iff->Ca,take_sublist->Co,all_map->Dr,getElem_take->Du,getElem?_set->Et,countP_congr->Eu,getElem_inj->Fa,filter_cons->Ga,perm_middle->Gn,range'_succ->Gu,mem_reverse->He,countP_nil->Ik,any_append->Il,find?_some->Im,drop_zero->Ka,any_map->Lu,range'->Me,map->Mf
open _root_.List.Nodup renaming length_le_of_subset->uv
open _root_.List.Pairwise renaming nil->De
open _root_.Nat renaming le_refl->ρ,lt_of_lt_of_le->χ,le_trans->ψ,le_of_eq->bc,ne_of_lt->bg,zero_le->bh,le_succ_of_le->bz,le_of_not_lt->ck,lt_of_le_of_lt->cr,mul_comm->dh,add_mul->dz,add_assoc->eh,lt_or_ge->e_,le_of_lt_succ->fe,lt_succ_self->f_,exists_eq_add_of_le->ie,le_of_ble_eq_true->ir,ne_of_gt->iy,le_succ->jc,lt_irrefl->jm,le_antisymm->jx,div_lt_of_lt_mul->kd,mul_le_mul->lg,reduceEqDiff->lm,le_of_lt->l8,succ_mul->mf,lt_of_le_of_ne->mh,eq_zero_or_pos->mq,zero_add->mv,not_lt_zero->mw,mul_add_mod->na,mul_add_div->nc,lt_succ_of_lt->nz,succ_lt_succ->py,div_add_mod->si,mod_lt->sx,pos_of_ne_zero->s_,add_comm->ua,add_le_add->ue,div_lt_iff_lt_mul->uh,le_add_right->uq,mul_le_mul_right->ve,min_eq_left->vm,sub_self->vx,zero_mul->vy,lt_succ_of_le->xb,reduceAdd->ya,lt_trans->yp,le_of_succ_le_succ->yv,ble->Ce,succ_le_succ->Go,min_eq_right->G0,div_add_mod'->Hi
open _root_.Nat.succ renaming inj->Lr
open _root_.Ne renaming symm->fg
open _root_.Option renaming map_eq_some_iff->ae,isSome_iff_exists->da,map_some->rj,isNone_iff_eq_none->wx,isSome_map->xh,none->xj,bind_eq_some_iff->ye,map_map->zw,filter->Ba,getD_none->Fs,bind_some->Ha
open _root_.Option.some renaming inj->μ,injEq->xm
open _root_.Or renaming inr->zr,inl->Gf
open _root_.PyProof.Rows renaming slot_tuple_getitem->ji,callWith_type1->jk,IntsAre->rn,AllBare->tz,size_push'->ut,step_dedup->wm,firstMet->wn,firstMet_length_le->wo,envOfC->xt,subscriptTail_builtinR->ym,Subscript_->Jf
open _root_.PyProof.Rows.F renaming entry_set_update_loop->qw,plain_set_update_loop->Ao
open _root_.PyProof.Rows.IntsAre renaming length->zx
open _root_.PyProof.Rows.IsTup renaming new->Ku
open _root_.PySem renaming wpAny_bind->δ,wpAny_pure->ν,Shared->π,starEach->ay,Program->bu,mainGlobals->bw,wpAny_callSpecial?_slot->df,Around->dq,compareOp->dt,wpAny_call_entry->du,wpAny_newObj_type->dv,wpAny_passesOwn->fh,FuncData->gg,wpAny_holding->gx,sysModules->ig,wpAny_dictEntries->io,binaryOp->iu,tupleKind_room_in1->ix,backTo->jb,wpAny_field->jd,wpAny_typeNameOfWhole_keyiter->je,wpAny_truthy_bool->jf,wpAny_setField_rec->jt,foldedSetIterable->jy,wpAny_setState_of->j_,rawInt->kg,wpAny_attempt->kh,wpAny_typeNameOf_keyiter->kj,intKind->ky,wpAny_setEntries_of->k_,wpAny_setField->lb,wpAny_askSetting->li,wpAny_isInstance->lj,keywordEach->lq,codeAny_mono->l_,wpAny_execs_nil->mx,codeAny_builtin->my,behindInMarks->ni,wpAny_mono->om,wpAny_fieldsOf->oz,tupleKind->pd,call_meetsIn->ph,wpAny_ite_false->rq,wpAny_dictEpoch->r_,wpAny_Call_Name_kw->sr,call_meets->ss,wpAny_rule->sv,sliceBounds->tj,bootBuiltins->tq,holding->t9,getMethod->uk,PyData->um,codeAny->uy,attributeBase->uz,backToKw->vb,wpAny_specialOf->vj,Builtin->vq,swapsWith->vz,scanBound->v_,DictEntry->wa,entryOfKey->wb,assignEach->we,isSubtype_stop->wp,wpAny_binaryOp_repeat_ref->wv,sizeLine_eq->w_,BindsTo->xf,storedH->xg,wpAny_Call_method->xi,wpAny_pyIter_list->xl,fits_of_scanBound->xn,wpAny_pyIter_slot->xp,pyNext->xr,wpAny_comprehension_free->xv,ExceptHandler->xw,plainId_quiet->xy,NameKind->yb,noFill_tuple_add->yd,standAt->yi,getItem->yk,wpAny_typeOf->yl,typeIs_int->yn,letOwnedTupleGo->yx,wpAny_updateSeq->y_,wpAny_isTrue_Compare1->zb,wpAny_notOrdered_dict->ze,wpAny_isOneOf_keyiter->zf,pyIter->zi,callWith->zm,IsPart->zo,subscripted->zp,wpAny_seqItems->zt,wpAny_of_eq->zu,wpAny_pyIter_revIter->zy,Keyword->Ae,ElemsOf->Af,codeAny_forLoop_any->Ai,wpAny_standAt->As,seq_tuple_add->Au,wpAny_handled->A_,GenState->Cf,wpAny_assign_Name->Ci,concat_meets->Cr,seqIndex_neg->Cs,slot_list_getitem->Ct,valueAt->C_,relayAll->D_,wpAny_storeSet_of->Ef,setNext->Ei,wpAny_setEpoch_of->En,wpAny_pyIter_enum->Er,wpAny_execs_cons->Fe,PassesOwn->Ff,wpAny_Dict_empty->Ge,setFlight->Gi,wpAny_forIn_list->Gs,seqIndex_of->Ic,wpAny_throw->Ie,callerA->Iq,builtinsNs->Iv,wpAny_Name->Iw,wpAny_call->Iz,typeLookup->Je,typeIs_str->Jo,intKind_is->Jt,cellsFrom->Kt,noteFrame->K_,pickOrder->La,isTrue->Le,assign->Li,setItem->Ln
open _root_.PySem.AutoSeq1 renaming wpAny_loadPart'->x_
open _root_.PySem.Builtin.Dict renaming showsAll->ug,mergeDict->yu
open _root_.PySem.Builtin.Frozenset renaming updateFrom->Ij
open _root_.PySem.Builtin.List renaming listTooLong->kf,listSameRef->xz
open _root_.PySem.Builtin.Range renaming rangeSize->Kr
open _root_.PySem.Builtin.Slice renaming slicePlaces->pz,sliceAdjust->wu,slicePartIndex->Ih,sliceApplied->I_
open _root_.PySem.Builtin.SmallTypes renaming nextOf->ww
open _root_.PySem.Builtin.Tuple renaming tupleItemsOf->Ja,tupleTooMany->Jr,tupleHashOf->Ke
open _root_.PySem.Calls renaming spliced_cons->jp,evalArgs_plain->jz,callWith_builtin->me,spliced_nil->t_,Name_function_global->wc
open _root_.PySem.CmpOp renaming NotIn->Ma
open _root_.PySem.F renaming slot_dict_keyiterator_next->gz,slot_enumerate_next->nu,slot_tuple_mul->uo,args_dict_keyiterator_next_1->uu,entry_dict_keyiterator_next->vc,slot_int_rmul->vh,slot_tuple_iterator_next->wg,slot_dict_iter->yf,args_enumerate_next_1->yg,entry_enumerate_next->yt,args_list_append_2->zq,entry_list_append->An,slot_list_append->Br,args_tuple_mul_2->Bs,args_int_rmul_2->Cu,slot_tuple_rmul->Di,entry_tuple_mul->Dn,slot_int_index->Fu,entry_int_rmul->F_,fills_int_mul->Ii
open _root_.PySem.Heap renaming get?_push_of_some->ο,get?_push_size->aj,lt_size->au,get?_update_other->de,get?_update_self->dw,SameBut->fu,ExtBut->lw,size_push->zl
open _root_.PySem.Heap.IsSliceOf renaming new->Mi
open _root_.PySem.Heap.SameBut renaming update->d_,refl->xo
open _root_.PySem.NameKind renaming free->fm,cell->fq
open _root_.PySem.Obj renaming data_mapFields->g_,mapSeq->ma,isFreed_of_fields->nr,data_mapDictKeys->o_,mapFields->va,isFreed_of_dict->vo,cls_mapFields->Df,data_mapDict->Gr,putSet->Ju
open _root_.PySem.PyData renaming strOk->ce,eqv->h_,eqvAll->rf,int->B_,canLayAll0->Eo,depth->Lo
open _root_.PySem.SeqAt renaming in_tupleAt->Ft,EqAt->Mn
open _root_.PySem.SeqAt.EqAt renaming int_str->Bi,str_int->Bn
open _root_.PySem.SetTable renaming below->js,grown->oy,Probe->Js,slot->Ki
open _root_.PySem.SetTable.below renaming go->Ds
open _root_.PySem.SetTable.probe renaming go->Dt
open _root_.PySem.Str renaming ofString->cu,empty->Fn,length->Ji
open _root_.PySem.Value renaming ref->ff,none->ke,type->og,isInt_shape->tm,int->ui,isInt->Ht,bool->Ir,isStrOf->Kf,str->Ko
open _root_.PySem.W renaming Frag->ι,findIn->ci,mg_none_of->ip,mg_of->iz,nsIn->ko,keepIn->qy,instObj->uj,exmOne->wf,emptyDict->xc,fnOf->xu,plainGet->yj,hasDictIn->zj,codeIn->zn,plainGet_of->At,callWith_K->Cn,makesIn->Fi,cellsFrom_some->Fo,plainOver->Hu,specialIn->H_,methodCall_KW->Ig,lookIn->Ix,isFn->Iy,takerIn->Ks
open _root_.PySem.Walks renaming list->Mo
open _root_.PySem.pickOrder renaming go->Ea
open _root_.Std.Legacy.Range renaming forIn_eq_forIn_range'->z_
open _root_.Sum renaming inl->ux,inr->Ip
open _root_.Sum.inr renaming inj->L_
open _root_.True renaming intro->oq
namespace L2
def md(y:Int)(k:Nat)(h:0<k):∃ n:Nat,1+y%(k:Int)=n/\1<=n/\n<=k:=by
 obtain⟨b,e⟩:=Int.eq_ofNat_of_zero_le (vg y (show(k:Int)≠0 by omega))
 have:=sj y (show 0<(k:Int) by omega);exact{1+b,by omega,by omega,by omega}
section
variable{a b c k:Nat}{z:Int}
def c3(h:a<3):a=0\/a=1\/a=2:=by omega
def c5(h:a<5):a=0\/a=1\/a=2\/a=3\/a=4:=by omega
def oA(h:a<=b)(d:Ce b c=true):a<=c:=ψ h<|ir d
def oB(h:a<b)(d:Ce b (c+1)=true):a<=c:=fe<|χ h<|ir d
def oC(h:a<=b)(d:Ce (b+1) c=true):a<c:=cr h<|ir d
def oD(h:a<b)(d:Ce b c=true):a<c:=χ h<|ir d
def oG(h:a<=b)(d:Ce (b+k+1) c=true):a+k<c:=cr (Nat.add_le_add_right h k) (ir d)
def oH(h:a<b)(d:Ce (b+k) c=true):a+k<c:=χ (Nat.add_lt_add_right h k) (ir d)
def iM(d:decide (z<=0)=true):z<=(a:Int):=Int.le_trans (of_decide_eq_true d) (lz a)
def i0:(0:Int)<=(a:Int):=lz a
def nE{P:Prop}(d:Nat.beq a b=false):¬(a=b/\P):=λh=>by rw[h.1,Nat.beq_refl]at d;cases d
def nL{α :Prop}(h:a<b)(g:b<=a): α :=absurd h<|Nat.not_lt.mpr g
def nZ{α :Prop}(h:a<0): α :=absurd h<|mw a
end
def x2{p:A->B->Prop}(a b)(h:p a b):∃ a b,p a b:=⟨_,_,h⟩
def x3{p:A->B->C->Prop}(a b c)(h:p a b c):∃ a b c,p a b c:=⟨_,_,_,h⟩
def x4{p:A->B->C->D->Prop}(a b c d)(h:p a b c d):∃ a b c d,p a b c d:=⟨_,_,_,_,h⟩
def x5{p:A->B->C->D->F->Prop}(a b c d e)(h:p a b c d e):∃ a b c d e,p a b c d e:=⟨_,_,_,_,_,h⟩
def x6{p:A->B->C->D->F->G->Prop}(a b c d e f)(h:p a b c d e f):∃ a b c d e f,p a b c d e f:=⟨_,_,_,_,_,_,h⟩
def x7{p:A->B->C->D->F->G->I->Prop}(a b c d e f g)(h:p a b c d e f g):∃ a b c d e f g,p a b c d e f g:=⟨_,_,_,_,_,_,_,h⟩
def x8{p:A->B->C->D->F->G->I->J->Prop}(a b c d e f g i)(h:p a b c d e f g i):∃ a b c d e f g i,p a b c d e f g i:=⟨_,_,_,_,_,_,_,_,h⟩
def x9{p:A->B->C->D->F->G->I->J->L->Prop}(a b c d e f g i j)(h:p a b c d e f g i j):∃ a b c d e f g i j,p a b c d e f g i j:=⟨_,_,_,_,_,_,_,_,_,h⟩
def U6{p:A->B->C->D->F->G->I->J->L->M->Prop}(a b c d e f g i j l)(h:p a b c d e f g i j l):∃ a b c d e f g i j l,p a b c d e f g i j l:=⟨_,_,_,_,_,_,_,_,_,_,h⟩
def N2{p:A->B->C->D->F->G->I->J->L->M->N->Prop}(a b c d e f g i j l m)(h:p a b c d e f g i j l m):∃ a b c d e f g i j l m,p a b c d e f g i j l m:=⟨_,_,_,_,_,_,_,_,_,_,_,h⟩
def N3{p:A->B->C->D->F->G->I->J->L->M->N->O->Prop}(a b c d e f g i j l m n)(h:p a b c d e f g i j l m n):∃ a b c d e f g i j l m n,p a b c d e f g i j l m n:=⟨_,_,_,_,_,_,_,_,_,_,_,_,h⟩
def By{p:A->B->C->D->F->G->I->J->L->M->N->O->P->R->Prop}(a b c d e f g i j l m n o q)(h:p a b c d e f g i j l m n o q):∃ a b c d e f g i j l m n o q,p a b c d e f g i j l m n o q:=⟨_,_,_,_,_,_,_,_,_,_,_,_,_,_,h⟩
def y2{p:A->B->Prop}(h:p a b):∃ a b,p a b:=⟨_,_,h⟩
def y3{p:A->B->C->Prop}(h:p a b c):∃ a b c,p a b c:=⟨_,_,_,h⟩
def y4{p:A->B->C->D->Prop}(h:p a b c d):∃ a b c d,p a b c d:=⟨_,_,_,_,h⟩
def y5{p:A->B->C->D->F->Prop}(h:p a b c d e):∃ a b c d e,p a b c d e:=⟨_,_,_,_,_,h⟩
def u2{p:A->B->Prop}{z:Prop}(k:∀ a b,p a b->z):(∃ a b,p a b)->z:=λh=>by obtain⟨y,y,h⟩:=h;exact k _ _ h
def u3{p:A->B->C->Prop}{z:Prop}(k:∀ a b c,p a b c->z):(∃ a b c,p a b c)->z:=λh=>by obtain⟨y,y,y,h⟩:=h;exact k _ _ _ h
def u4{p:A->B->C->D->Prop}{z:Prop}(k:∀ a b c d,p a b c d->z):(∃ a b c d,p a b c d)->z:=λh=>by obtain⟨y,y,y,y,h⟩:=h;exact k _ _ _ _ h
def u5{p:A->B->C->D->F->Prop}{z:Prop}(k:∀ a b c d e,p a b c d e->z):(∃ a b c d e,p a b c d e)->z:=λh=>by obtain⟨y,y,y,y,y,h⟩:=h;exact k _ _ _ _ _ h
def u6{p:A->B->C->D->F->G->Prop}{z:Prop}(k:∀ a b c d e f,p a b c d e f->z):(∃ a b c d e f,p a b c d e f)->z:=λh=>by obtain⟨y,y,y,y,y,y,h⟩:=h;exact k _ _ _ _ _ _ h
def u7{p:A->B->C->D->F->G->I->Prop}{z:Prop}(k:∀ a b c d e f g,p a b c d e f g->z):(∃ a b c d e f g,p a b c d e f g)->z:=λh=>by obtain⟨y,y,y,y,y,y,y,h⟩:=h;exact k _ _ _ _ _ _ _ h
def u8{p:A->B->C->D->F->G->I->J->Prop}{z:Prop}(k:∀ a b c d e f g i,p a b c d e f g i->z):(∃ a b c d e f g i,p a b c d e f g i)->z:=λh=>by obtain⟨y,y,y,y,y,y,y,y,h⟩:=h;exact k _ _ _ _ _ _ _ _ h
def u9{p:A->B->C->D->F->G->I->J->L->Prop}{z:Prop}(k:∀ a b c d e f g i j,p a b c d e f g i j->z):(∃ a b c d e f g i j,p a b c d e f g i j)->z:=λh=>by obtain⟨y,y,y,y,y,y,y,y,y,h⟩:=h;exact k _ _ _ _ _ _ _ _ _ h
def RI{p:A->B->C->D->F->G->I->J->L->M->Prop}{z:Prop}(k:∀ a b c d e f g i j l,p a b c d e f g i j l->z):(∃ a b c d e f g i j l,p a b c d e f g i j l)->z:=λh=>by obtain⟨y,y,y,y,y,y,y,y,y,y,h⟩:=h;exact k _ _ _ _ _ _ _ _ _ _ h
def RJ{p:A->B->C->D->F->G->I->J->L->M->N->Prop}{z:Prop}(k:∀ a b c d e f g i j l m,p a b c d e f g i j l m->z):(∃ a b c d e f g i j l m,p a b c d e f g i j l m)->z:=λh=>by obtain⟨y,y,y,y,y,y,y,y,y,y,y,h⟩:=h;exact k _ _ _ _ _ _ _ _ _ _ _ h
def KD{p:A->B->C->D->F->G->I->J->L->M->N->O->Prop}{z:Prop}(k:∀ a b c d e f g i j l m n,p a b c d e f g i j l m n->z):(∃ a b c d e f g i j l m n,p a b c d e f g i j l m n)->z:=λh=>by obtain⟨y,y,y,y,y,y,y,y,y,y,y,y,h⟩:=h;exact k _ _ _ _ _ _ _ _ _ _ _ _ h
def Bz{p:A->B->C->D->F->G->I->J->L->M->N->O->P->R->Prop}{z:Prop}(k:∀ a b c d e f g i j l m n o q,p a b c d e f g i j l m n o q->z):(∃ a b c d e f g i j l m n o q,p a b c d e f g i j l m n o q)->z:=λh=>by obtain⟨y,y,y,y,y,y,y,y,y,y,y,y,y,y,h⟩:=h;exact k _ _ _ _ _ _ _ _ _ _ _ _ _ _ h
end L2
set_option Elab.async false
namespace L2
abbrev AN:=Sum Int Str
def LR:AN->Value->Bool
 |.inl k,v=>Ht k v
 |.inr x,v=>Kf x v
def Cb(w:World):AN->Int
 |.inl k=>hashInt k
 |.inr x=>hashStr w x
def HL:∀ {k:AN} {v:Value},LR k v=true->(∃ i t,k=ux i/\v=ui i t)\/(∃ x t,k=Ip x/\v=Ko x t)
 |.inl i,v,h=>by
  obtain⟨t,e⟩:=tm   h;exact .inl<|x2 i t ⟨rfl,e⟩
 |.inr x,v,h=>by
  obtain⟨t,e⟩:=Value.isStrOf_shape   h;exact .inr<|x2 x t ⟨rfl,e⟩
def Cc(i:Int)(t:Tok):LR (.inl i) (.int i t)=true:=by simp[LR,Ht]
def Cd(x:Str)(t:Tok):LR (.inr x) (.str x t)=true:=by simp[LR,Kf]
def Cg(a b:Int):decide ((ux a:AN)=ux b)=(a==b):=by
 by_cases e:a=b;subst e;simp;rw[decide_eq_false (λq=>e<|Sum.inl.inj q)];exact(beq_eq_false_iff_ne.mpr e).symm
def Cj(a b:Str):decide ((Ip a:AN)=Ip b)=decide (a=b):=by
 by_cases e:a=b;simp;rw[decide_eq_false (λq=>e<|L_ q),decide_eq_false e]
def Ck(a:Int)(b:Str):decide ((ux a:AN)=Ip b)=false:=decide_eq_false (λq=>nomatch q)
def Cl(a:Str)(b:Int):decide ((Ip a:AN)=ux b)=false:=decide_eq_false (λq=>nomatch q)
def DZ(prog:bu)(w:World):PySem.KeyKind prog w AN where
 is:=LR
 hash:=Cb w
 inj:=λv a b ha hb=>by
  rcases HL ha with⟨i,t,rfl,rfl⟩|⟨x,t,rfl,rfl⟩
  ·rcases HL hb with⟨j,u,rfl,e⟩|⟨y,u,rfl,e⟩
   ·injection e with e1 _;rw[e1]
   ·exact nomatch e
  ·rcases HL hb with⟨j,u,rfl,e⟩|⟨y,u,rfl,e⟩
   ·exact nomatch e
   ·injection e with e1 _;rw[e1]
 byValue:=λk v h=>by
  rcases HL h with⟨i,t,rfl,rfl⟩|⟨x,t,rfl,rfl⟩<;>rfl
 pyHash:=λhv h=>by
  rcases HL hv with⟨i,t,rfl,rfl⟩|⟨x,t,rfl,rfl⟩
  ·exact wpAny_pyHash_int h
  ·exact wpAny_pyHash_str h
 eqBool:=λhu hv h=>by
  rcases HL hu with⟨i,t,rfl,rfl⟩|⟨x,t,rfl,rfl⟩
  ·rcases HL hv with⟨j,u,rfl,rfl⟩|⟨y,u,rfl,rfl⟩
   ·rw[Cg]at h;exact wpAny_eqBool_int h
   ·rw[Ck]at h;exact Bi i t y u _ _ _ _ h
  ·rcases HL hv with⟨j,u,rfl,rfl⟩|⟨y,u,rfl,rfl⟩
   ·rw[Cl]at h;exact Bn x t j u _ _ _ _ h
   ·rw[Cj]at h;exact wpAny_eqBool_str h
 «strs» :=λk x t v h=>by
  rcases HL h with⟨i,u,rfl,e⟩|⟨y,u,rfl,e⟩
  ·exact nomatch e
  ·injection e with e1 _
   subst e1;cases v<;>rfl
def Cm(prog:bu)(w:World)(i:Int)(t:Tok):(DZ prog w).is (.inl i) (.int i t)=true:=Cc i t
def Cp(prog:bu)(w:World)(x:Str)(t:Tok):(DZ prog w).is (.inr x) (.str x t)=true:=Cd x t
inductive V where
 |non|bl (b:Bool)|int (i:Int)|str (x:Str)|byt (b:Array UInt8)|flt (b:UInt64)|ref (a:Addr)|ty (n:String)
 deriving DecidableEq
def RelV:V->Value->Prop
 |.non,u=>u=ke
 |.bl b,u=>u=Ir b
 |.int i,u=>∃ t,u=ui i t
 |.str x,u=>∃ t,u=Ko x t
 |.byt b,u=>∃ t,u=Value.bytes b t
 |.flt b,u=>∃ t,u=Value.float b t
 |.ref a,u=>u=ff a
 |.ty n,u=>u=og n
abbrev _root_.Oj:=List V
abbrev _root_.qV:=List Value
abbrev Vals:Oj->qV->Prop:=Paired RelV
def Vals.length{xs:Oj}{us:qV}(r:Vals xs us):xs.length=us.length:=Paired.length r
def Vals.get:∀ {xs:Oj} {us:qV} {i:Nat} {x:V},Vals xs us->xs[i]? =some x->∃ u,us[i]? =some u/\RelV x u
 |_,_,_,_,.nil,e=>by simp at e
 |_,_,0,_,.cons r _,e=>by simp at e;subst e;exact⟨_,rfl,r⟩
 |_,_,i+1,x,.cons _ t,e=>by
  obtain⟨u,h1,h2⟩:=Vals.get   t (e);exact⟨u,h1,h2⟩
def Vals.set{x:V}{u:Value}(r:RelV x u):∀ {xs:Oj} {us:qV} (i:Nat),Vals xs us->Vals (xs.set i x) (us.set i u)
 |_,_,_,.nil=>.nil
 |_,_,0,.cons _ t=>.cons r t
 |_,_,i+1,.cons q t=>.cons q<|Vals.set r i t
def Vals.append:∀ {xs ys:Oj} {us ws:qV},Vals xs us->Vals ys ws->Vals (xs++ys) (us++ws)
 |_,_,_,_,.nil,s=>s
 |_,_,_,_,.cons r t,s=>.cons r<|Vals.append t s
def Vals.take:∀ {xs:Oj} {us:qV} (n:Nat),Vals xs us->Vals (xs.take n) (us.take n)
 |_,_,0,_=>.nil
 |_,_,_+1,.nil=>.nil
 |_,_,n+1,.cons r t=>.cons r<|Vals.take n t
def Vals.drop:∀ {xs:Oj} {us:qV} (n:Nat),Vals xs us->Vals (xs.drop n) (us.drop n)
 |_,_,0,r=>r
 |_,_,_+1,.nil=>.nil
 |_,_,n+1,.cons _ t=>Vals.drop n t
def RelO:Option V->Option Value->Prop
 |some v,some u=>RelV v u
 |none,none=>True
 |_,_=>False
def KV{κ :Type}:List (κ × V)->List (κ × Value)->Prop:=Paired λ(p: κ × V) (q: κ × Value)=>p.1=q.1/\RelV p.2 q.2
def kV:AN->V
 |.inl i=>.int i
 |.inr x=>.str x
abbrev _root_.rR:=List (AN × V)
abbrev _root_.rC:=List (List AN × V)
abbrev _root_.rW:=Int->Bool
abbrev _root_.rP:=List (Str × V)
inductive HO where
 /-- a list -/
 |lst (xs:Oj)
 /-- a tuple (never changes) -/
 |tup (xs:Oj)
 /-- a dict whose keys are ints and texts;one whose keys are tuples of ints and texts (the empty one is both) -/
 |dK (kvs:rR)|dT (kvs:rC)
 /-- a set of ints: AJ members,AJ size -/
 |set (S:rW) (n:Nat)
 /-- an instance of the class at C,AJ dict at dx,AJ attributes -/
 |ins (C dx:Addr) (fs:rP)
 /-- the dict of the instance at x -/
 |own (x:Addr)
 /-- the dict of an exception -/
 |xd (fs:rP)
 /-- a bound method,f of x -/
 |met (f x:Addr)
 /-- a range object lo,lo+1,.. below hi -/
 |rng (lo hi:Int)
 /-- a thing that is known to the object (the script;a dict while a loop walks it): read,never written while it is so -/
 |frz (o:Obj) (u:HO)
 /-- a code object's table -/
 |tbl (ps:Array Value)
 /-- any other thing,by what is true of AJ one object (a def of one's own: SetO a S n:=HO.ext λh=>..) -/
 |ext (φ :Heap->Prop)
abbrev Hp:=Addr->Option HO
def upd(H:Hp)(a:Addr)(o:HO):Hp:=λb=>if b=a then some o else H b
def AD{H:Hp}{a:Addr}{o:HO}:upd H a o a=some o:=by unfold upd;rw[if_pos rfl]
def AH{H:Hp}{a b:Addr}{o:HO}(h:b≠a):upd H a o b=H b:=by unfold upd;rw[if_neg h]
def FW:upd (upd H a o) a u=upd H a u:=by
 funext b;unfold upd;split<;>rfl
def BB{H:Hp}{a b:Addr}{o u:HO}(h:H a=some o)(h':H b=some u)(d:o≠u):a≠b:=by
 rintro rfl;rw[h]at h';exact d<|μ h'
def BE{H:Hp}{a b:Addr}{o:HO}(h:H a=some o)(h':H b=none):a≠b:=by
 rintro rfl;rw[h]at h';cases h'
section
variable(P:bu)(w:World)
abbrev _root_.pA:=List (List AN × Addr × Value)
def ObjOk(H:Hp)(h:Heap)(a:Addr):HO->Prop
 |.lst xs=>xs.length<=sizeLine/\∃ (AJ:qV) (n:Nat),Vals xs AJ/\h.get? a=some { cls:=.type "list",data:=.seq AJ.toArray n }
 |.tup xs=>xs.length<=sizeLine/\∃ AJ:qV,Vals xs AJ/\IsTup h a AJ.toArray
 |.dK kvs=>kvs.length<=sizeLine/\(a==ig)=false/\∃ vs,KV kvs vs/\h.DictOf (DZ P w) a vs
 |.dT kvs=>kvs.length<=sizeLine/\(a==ig)=false/\∃ xs:pA,
   Paired (λ(p:List AN × V) (q:List AN × Addr × Value)=>p.1=q.1/\H q.2.1=some (.tup<|p.1.map kV)/\RelV p.2 q.2.2) kvs xs /\
   ∃ o es ep,h.get? a=some o/\o.ExactDict/\o.data=.dict es ep/\es.toList=xs.map (wb<|pd<|DZ P w)/\(xs.map (·.1)).Nodup
 |.set S n=>h.SetOf (ky P w) a S n
 |.ins C dx fs=>H dx=some (.own a)/\fs.length<=1000/\dx≠a/\h.get? a=some (uj C dx) /\
   ∃ mA,h.Ns1 dx mA/\(∀ f,RelO (fs.lookup f) (mA f))/\PySem.Within mA (fs.map (·.1))
 |.own _=>∃ o,h.get? a=some o
 |.xd fs=>∃ mA,h.Ns1 a mA/\∀ f,RelO (fs.lookup f) (mA f)
 |.rng lo hi=>∃ t u v,h.get? a=some { cls:=.type "range",data:=.fields #[.int lo t,.int hi u,.int 1 v] }
 |.frz o u=>h.get? a=some o/\ObjOk H h a u
 |.tbl ps=>h.get? a=some { cls:=.none,data:=.fields ps }
 |.met f x=>h.get? a=some (W.methodObj (.ref f) (.ref x))
 |.ext φ => φ h/\(∃ o,h.get? a=some o)/\∀ h1 h2:Heap,φ h1->(∀ o,h1.get? a=some o->h2.get? a=some o)-> φ h2
def HOk(H:Hp)(h:Heap):Prop:=∀ a o,H a=some o->ObjOk P w H h a o
end
section
variable{P:bu}{w:World}{H H':Hp}{h h':Heap}{a:Addr}{o:HO}
def ObjOk.lt(x:ObjOk P w H h a o):a<h.objs.size:=by
 cases o with
 |lst xs=>obtain⟨z,z,z,z,e⟩:=x;exact au e
 |tup xs=>obtain⟨z,z,z,p⟩:=x;exact p.lt
 |dK kvs=>obtain⟨z,z,z,z,o,z,z,e,z⟩:=x;exact au e
 |dT kvs=>obtain⟨z,z,z,z,o,z,z,e,z⟩:=x;exact au e
 |set S n=>revert x;apply u4;rintro o z z z ⟨e,z⟩;exact au e
 |ins C dx fs=>obtain⟨z,z,z,e,z⟩:=x;exact au e
 |own y=>obtain⟨z,e⟩:=x;exact au e
 |xd fs=>obtain⟨z,⟨z,z,z,e,z⟩,z⟩:=x;exact au e
 |rng lo hi=>revert x;apply u3;rintro z z z e;exact au e
 |frz ob u=>obtain⟨e,z⟩:=x;exact au e
 |tbl ps=>exact au<|x
 |met f y=>exact au<|x
 |ext φ =>obtain⟨z,⟨z,e⟩,z⟩:=x;exact au e
def Paired.mapP{α β :Type}{F G: α -> β ->Prop}:∀ {l₁:List α} {l₂:List β},Paired F l₁ l₂->(∀ a b,F a b->G a b)->Paired G l₁ l₂
 |_,_,.nil,_=>.nil
 |_,_,.cons r t,f=>.cons (f _ _ r) (Paired.mapP t f)
def ObjOk.stay(x:ObjOk P w H h a o)(k:∀ b u,(b=a\/H b=some (.own a))->h.get? b=some u->h'.get? b=some u)
  (ho:∀ b,H b=some (.own a)->H' b=some (.own a)) (ht:∀ b xs,H b=some (.tup xs)->H' b=some (.tup xs)):ObjOk P w H' h' a o:=by
 induction o with
 |lst xs=>obtain⟨z,AJ,n,r,e⟩:=x;exact{z,x2 _ n {r,k _ _ (.inl rfl) e}}
 |tup xs=>obtain⟨z,AJ,r,ob,e,c⟩:=x;exact{z,_,r,ob,k _ _ (.inl rfl) e,c}
 |dK kvs=>obtain⟨z,y,vs,r,ob,es,ep,e,c⟩:=x;exact{z,y,vs,r,x3 ob es ep {k _ _ (.inl rfl) e,c}}
 |dT kvs =>
  obtain⟨z,y,xs,r,ob,es,ep,e,c⟩:=x;exact{z,y,xs,Paired.mapP r λp q z=>{z.1,ht _ _ z.2.1,z.2.2},x3 ob es ep {k _ _ (.inl rfl) e,c}}
 |set S n=>revert x;apply u4;rintro ob es ep t ⟨e,c⟩;exact x4 ob es ep t {k _ _ (.inl rfl) e,c}
 |ins C dx fs =>
  obtain⟨d,z,ne,e,mA,⟨od,es,ep,e2,c⟩,r⟩:=x;exact{ho _ d,z,ne,k _ _ (.inl rfl) e,mA,x3 od es ep {k _ _ (.inr d) e2,c},r}
 |own y=>obtain⟨ob,e⟩:=x;exact{ob,k _ _ (.inl rfl) e}
 |xd fs=>obtain⟨mA,⟨od,es,ep,e,c⟩,r⟩:=x;exact{mA,x3 od es ep {k _ _ (.inl rfl) e,c},r}
 |rng lo hi=>revert x;apply u3;rintro t u v e;exact x3 t u v<|k _ _ (.inl rfl) e
 |frz ob u ih=>obtain⟨e,q⟩:=x;exact{k _ _ (.inl rfl) e,ih q}
 |tbl ps =>
  have e:h.get? a=some _:=x;exact k a _ (.inl rfl) e
 |met f y =>
  exact k a _ (.inl rfl) x
 |ext φ =>obtain⟨p,⟨o,e⟩,st⟩:=x;exact{st _ _ p λo q=>k _ _ (.inl rfl) q,{o,k _ _ (.inl rfl) e},st}
def HOk.lt(x:HOk P w H h)(e:H a=some o):a<h.objs.size:=(x a o e).lt
def HOk.fresh(x:HOk P w H h)(e:h.objs.size<=a):H a=none:=by
 cases q:H a with
 |none=>rfl
 |some u=>exact absurd (χ (x.lt q) e) (jm _)
def HOk.kept(x:HOk P w H h)(k:∀ b u,h.get? b=some u->h'.get? b=some u):HOk P w H h':=λa o e =>
 (x a o e).stay (λb u z q=>k b u q) (λz q=>q) λz z q=>q
def HOk.laid(x:HOk P w H h)(k:∀ b u,h.get? b=some u->h'.get? b=some u)(hp:h.objs.size<=a)(new:ObjOk P w (upd H a o) h' a o):HOk P w (upd H a o) h':=λb u e=>by
 have hn:=x.fresh hp;by_cases hb:b=a;subst hb;rw[AD]at e;obtain rfl:=μ e;exact new;rw[AH hb]at e;exact(x b u e).stay (λc v z q=>k c v q) (λc q=>by rw[AH (BE q hn)];exact q) λc xs q=>by rw[AH (BE q hn)];exact q
end
def Rd(H:Hp)(a:Addr)(u:HO):Prop:=H a=some u\/∃ o,H a=some (.frz o u)
def Rd.ok(r:Rd H a u)(x:HOk P w H h):ObjOk P w H h a u:=by
 rcases r with r|⟨o,r⟩
 exact x a u r;obtain⟨z,q⟩:=x a _ r;exact q
def N4:Option HO->Prop
 |some (.lst _)=>True
 |some (.dK _)=>True
 |some (.dT _)=>True
 |some (.set _ _)=>True
 |some (.ins _ _ _)=>True
 |some (.ext _)=>True
 |_=>False
section
variable{P:bu}{w:World}{H:Hp}{h h':Heap}{x e:Addr}{o':HO}
def HOk.write(ok:HOk P w H h)(mu:N4 (H x))(he:e=x\/H e=some (.own x))(k:∀ b u,b≠e->h.get? b=some u->h'.get? b=some u)(heo:∃ u,h'.get? e=some u)
  (new:ObjOk P w (upd H x o') h' x o'):HOk P w (upd H x o') h':=λb u q=>by
 have nown:∀ c y,H c=some (.own y)->c≠x:=λc y r z=>by subst z;rw[r]at mu;exact mu
 by_cases hb:b=x;subst hb;rw[AD]at q;obtain rfl:=μ q;exact new;rw[AH hb]at q;by_cases hbe:b=e
 have q':H b=some (.own x):=by
  rcases he with z|z
  exact absurd (hbe.trans z) hb;rw[hbe];exact z
 rw[q]at q';obtain⟨v,hv⟩:=heo;obtain rfl:=μ q';exact{v,by rw[hbe];exact hv};refine(ok b u q).stay (λc v hc r=>k c v ?_ r) (λc r=>by rw[AH (nown c b r)];exact r) λc xs r=>by rw[AH ((λc xs r z=>by subst z;rw[r]at mu;exact mu) c xs r)];exact r
 rcases hc with rfl|hc
 exact hbe;rintro rfl;rcases he with z|z
 exact nown c b hc z;rw[hc]at z;cases z;exact hb rfl
end
abbrev _root_.qX:=List Addr
structure Un(fs ex:qX)(H H':Hp)(h h':Heap):Prop where
 keep:∀ b o,h.get? b=some o->H b=none->b∉fs->b∉ex->h'.get? b=some o
 slot:∀ b o,h.get? b=some o->H b=none->b∈fs->b∉ex->∃ sl,h'.get? b=some { o with slots:=sl }
 free:∀ b o,h.get? b=some o->H b=none->b∉ex->H' b=none
 there:∀ b o,h.get? b=some o->b∉ex->∃ o',h'.get? b=some o'
 tups:∀ b xs,H b=some (.tup xs)->H' b=some (.tup xs)
 frzs:∀ b o u,H b=some (.frz o u)->H' b=some (.frz o u)
 tbls:∀ b ps,H b=some (.tbl ps)->∃ more,H' b=some (.tbl<|ps++more)
section
variable{fs fs' ex iQ:qX}{H H1 H2:Hp}{h h1 h2 h':Heap}{a x e:Addr}{o:HO}
def Un.any(u:Un fs ex H H1 h h1)(q:h.get? b=some ob)(n:H b=none)(hx:b∉ex):∃ sl,h1.get? b=some { ob with slots:=sl }:=by
 by_cases hb:b∈fs;exact u.slot b ob q n hb hx;exact{_,u.keep b ob q n hb hx}
def Un.kept(k:∀ b u,h.get? b=some u->h'.get? b=some u):Un fs ex H H h h' :=
 {λb ob q z z z=>k b ob q,λb ob q z z z=>{_,k b ob q},λz z z n z=>n,λb ob q z=>{ob,k b ob q},λz z q=>q,λz z z q=>q,λz ps q=>{#[],by rw[q];simp}}
def Un.refl:Un fs ex H H h h:=Un.kept λz z q=>q
def Un.laid(k:∀ b u,h.get? b=some u->h'.get? b=some u)(hp:h.objs.size<=a)(hn:H a=none):Un fs ex H (upd H a o) h h' where
 keep:=λb u q z z z=>k b u q
 slot:=λb u q z z z=>{_,k b u q}
 free:=λb u q n z=>by rw[AH (bg<|χ (au q) hp)];exact n
 there:=λb u q z=>{u,k b u q}
 tups:=λb xs q=>by rw[AH (BE q hn)];exact q
 frzs:=λb u xs q=>by rw[AH (BE q hn)];exact q
 tbls:=λb ps q=>{#[],by rw[AH (BE q hn),q];simp}
def Un.write(mu:N4 (H x))(he:e=x\/H e=some (.own x))(k:∀ b u,b≠e->h.get? b=some u->h'.get? b=some u)(heo:∃ u,h'.get? e=some u):Un fs ex H (upd H x o) h h':=by
 have hx:∀ b,H b=none->b≠x:=λb n z=>by subst z;rw[n]at mu;exact mu
 have hm:∀ b u,H b=some u->¬ N4 (some u)->b≠x:=λb u q nm z=>by subst z;rw[q]at mu;exact nm mu
 have hb:∀ b,H b=none->b≠e:=λb n z=>by
  subst z;rcases he with r|r
  exact hx b n r;rw[n]at r;cases r
 refine⟨λb u q n y y=>k b u (hb b n) q,λb u q n y y=>{_,k b u (hb b n) q},λb u q n y=>by rw[AH (hx b n)];exact n,λb u q y=>?_,
  λb xs q=>by rw[AH (hm b _ q λz=>z)];exact q,λb u xs q=>by rw[AH (hm b _ q λz=>z)];exact q,λb ps q=>{#[],by rw[AH (hm b _ q λz=>z),q];simp}⟩
 by_cases hbe:b=e;subst hbe;exact heo;exact{u,k b u hbe q}
end
def Cq(h:Heap)(H:Hp):qX:=(ξ h.objs.size).filter λa=>(H a).isSome
def MQ(h:Heap)(H:Hp):Heap:=W.hideAll h<|Cq h H
def Cv(h:Heap)(H:Hp):(MQ h H).objs.size=h.objs.size:=W.hideAll_size _ _
def Cw(e:h.get? b=some o)(n:H b=none):(MQ h H).get? b=some o :=
 W.hideAll_get _ e λhm=>by
  have q:=(dn.mp hm).2;rw[n]at q;simp at q
def Cy(e:(MQ h H).get? b=some o):h.get? b=some o/\H b=none:=by
 have e':=W.of_hideAll _ e;refine{e',?_};cases q:H b with
 |none=>rfl
 |some x =>
  have z:(MQ h H).get? b=none:=W.hideAll_none _ (dn.mpr {ai.mpr<|au e',by simp[q]});rw[z]at e;cases e
abbrev _root_.rN:=List (Addr × Obj)
def Cz(g h:Heap)(L:Addr):rN:=(ξ h.objs.size).filterMap λa=>if a=L\/(g.get? a).isSome=true then none else(h.get? a).map λo=>(a,o)
def CN(g h:Heap)(L d:Addr):rN:=(Cz g h L).filter λp=>decide<|p.1≠d
abbrev _root_.ZN:=Str->Option Value
structure Mod(K:ι)(mg:ZN)(base:Heap):Prop where
 kin:K.In base
 glob:base.Ns bw mg
 blt:∃ mb,base.Ns Iv mb/\∀ x:Str,x≠"__name__"->mb x=tq x
 nolimit:base.NoLimit
abbrev _root_.qZ:=List Str
abbrev _root_.YZ:=List Env
structure Cx where
 prog:bu
 w:World
 K:ι
 mg:Str->Option Value
 base:Heap
 A:dq
 N:qZ
 s₀:π
 H₀:Hp
 env:Env
 outer:YZ
 stack:YZ
 ex:qX
 fn:Str->Bool
 calm:Bool
 pn:rN
 xe:Value->π->Prop
def D0(l:YZ):qX:=l.filterMap (·.frame)
abbrev Cx.fs(X:Cx):qX:=D0 X.outer
def RK(sc:Scope)(x:Str):Prop:=sc.names.lookup x=some .local\/sc.names.lookup x=some .cell\/sc.names.lookup x=some .free
def MR(sc:Scope)(x:Str):Prop:=sc.names.lookup x=some .local\/sc.names.lookup x=some .cell
def Db(env:Env)(h:Heap)(m:ZN)(x:Str)(u:Value):Prop :=
 (env.kindOf x=some .local/\m x=some u)\/((env.kindOf x=some .cell\/env.kindOf x=some .free)/\∃ c,env.cells.lookup x=some c/\h.IsCell c (some u))
structure Cx.Ok(X:Cx):Prop where
 mod:Mod X.K X.mg X.base
 kind:X.env.scope.kind=.function
 glob:X.env.globals=bw
 blt:X.env.builtins=Iv
 above:X.s₀.heap.objs.size<=X.env.locals
 inj:∀ x y c,X.env.cells.lookup x=some c->X.env.cells.lookup y=some c->x=y
 has:∀ x,(X.env.kindOf x=some .cell\/X.env.kindOf x=some .free)->∃ c,X.env.cells.lookup x=some c
 cab:∀ x c,X.fn x=true->X.env.cells.lookup x=some c->X.s₀.heap.objs.size<=c
 hd:X.calm=true->X.A.handled=none
 frames:X.A.frames=some X.stack
 stk:X.stack=X.outer\/(X.stack=X.env::X.outer/\X.env.frame=some X.env.locals)
 exf:∀ b∈X.ex,b≠X.env.locals/\∀ x c,X.env.cells.lookup x=some c->c≠b
 bs:∀ b o,X.base.get? b=some o->X.s₀.heap.get? b=some o/\X.H₀ b=none
 bsz:X.base.objs.size<=X.s₀.heap.objs.size
 noex:∀ b o,X.base.get? b=some o->b∉X.ex
 exfs:∀ b∈X.ex,b∉X.fs
 funs:X.s₀.heap.FunFrames X.base X.outer
 frf:∀ b∈X.fs,X.H₀ b=none
structure Inv(X:Cx)(AA:rN)(σ:List (Option V))(H:Hp)(s:π):Prop where
 ok:X.Ok
 os:s.os=X.s₀.os
 bare:tz s.gens
 base:Un X.fs X.ex X.H₀ H X.s₀.heap s.heap
 loc:∃ m,s.heap.Ns X.env.locals m/\∀ (i:Nat) (x:Str) (v:V),X.N[i]? =some x->σ[i]? =some (some v)->RK X.env.scope x->∃ u,RelV v u/\Db X.env s.heap m x u
 cell:∀ x c,X.env.cells.lookup x=some c->∃ v,s.heap.IsCell c v
 free:H X.env.locals=none
 freeC:∀ x c,X.env.cells.lookup x=some c->H c=none
 pin:∀ p∈X.pn++AA,s.heap.get? p.1=some p.2/\H p.1=none/\p.1≠X.env.locals/\p.1∉X.fs/\∀ v,p.2.data≠.cell v
 hok:HOk X.prog X.w H s.heap
 len:σ.length=X.N.length
section
variable{X:Cx}{AA:rN}{σ:List (Option V)}{H H':Hp}{s:π}{h':Heap}
def Cx.Ok.nofr(ok:X.Ok)(e:X.base.get? b=some o):b∉X.fs:=λhb=>by
 have:=(ok.funs.mem hb).1;rw[e]at this;cases this
def Inv.bs(I:Inv X AA σ H s):∀ b o,X.base.get? b=some o->s.heap.get? b=some o/\H b=none:=λb o e =>
 {I.base.keep b o (I.ok.bs b o e).1 (I.ok.bs b o e).2 (I.ok.nofr e) (I.ok.noex b o e),I.base.free b o (I.ok.bs b o e).1 (I.ok.bs b o e).2 (I.ok.noex b o e)}
def Inv.bk(I:Inv X AA σ H s):∀ b o,X.base.get? b=some o->s.heap.get? b=some o:=λb o e=>(I.bs b o e).1
def Inv.mod(I:Inv X AA σ H s):Mod X.K X.mg X.base:=I.ok.mod
def Inv.kIn(I:Inv X AA σ H s):X.K.In s.heap:=I.ok.mod.kin.keeps I.bk
def Inv.lt(I:Inv X AA σ H s):X.env.locals<s.heap.objs.size:=let ⟨_,hn,_⟩:=I.loc;hn.lt
def Inv.sz(I:Inv X AA σ H s):X.s₀.heap.objs.size<=s.heap.objs.size:=ψ I.ok.above<|l8 I.lt
def Inv.nofs(I:Inv X AA σ H s)(h:s.heap.objs.size<=a):a∉X.fs:=λhb=>by
 obtain⟨z,o,ho,z⟩:=I.ok.funs.mem hb;exact absurd (χ (au ho) (ψ I.sz h)) (jm _)
def Inv.cne(I:Inv X AA σ H s):∀ x c,X.env.cells.lookup x=some c->c≠X.env.locals:=λx c e z=>by
 obtain⟨m,⟨o',es,ep,ho',hd',y⟩,y⟩:=I.loc;obtain⟨v,o,ho,hd⟩:=I.cell x c e;rw[z,ho']at ho;obtain rfl:=μ ho;rw[hd']at hd;cases hd
def Inv.funs(I:Inv X AA σ H s):s.heap.FunFrames X.base X.outer:=by
 have all:∀ (l:List _),(∀ b∈D0 l,b∈X.fs)->X.s₀.heap.FunFrames X.base l->s.heap.FunFrames X.base l:=by
  intro l
  induction l with
  |nil=>intro y y;trivial
  |cons env r ih =>
   rintro hs ⟨hk,⟨L,o,hf,hn,ho,hd⟩,hr⟩
   have hL:=hs L (by unfold D0;rw[qv,hf];exact ω);obtain⟨sl,e⟩:=I.base.slot L o ho (I.ok.frf L hL) hL λz=>I.ok.exfs L z hL;exact{hk,x2 L _ ⟨hf,hn,e,hd⟩,ih (λb hb=>hs b (by unfold D0;rw[qv,hf];exact υ _ hb)) hr}
 exact all _ (λy hb=>hb) I.ok.funs
def Inv.stack(I:Inv X AA σ H s):s.heap.FunFrames X.base X.stack:=by
 rcases I.ok.stk with e|⟨e,hf⟩
 rw[e];exact I.funs;obtain⟨m,hn,z⟩:=I.loc;rw[e];exact .cons (by rw[I.ok.kind];decide) hf hn (Heap.get?_none_of_le<|ψ I.ok.bsz I.ok.above) I.funs
def Inv.stkSub(I:Inv X AA σ H s):∀ b∈D0 X.stack,b∈X.env.locals::X.fs:=λb hb=>by
 rcases I.ok.stk with e|⟨e,hf⟩
 rw[e]at hb;exact υ _ hb;rw[e]at hb;unfold D0 at hb;rw[qv,hf]at hb;exact hb
def Inv.stkFree(I:Inv X AA σ H s):∀ b∈D0 X.stack,H b=none:=λb hb=>by
 rcases ax.mp (I.stkSub b hb)with e|hb
 rw[e];exact I.free;obtain⟨y,o,ho,y⟩:=I.ok.funs.mem hb;exact I.base.free b o ho (I.ok.frf b hb) λz=>I.ok.exfs b z hb
def Inv.step{g':Array Cf}{t':Nat}{d':Drawn}{ch:qX}(I:Inv X AA σ H s)
  (DI:∀ b∈ch,(b∈X.ex\/X.s₀.heap.objs.size<=b)/\b≠X.env.locals/\(∀ x c,X.env.cells.lookup x=some c->c≠b)/\∀ p∈X.pn++AA,p.1≠b)
  (keep:∀ b o,b≠X.env.locals->b∉X.fs->b∉ch->s.heap.get? b=some o->H b=none->h'.get? b=some o)
  (slot:∀ b o,b≠X.env.locals->b∈X.fs->b∉ch->s.heap.get? b=some o->H b=none->∃ sl,h'.get? b=some { o with slots:=sl }) (free:∀ b o,b∉ch->s.heap.get? b=some o->H b=none->H' b=none)
  (there:∀ b o,b∉ch->s.heap.get? b=some o->∃ o',h'.get? b=some o')
  (tups:∀ b xs,H b=some (.tup xs)->H' b=some (.tup xs)) (frzs:∀ b o u,H b=some (.frz o u)->H' b=some (.frz o u)) (tbls:∀ b ps,H b=some (.tbl ps)->∃ more,H' b=some (.tbl<|ps++more))
  (ns:∀ m,s.heap.Ns X.env.locals m->h'.Ns X.env.locals m) (hok:HOk X.prog X.w H' h') (hg:tz g') :
  Inv X AA σ H' { s with heap:=h',gens:=g',drawn:=d',toks:=t' }:=by
 have neL:∀ b o,X.s₀.heap.get? b=some o->b≠X.env.locals:=λb o e=>bg<|χ (au e) I.ok.above
 have neC:∀ b o,X.s₀.heap.get? b=some o->b∉X.ex->b∉ch:=λb o e hx hb=>by
  rcases(DI b hb).1 with z|z
  exact hx z;exact absurd (χ (au e) z) (jm _)
 have cellK:∀ x c,X.env.cells.lookup x=some c->∀ v,s.heap.IsCell c v->h'.IsCell c v:=λx c e v ⟨o,ho,hd⟩=>by
  have nch:=λz=>(DI c z).2.2.1 x c e rfl;by_cases hc:c∈X.fs;obtain⟨sl,q⟩:=slot c o (I.cne x c e) hc nch ho (I.freeC x c e);exact⟨_,q,hd⟩;exact{o,keep c o (I.cne x c e) hc nch ho (I.freeC x c e),hd}
 refine{I.ok,I.os,hg,{λb o e n hb hx=>(keep b o (neL b o e) hb (neC b o e hx) (I.base.keep b o e n hb hx) (I.base.free b o e n hx)),λb o e n hb hx=>?_,λb o e n hx=>?_,λb o e hx=>?_,λb xs e=>tups b xs<|I.base.tups b xs e,λb o xs e=>frzs b o xs<|I.base.frzs b o xs e,λb ps e=>?_},?_,λx c e=>?_,?_,λx c e=>?_,λp hp=>?_,hok,I.len};obtain⟨sl,e1⟩:=I.base.slot b o e n hb hx;obtain⟨sl',e2⟩:=slot b _ (neL b o e) hb (neC b o e hx) e1 (I.base.free b o e n hx);exact⟨_,e2⟩;obtain⟨o',e1⟩:=I.base.there b o e hx;exact free b o' (neC b o e hx) e1 (I.base.free b o e n hx);obtain⟨o',e1⟩:=I.base.there b o e hx;exact there b o' (neC b o e hx) e1;obtain⟨m1,e1⟩:=I.base.tbls b ps e;obtain⟨m2,e2⟩:=tbls b _ e1;exact{_,by rw[e2,Bo]};obtain⟨m,hn,hl⟩:=I.loc;refine{m,ns m hn,λi x v e1 e2 e3=>?_};obtain⟨u,r,l⟩:=hl i x v e1 e2 e3;refine{u,r,?_};rcases l with l|⟨k,c,e,z⟩
 exact .inl l;exact .inr {k,c,e,cellK x c e _ z};obtain⟨v,z⟩:=I.cell x c e;exact{v,cellK x c e v z};obtain⟨m,⟨o,y,y,ho,y⟩,y⟩:=I.loc;exact free _ o (λz=>(DI _ z).2.1 rfl) ho I.free;obtain⟨v,o,ho,hd⟩:=I.cell x c e;exact free c o (λz=>(DI c z).2.2.1 x c e rfl) ho (I.freeC x c e)
 have nch:=λz=>(DI _ z).2.2.2 p hp rfl;obtain⟨e,n,ne,nf,d⟩:=I.pin p hp;exact{keep _ _ ne nf nch e n,free _ _ nch e n,ne,nf,d}
def Inv.un{t':Nat}(I:Inv X AA σ H s)(u:Un X.fs [] H H' s.heap h')(hok:HOk X.prog X.w H' h'):Inv X AA σ H' { s with heap:=h',toks:=t' }:=by
 obtain⟨m,⟨o,es,ep,ho,r⟩,_⟩:=id I.loc;obtain⟨sl,hL⟩:=u.any ho I.free (by simp);exact I.step   (ch:=[]) (λ_ z=>nomatch z) (λb o _ hb _ e n=>u.keep b o e n hb (by simp)) (λb o _ hb _ e n=>u.slot b o e n hb (by simp)) (λb o _ e n=>u.free b o e n (by simp)) (λb o _ e=>u.there b o e (by simp)) u.tups u.frzs u.tbls (λm' hm=>by
  revert hm;apply u3;rintro o' es' ep' ⟨ho',r'⟩;rw[ho]at ho';obtain rfl:=μ ho';exact x3 _ _ _ ⟨hL,r'⟩) hok I.bare
def Inv.call{g':Array Cf}{t':Nat}{d':Drawn}{ch:qX}(I:Inv X AA σ H s)(u:Un (D0 X.stack) ch H H' s.heap h')(hok:HOk X.prog X.w H' h')(hg:tz g')
  (DI:∀ b∈ch,(b∈X.ex\/X.s₀.heap.objs.size<=b)/\b≠X.env.locals/\(∀ x c,X.env.cells.lookup x=some c->c≠b)/\∀ p∈X.pn++AA,p.1≠b) :
  Inv X AA σ H' { s with heap:=h',gens:=g',drawn:=d',toks:=t' }:=by
 obtain⟨m,⟨o,es,ep,ho,r⟩,y⟩:=id I.loc;obtain⟨sl,hL⟩:=u.any ho I.free λz=>(DI _ z).2.1 rfl;exact I.step  DI (λb o hL hb hc e n=>u.keep b o e n (λz=>(ax.mp<|I.stkSub b z).elim hL hb) hc) (λb o y y hc e n=>u.any e n hc) (λb o hc e n=>u.free b o e n hc) (λb o hc e=>u.there b o e hc) u.tups u.frzs u.tbls (λm' hm=>by
  revert hm;apply u3;rintro o' es' ep' ⟨ho',r'⟩;rw[ho]at ho';obtain rfl:=μ ho';exact x3 _ _ _ ⟨hL,r'⟩) hok hg
def Inv.turned{t':Nat}{it:Addr}(I:Inv X AA σ H s)(k:∀ b o,b≠it->s.heap.get? b=some o->h'.get? b=some o)(hn:H it=none)(hL:it≠X.env.locals)
  (h1:it∈X.ex\/X.s₀.heap.objs.size<=it) (h2:∀ x c,X.env.cells.lookup x=some c->c≠it) (h3:∀ p∈X.pn++AA,p.1≠it):Inv X AA σ H { s with heap:=h',toks:=t' }:=by
 have nit:∀ b u,H b=some u->b≠it:=λb u e z=>by rw[z,hn]at e;cases e
 refine I.step   (ch:=[it]) (λb hb=>?_) (λb o y y hc e y=>k b o (λz=>hc (by simp[z])) e) (λb o y y hc e y=>{_,k b o (λz=>hc (by simp[z])) e}) (λy y y y n=>n)
  (λb o hc e=>{o,k b o (λz=>hc (by simp[z])) e}) (λy y e=>e) (λy y y e=>e) (λb ps e=>{#[],by rw[e];simp}) (λm hm=>?_) (λb u e=>?_) I.bare
 have e:b=it:=by simpa using hb
 subst e;exact⟨h1,hL,h2,h3⟩;revert hm;apply u3;rintro o es ep ⟨ho,r⟩;exact x3 o es ep {k _ o (fg hL) ho,r};refine(I.hok b u e).stay (λc v hc q=>k c v ?_ q) (λy q=>q) λy y q=>q;rcases hc with z|z
 rw[z];exact nit b u e;exact nit c _ z
def Inv.tok(I:Inv X AA σ H s)(t:Nat):Inv X AA σ H { s with toks:=t }:=I.un   Un.refl I.hok
def Inv.kept(I:Inv X AA σ H s)(k:∀ b u,s.heap.get? b=some u->h'.get? b=some u):Inv X AA σ H { s with heap:=h',toks:=t' }:=I.un (Un.kept k) (I.hok.kept k)
def Inv.laid{a:Addr}{o:HO}{t':Nat}(I:Inv X AA σ H s)(k:∀ b u,s.heap.get? b=some u->h'.get? b=some u)(hp:s.heap.objs.size<=a)(new:ObjOk X.prog X.w (upd H a o) h' a o) :
  Inv X AA σ (upd H a o) { s with heap:=h',toks:=t' }:=I.un (Un.laid k hp<|I.hok.fresh hp) (I.hok.laid k hp new)
def Inv.write(I:Inv X AA σ H s)(mu:N4 (H x))(he:e=x\/H e=some (.own x))(k:∀ b u,b≠e->s.heap.get? b=some u->h'.get? b=some u)(heo:∃ u,h'.get? e=some u)
  (new:ObjOk X.prog X.w (upd H x o) h' x o):Inv X AA σ (upd H x o) { s with heap:=h',toks:=t' }:=I.un (Un.write mu he k heo) (I.hok.write mu he k heo new)
def Inv.pins_of(I:Inv X AA σ H s)(h:∀ p∈pins',s.heap.get? p.1=some p.2/\H p.1=none/\p.1≠X.env.locals/\p.1∉X.fs/\∀ v,p.2.data≠.cell v):Inv X pins' σ H s :=
 {I.ok,I.os,I.bare,I.base,I.loc,I.cell,I.free,I.freeC,λp hp=>(a_.mp hp).elim (λz=>I.pin p<|ja _ z) (h p),I.hok,I.len}
def iS{N:qZ}(hN:N.Nodup){i j:Nat}{x:Str}(a:N[i]? =some x)(b:N[j]? =some x):i=j:=by
 obtain⟨h1,e1⟩:=ε.mp a;obtain⟨h2,e2⟩:=ε.mp b;exact(Fa hN).mp (e1.trans e2.symm)
abbrev _root_.xP:=Value->π->Prop
def iT{M:Model}{A:dq}{E:xP}{i:Nat}{x:Str}{v:V}{u:Value}{Q:Unit->π->Prop}(I:Inv X AA σ H s)(hN:X.N.Nodup)(hi:X.N[i]? =some x)(hx:MR X.env.scope x)(r:RelV v u)
  (h:∀ s',Inv X AA (σ.set i<|some v) H s'->(∃ a,fu a s.heap s'.heap/\(a=X.env.locals\/X.env.cells.lookup x=some a))->Q () s') (hf:X.fn x=true\/X.env.scope.names.lookup x=some .local:=by first|exact .inl rfl|exact .inr rfl|assumption):wpAny M A (storeName X.env x u) Q E s:=by
 obtain⟨m,hn,hl⟩:=id I.loc
 have hiσ:i<σ.length:=by rw[I.len];exact(ε.mp hi).1
 have cne:=I.cne
 have tracked:∀ {a:Addr} {h':Heap},(∃ o,s.heap.get? a=some o/\H a=none)->fu a _ h'->HOk _ _ H h':=λ{a h'} ha hs b ob e=>by
  obtain⟨t,t,hfree⟩:=ha;refine(I.hok b ob e).stay (λc w' hc q=>(hs.2 c ?_).trans q) (λt q=>q) λt t q=>q;rintro rfl;rcases hc with rfl|hc
  rw[hfree]at e;cases e;rw[hfree]at hc;cases hc
 rcases hx with hk|hk
 refine wpAny_storeName_local hk hn (λh' hn' hs=>(u3 ?_<|id hn)) (by rw[I.ok.kind];rfl);rintro oL t t ⟨hoL,t⟩;refine h _ {I.ok,I.os,I.bare,{λb o e n hb hx=>((hs.2 b<|bg<|χ (au e) I.ok.above).trans (I.base.keep b o e n hb hx)),λb o e n hb hx=>?_,I.base.free,λb o e hx=>?_,I.base.tups,I.base.frzs,I.base.tbls},{_,hn',λj y v' e1 e2 e3=>?_},λy c e=>?_,I.free,I.freeC,λp hp=>?_,tracked ⟨oL,hoL,I.free⟩ hs,by simpa using I.len} {_,hs,.inl rfl};obtain⟨sl,e1⟩:=I.base.slot b o e n hb hx;exact{sl,(hs.2 b<|bg<|χ (au e) I.ok.above).trans e1};obtain⟨o',e1⟩:=I.base.there b o e hx;exact{o',(hs.2 b<|bg<|χ (au e) I.ok.above).trans e1};by_cases hj:j=i;subst hj;rw[hi]at e1;obtain rfl:=μ e1;rw[fz hiσ]at e2;cases e2;exact{u,r,.inl {hk,by simp}};rw[ia (fg hj)]at e2;obtain⟨u',r',q⟩:=hl j y v' e1 e2 e3;refine{u',r',?_};rcases q with⟨k,e⟩|⟨k,c,e,z⟩
 have:y≠x:=λe=>hj<|iS hN e1<|e ▸ hi;refine .inl {k,?_};simp[this,e];exact .inr {k,c,e,z.sameBut hs<|cne y c e};obtain⟨w',z⟩:=I.cell y c e;exact{w',z.sameBut hs<|cne y c e};obtain⟨e,n,ne,nf,d⟩:=I.pin p hp;exact{(hs.2 _ ne).trans e,n,ne,nf,d};obtain⟨c,hc⟩:=I.ok.has x<|.inl hk
 have hfn:X.fn x=true:=by
  rcases hf with z|z
  exact z;rw[z]at hk;cases hk
 obtain⟨w',z⟩:=I.cell x c hc;refine wpAny_storeName_cell I.ok.kind hk hc z<|λh' hc' hs=>?_;obtain⟨oc,hoc,hocd⟩:=id z;refine h _ {I.ok,I.os,I.bare,{λb o e n hb hx=>((hs.2 b<|bg<|χ (au e) (I.ok.cab x c hfn hc)).trans (I.base.keep b o e n hb hx)),λb o e n hb hx=>?_,I.base.free,λb o e hx=>?_,I.base.tups,I.base.frzs,I.base.tbls},{m,hn.sameBut hs<|fg<|cne x c hc,λj y v' e1 e2 e3=>?_},λy c' e=>?_,I.free,I.freeC,λp hp=>?_,tracked {oc,hoc,I.freeC x c hc} hs,by simpa using I.len} {c,hs,.inr hc};obtain⟨sl,e1⟩:=I.base.slot b o e n hb hx;exact{sl,(hs.2 b<|bg<|χ (au e) (I.ok.cab x c hfn hc)).trans e1};obtain⟨o',e1⟩:=I.base.there b o e hx;exact{o',(hs.2 b<|bg<|χ (au e) (I.ok.cab x c hfn hc)).trans e1};by_cases hj:j=i;subst hj;rw[hi]at e1;obtain rfl:=μ e1;rw[fz hiσ]at e2;cases e2;exact{u,r,.inr {.inl hk,c,hc,hc'}};rw[ia (fg hj)]at e2;obtain⟨u',r',q⟩:=hl j y v' e1 e2 e3;refine{u',r',?_};rcases q with q|⟨k,c',e,z'⟩
 exact .inl q;refine .inr {k,c',e,z'.sameBut hs ?_};rintro rfl;exact hj<|iS hN e1<|I.ok.inj _ _ _ e hc ▸ hi;by_cases hcc:c'=c;subst hcc;exact⟨_,hc'⟩;obtain⟨w2,z2⟩:=I.cell y c' e;exact{w2,z2.sameBut hs hcc};obtain⟨e,n,ne,nf,d⟩:=I.pin p hp;refine{(hs.2 _ ?_).trans e,n,ne,nf,d};intro q;rw[q,hoc]at e;exact d w' (by rw[<-(μ e)];exact hocd)
def iU(I:Inv X AA σ H s)(hN:X.N.Nodup)(hi:X.N[i]? =some x)(hx:MR X.env.scope x)(r:RelV v u)
  (h:∀ s',Inv X AA (σ.set i<|some v) H s'->Q () s') (hf:X.fn x=true\/X.env.scope.names.lookup x=some .local:=by first|exact .inl rfl|exact .inr rfl|assumption):wpAny M A (storeName X.env x u) Q E s :=
 iT I hN hi hx r (λs' I' z=>h s' I') hf
def Inv.call'(I:Inv X AA σ H s)(ho:s'.os=s.os)(u:Un (D0 X.stack) ch H H' s.heap s'.heap)(hok:HOk X.prog X.w H' s'.heap)(hg:tz s'.gens)
  (DI:∀ b∈ch,(b∈X.ex\/X.s₀.heap.objs.size<=b)/\b≠X.env.locals/\(∀ x c,X.env.cells.lookup x=some c->c≠b)/\∀ p∈X.pn++AA,p.1≠b):Inv X AA σ H' s':=by
 obtain⟨h',g',d',t',o'⟩:=s';subst ho;exact I.call    u hok hg DI
end
abbrev XK:=Value->Option Addr->Hp->Prop
abbrev St:=List<|Option V
abbrev VK:=V->Hp->Prop
abbrev TE:=St->Hp->VK->Prop
abbrev TT:=St->Hp->(Bool->Hp->Prop)->Prop
abbrev TA:=St->Hp->(Oj->Hp->Prop)->Prop
structure Ends where
 nx:St->Hp->Prop
 rt:VK
 bk:St->Hp->Prop:=λ_ _=>False
 ct:St->Hp->Prop:=λ_ _=>False
abbrev TS:=Ends->St->Hp->Prop
def EP(X:Cx)(AA:rN)(σ:St)(Q:VK)(u:Value)(s':π):Prop:=∃ v H',Inv X AA σ H' s'/\RelV v u/\Q v H'
abbrev _root_.qQ:=Bool->Hp->Prop
def TP(X:Cx)(AA:rN)(σ:St)(Q:qQ)(b:Bool)(s':π):Prop:=∃ H',Inv X AA σ H' s'/\Q b H'
def AP(X:Cx)(AA:rN)(σ:St)(Q:Oj->Hp->Prop)(us:qV)(s':π):Prop:=∃ vs H',Inv X AA σ H' s'/\Vals vs us/\Q vs H'
def SP(X:Cx)(AA:rN)(D:Ends)(f:Flow)(s':π):Prop :=
 match f with
 |.next=>∃ σ' H',Inv X AA σ' H' s'/\D.nx σ' H'
 |.brk=>∃ σ' H',Inv X AA σ' H' s'/\D.bk σ' H'
 |.cont=>∃ σ' H',Inv X AA σ' H' s'/\D.ct σ' H'
 |.ret u=>∃ v σ' H',Inv X AA σ' H' s'/\RelV v u/\D.rt v H'
def PE(X:Cx)(e:Expr)(t:TE):Prop :=
 ∀ (AA:rN) (s:π) (σ:St) (H:Hp) (Q:VK),Inv X AA σ H s->t σ H Q->wpAny (model X.prog X.w) X.A (eval e X.env) (EP X AA σ Q) X.xe s
def PT(X:Cx)(e:Expr)(t:TT):Prop :=
 ∀ (AA:rN) (s:π) (σ:St) (H:Hp) (Q:qQ),Inv X AA σ H s->t σ H Q->wpAny (model X.prog X.w) X.A (Le e X.env<|eval e X.env) (TP X AA σ Q) X.xe s
def PW(X:Cx)(e:Expr)(t:TT):Prop :=
 ∀ (whole:Sem Value) (AA:rN) (s:π) (σ:St) (H:Hp) (Q:qQ),Inv X AA σ H s->t σ H Q->wpAny (model X.prog X.w) X.A (Le e X.env whole) (TP X AA σ Q) X.xe s
def PW.pt(h:PW X e t):PT X e t:=h _
abbrev _root_.rY:=List Expr
def PA(X:Cx)(es:rY)(t:TA):Prop :=
 ∀ (pos:Pos) (AA:rN) (s:π) (σ:St) (H:Hp) (Q:Oj->Hp->Prop),Inv X AA σ H s->t σ H Q->wpAny (model X.prog X.w) X.A (spliced<|jb pos<|ay es X.env) (AP X AA σ Q) X.xe s
def PS(X:Cx)(st:Stmt)(t:TS):Prop :=
 ∀ (AA:rN) (s:π) (σ:St) (H:Hp) (D:Ends),Inv X AA σ H s->t D σ H->wpAny (model X.prog X.w) X.A (exec st X.env) (SP X AA D) X.xe s
def EU(X:Cx)(st:List Stmt)(t:TS):Prop :=
 ∀ (AA:rN) (s:π) (σ:St) (H:Hp) (D:Ends),Inv X AA σ H s->t D σ H->wpAny (model X.prog X.w) X.A (execs st X.env) (SP X AA D) X.xe s
def AO{α :Type}{t:Sem α}{Q Q': α ->π->Prop}{M:Model}{A:dq}{E:xP}{s:π}(h:wpAny M A t Q E s)(hQ:∀ a s,Q a s->Q' a s):wpAny M A t Q' E s:=om h hQ λz z x=>x
section
variable{X:Cx}
def RL(i:Nat):TE:=λσ H Q=>∃ v,σ[i]? =some (some v)/\Q v H
def tC(v:V):TE:=λ_ H Q=>Q v H
def iV(hN:X.N[i]? =some x)(hv:RK X.env.scope x)(hd:(x ==("__debug__":Str))=false:=by decide)(GI:(x ==("__classdict__":Str))=false:=by decide):PE X (.Name x pos) (RL i):=by
 rintro AA s σ H Q I ⟨v,e,h⟩;obtain⟨m,hn,hl⟩:=I.loc;obtain⟨u,r,l⟩:=hl i x v hN e hv
 have fin:EP X _ σ Q u s:=x2 v H ⟨I,r,h⟩;rcases l with⟨hk,hm⟩|⟨hk,c,hc,hcell⟩
 exact Iw (wpAny_loadName_local I.ok.kind hk hn hm fin) hd;rcases hk with hk|hk
 exact Iw (wpAny_loadName_cell I.ok.kind hk hc hcell fin) hd;exact Iw (wpAny_loadName_free I.ok.kind hk hc hcell fin GI) hd
def iW{i j pos}:PE X (.Constant (.int i) j pos) (tC<|.int i):=λz z z H z I h=>wpAny_Constant_int<|x2 (.int i) H {I.tok _,⟨_,rfl⟩,h}
def Dc{b j pos}:PE X (.Constant (.bool b) j pos) (tC<|.bl b):=λz z z H z I h=>Constant_bool<|x2 (.bl b) H ⟨I,rfl,h⟩
def Dg{j pos}:PE X (.Constant .none j pos) (tC .non):=λz z z H z I h=>Constant_none<|x2 (.non) H ⟨I,rfl,h⟩
def Dh{x j pos}:PE X (.Constant (.str x) j pos) (tC<|.str x):=λz z z H z I h=>Calls.Constant_str<|x2 (.str x) H {I.tok _,⟨_,rfl⟩,h}
def Gl(X:Cx)(x:Str):Prop:=X.env.kindOf x=some .globalImplicit
def N5(I:Inv X AA σ H s)(hg:Gl X x)(hm:X.mg x=some u)(h:Q u s)
  (hd:(x ==("__debug__":Str))=false:=by decide):wpAny (model X.prog X.w) X.A (eval (.Name x pos) X.env) Q E s :=
 wc I.ok.kind hg (Calls.loadGlobal_global (by rw[I.ok.glob];exact I.mod.glob.keeps I.bk) hm h) hd
def N6{E:xP}{AA:rN}{s:π}{σ:St}{H:Hp}{x:Str}{u:Value}{pos:Pos}{Q:xP}(I:Inv X AA σ H s)(hg:Gl X x)(hm:X.mg x=none)(hv:tq x=some u)(h:Q u s)
  (hn:x≠"__name__":=by decide) (hd:(x ==("__debug__":Str))=false:=by decide):wpAny (model X.prog X.w) X.A (eval (.Name x pos) X.env) Q E s:=by
 obtain⟨mb,h1,h2⟩:=I.mod.blt;exact wc I.ok.kind hg (Calls.loadGlobal_builtin (by rw[I.ok.glob];exact I.mod.glob.keeps I.bk) hm (by rw[I.ok.blt];exact h1.keeps I.bk) ((h2 x hn).trans hv) h) hd
def Dj(hg:Gl X x)(hm:X.mg x=some u)(r:RelV v u)(hd:(x ==("__debug__":Str))=false:=by decide):PE X (.Name x pos) (tC v) :=
 λz z z H z I h=>N5 I hg hm (x2 v H ⟨I,r,h⟩) hd
variable{a b:Expr}{ta tb:TE}{pos:Pos}
def PC(X:Cx)(op:CmpOp)(a b:Expr)(t:TE):Prop :=
 ∀ (AA:rN) (s:π) (σ:St) (H:Hp) (Q:VK),Inv X AA σ H s->t σ H Q ->
  wpAny (model X.prog X.w) X.A (eval a X.env) (λv s₁=>wpAny (model X.prog X.w) X.A (eval b X.env) (λu s₂=>wpAny (model X.prog X.w) X.A (dt op v u) (EP X AA σ Q) X.xe s₂) X.xe s₁) X.xe s
def Dk(b:Expr)(h:op≠.In)(h2:op≠.NotIn):ni op b=false:=by
 have e1:(op==CmpOp.In)=false:=by cases op<;>first|rfl|exact absurd rfl h
 have e2:(op==Ma)=false:=by cases op<;>first|rfl|exact absurd rfl h2
 cases b<;>simp[ni,e1,e2]
def tB(t:TE):TT:=λσ H Q=>t σ H λx H1=>∃ c,x=.bl c/\Q c H1
def Dl{t:TE}(h:PC X op a b t)(h1:ni op b=false:=by first|exact Dk _ (by decide) (by decide)|rfl):PT X (.Compare a [op] [b] pos) (tB t):=by
 refine λAA s σ H Q I hw=>zb (AO (h _ s σ H _ I hw) λv s1 h1=>AO h1 λu s2 h2=>AO h2 λc s3 hzz=>?_) h1;obtain⟨x,H1,I1,r1,⟨d,rfl,q⟩⟩:=hzz;subst r1;exact jf ⟨H1,I1,q⟩
variable{tA tB':TT}{CN:rY}
def JL(t u:TT):TT:=λσ H Q=>t σ H λc H1=>if c=true then u σ H1 Q else Q false H1
def MS(t u:TT):TT:=λσ H Q=>t σ H λc H1=>if c=true then Q true H1 else u σ H1 Q
def G2(t:TT):TT:=λσ H Q=>t σ H λc H1=>Q (!c) H1
def Dm(ha:PT X a tA):PW X (.BoolOp .And [a] pos) tA:=by
 refine λwh AA s σ H Q I h=>isTrue_and<|AO (ha _ s σ H Q I h) λc s1 e=>?_;cases c with
 |true=>exact isTrue_and_nil e
 |false=>exact e
def Dp(ha:PT X a tA):PW X (.BoolOp .Or [a] pos) tA:=by
 refine λwh AA s σ H Q I h=>isTrue_or<|AO (ha _ s σ H Q I h) λc s1 e=>?_;cases c with
 |false=>exact isTrue_or_nil e
 |true=>exact e
def Dq(ha:PT X a tA)(hb:PW X (.BoolOp .And (b::CN) pos) tB'):PW X (.BoolOp .And (a::b::CN) pos) (JL tA tB'):=by
 refine λwh AA s σ H Q I h=>isTrue_and<|AO (ha _ s σ H _ I h) λc s1 hzz=>?_;obtain⟨H1,I1,q1⟩:=hzz;cases c with
 |true=>exact hb wh _ s1 σ H1 Q I1 q1
 |false=>exact⟨H1,I1,q1⟩
def Dv(ha:PT X a tA)(hb:PW X (.BoolOp .Or (b::CN) pos) tB'):PW X (.BoolOp .Or (a::b::CN) pos) (MS tA tB'):=by
 refine λwh AA s σ H Q I h=>isTrue_or<|AO (ha _ s σ H _ I h) λc s1 hzz=>?_;obtain⟨H1,I1,q1⟩:=hzz;cases c with
 |true=>exact⟨H1,I1,q1⟩
 |false=>exact hb wh _ s1 σ H1 Q I1 q1
def Dw(ha:PT X a tA):PT X (.UnaryOp .Not a pos) (G2 tA):=λAA s σ H Q I h=>isTrue_not<|ha _ s σ H (λc H1=>Q _ H1) I h
def N7(ta tb:TE):TE:=λσ H Q=>ta σ H λx H1=>∃ c,x=.bl c/\if c=true then tb σ H1 Q else Q (.bl false) H1
def Dx{op}(h:PE X a t):PE X (.BoolOp op [a] pos) t:=λAA s σ H Q I hw=>BoolOp_one<|h _ s σ H Q I hw
def Dy(ha:PE X a ta)(hb:PE X (.BoolOp .And (b::CN) pos) tb):PE X (.BoolOp .And (a::b::CN) pos) (N7 ta tb):=by
 refine λAA s σ H Q I h=>BoolOp_and<|AO (ha _ s σ H _ I h) λv s1 hzz=>?_;obtain⟨x,H1,I1,r1,⟨c,rfl,q1⟩⟩:=hzz;subst r1;refine jf ?_;cases c with
 |true=>exact hb _ s1 σ H1 Q I1 q1
 |false=>exact x2 (.bl _) H1 ⟨I1,rfl,q1⟩
end
def SqL(K:ι)(H:Hp)(a:Addr)(xs:Oj):Prop :=
 Rd H a (.lst xs) ∨
  ∃ (o:Obj) (AJ:Array Value) (n:Nat),K.lookup a=some o/\o.cls=.type "list"/\o.dict=none/\o.data=.seq AJ n/\AJ.size<=sizeLine/\Vals xs AJ.toList
def SqT(K:ι)(H:Hp)(a:Addr)(xs:Oj):Prop :=
 Rd H a (.tup xs) ∨
  ∃ (o:Obj) (AJ:Array Value) (n:Nat),K.lookup a=some o/\o.cls=.type "tuple"/\o.data=.seq AJ n/\AJ.size<=sizeLine/\Vals xs AJ.toList
def Dz:Value->Option V
 |.none=>some .non
 |.bool b=>some<|.bl b
 |.int i _=>some<|.int i
 |.str x _=>some<|.str x
 |.bytes b _=>some<|.byt b
 |.float b _=>some<|.flt b
 |.ref a=>some<|.ref a
 |.type n=>some<|.ty n
 |_=>none
def RelV.abs(r:RelV x u):Dz u=some x:=by
 cases x with
 |non=>subst r;rfl
 |bl _=>subst r;rfl
 |int _=>obtain⟨t,rfl⟩:=r;rfl
 |str _=>obtain⟨t,rfl⟩:=r;rfl
 |byt _=>obtain⟨t,rfl⟩:=r;rfl
 |flt _=>obtain⟨t,rfl⟩:=r;rfl
 |ref _=>subst r;rfl
 |ty _=>subst r;rfl
def RelV.inj{x y:V}{u:Value}(r:RelV x u)(q:RelV y u):x=y:=μ<|r.abs.symm.trans q.abs
def Vals.inj:∀ {xs ys:Oj} {us:qV},Vals xs us->Vals ys us->xs=ys
 |_,_,_,.nil,.nil=>rfl
 |_,_,_,.cons r t,.cons r' t'=>by rw[r.inj r',Vals.inj t t']
section
variable{X:Cx}{AA:rN}{σ:St}{H:Hp}{s:π}{a:Addr}{xs ys:Oj}
def SqL.of{K:ι}(h:H a=some (.lst xs)):SqL K H a xs:=.inl<|.inl h
def SqT.of{K:ι}(h:H a=some (.tup xs)):SqT K H a xs:=.inl<|.inl h
def Inv.list(I:Inv X AA σ H s)(h:SqL X.K H a xs):∃ AJ:qV,Vals xs AJ/\PlainL s.heap a AJ.toArray/\xs.length<=sizeLine:=by
 rcases h with h|⟨o,AJ,n,hk,hc,hd,hs,hz,r⟩
 obtain⟨z,AJ,n,r,e⟩:=h.ok I.hok;exact{_,r,x2 _ n ⟨e,rfl,rfl,rfl⟩,z};refine{_,r,x2 o n {I.kIn a o hk,hc,hd,hs},?_};exact r.length ▸ hz
def Inv.tuple(I:Inv X AA σ H s)(h:SqT X.K H a xs):∃ AJ:qV,Vals xs AJ/\IsTup s.heap a AJ.toArray/\xs.length<=sizeLine:=by
 rcases h with h|⟨o,AJ,n,hk,hc,hs,hz,r⟩
 obtain⟨z,AJ,r,p⟩:=h.ok I.hok;exact⟨_,r,p,z⟩;refine{_,r,{o,I.kIn a o hk,hc,n,hs},?_};exact r.length ▸ hz
def Inv.list_inj(I:Inv X AA σ H s)(h:SqL X.K H a xs)(h':SqL X.K H a ys):xs=ys:=by
 obtain⟨AJ,r,⟨o,n,e,z,z,d⟩,z⟩:=I.list h;obtain⟨its',r',⟨o',n',e',z,z,d'⟩,z⟩:=I.list h';rw[e]at e';obtain rfl:=μ e';rw[d]at d';injection d' with d1 _
 have:AJ=its':=congrArg Lf d1;subst this;exact r.inj r'
def Inv.tuple_inj(I:Inv X AA σ H s)(h:SqT X.K H a xs)(h':SqT X.K H a ys):xs=ys:=by
 obtain⟨AJ,r,⟨o,e,z,n,d⟩,z⟩:=I.tuple h;obtain⟨its',r',⟨o',e',z,n',d'⟩,z⟩:=I.tuple h';rw[e]at e';obtain rfl:=μ e';rw[d]at d';injection d' with d1 _
 have:AJ=its':=congrArg Lf d1;subst this;exact r.inj r'
end
section
variable{X:Cx}{AA:rN}{σ:St}{H:Hp}{s:π}{E:xP}
end
section
variable{X:Cx}{st:Stmt}{CN:List Stmt}{t u:TS}{e:Expr}{te:TE}{pos:Pos}
def B2:TS:=λD σ H=>D.nx σ H
def AI(t u:TS):TS:=λD σ H=>t { D with nx:=u D } σ H
def Eb:EU X [] B2:=λz z σ H z I h=>mx<|x2 σ H ⟨I,h⟩
def Ec(h1:PS X st t)(h2:EU X CN u):EU X (st::CN) (AI t u):=by
 refine λAA s σ H D I h=>Fe<|AO (h1 _ s σ H _ I h) λf s1 q=>?_;cases f with
 |next =>
  revert q;apply u2;rintro σ' H' ⟨I',q⟩;exact h2 _ s1 _ H' D I' q
 |ret v=>exact q
 |brk=>exact q
 |cont=>exact q
def Ed(h1:PS X st t):EU X [st] t:=by
 refine λAA s σ H D I h=>Fe<|AO (h1 _ s σ H D I h) λf s1 q=>?_;cases f with
 |next=>exact mx q
 |ret v=>exact q
 |brk=>exact q
 |cont=>exact q
def Inv.quiet{AA:rN}{σ:St}{H:Hp}{s:π}(I:Inv X AA σ H s):interactive X.env=false:=by simp[interactive,I.ok.kind]
def B9(te:TE):TS:=λD σ H=>te σ H λ_ H1=>D.nx σ H1
def Eg(he:PE X e te)(hs:vz e none pos.line X.env=pure false:=by rfl):PS X (.Expr e pos) (B9 te):=λAA s σ H D I h=>wpAny_Expr_any (AO (he _ s σ H _ I h) (by rintro v s1 ⟨x,H1,I1,r1,q1⟩;exact x2 σ H1 ⟨I1,q1⟩)) I.quiet hs
def AZ(te:TE):TS:=λD σ H=>te σ H D.rt
def Eh(he:PE X e te):PS X (.Return (some e) pos) (AZ te):=λAA s σ H D I h=>wpAny_Return_some (AO (he _ s σ H _ I h) (by rintro v s1 ⟨x,H1,I1,r1,q1⟩;exact x3 x σ H1 ⟨I1,r1,q1⟩))
def BQ(c:TT)(t u:TS):TS:=λD σ H=>c σ H λb H1=>if b=true then t D σ H1 else u D σ H1
def Ej{tc:TT}(hc:PT X c tc)(ha:EU X a t)(hb:EU X b u):PS X (.If c a b pos) (BQ tc t u):=by
 refine λAA s σ H D I h=>wpAny_If<|AO (hc _ s σ H _ I h) λd s1 hzz=>?_;obtain⟨H1,I1,q1⟩:=hzz;cases d with
 |true=>exact ha _ s1 σ H1 D I1 q1
 |false=>exact hb _ s1 σ H1 D I1 q1
end
abbrev TG:=V->St->Hp->(St->Hp->Prop)->Prop
abbrev G3:=Oj->St->Hp->(St->Hp->Prop)->Prop
def PG(X:Cx)(target:Expr)(t:TG):Prop :=
 ∀ (AA:rN) (s:π) (σ:St) (H:Hp) (v:V) (u:Value) (Q:St->Hp->Prop),Inv X AA σ H s->RelV v u->t v σ H Q ->
  wpAny (model X.prog X.w) X.A (Li target X.env u) (λ_ s'=>∃ σ' H',Inv X AA σ' H' s'/\Q σ' H') X.xe s
def II(X:Cx)(ts:rY)(t:G3):Prop :=
 ∀ (AA:rN) (s:π) (σ:St) (H:Hp) (vs:Oj) (us:qV) (Q:St->Hp->Prop),Inv X AA σ H s->Vals vs us->t vs σ H Q ->
  wpAny (model X.prog X.w) X.A (assignInOrder ((we ts X.env).map (·.2)) us) (λ_ s'=>∃ σ' H',Inv X AA σ' H' s'/\Q σ' H') X.xe s
abbrev U7:=V->V->V->Hp->(Hp->Prop)->Prop
def U8(X:Cx)(t:U7):Prop :=
 ∀ (AA:rN) (s:π) (σ:St) (H:Hp) (o i v:V) (ov iv u:Value) (Q:Hp->Prop),Inv X AA σ H s->RelV o ov->RelV i iv->RelV v u->t o i v H Q ->
  wpAny (model X.prog X.w) X.A (Ln ov iv u) (λ_ s'=>∃ H',Inv X AA σ H' s'/\Q H') X.xe s
abbrev iX:=V->V->Hp->VK->Prop
section
variable{X:Cx}{pos:Pos}
def AE(i:Nat):TG:=λv σ H Q=>Q (σ.set i<|some v) H
def iY(hN:X.N.Nodup)(hi:X.N[i]? =some x)(hx:MR X.env.scope x)(hf:X.fn x=true\/X.env.scope.names.lookup x=some .local:=by first|exact .inl rfl|exact .inr rfl|assumption):PG X (.Name x pos) (AE i):=λAA s σ H v u Q I r h=>Ci<|iU I hN hi hx r (λs' I'=>x2 _ H ⟨I',h⟩) hf
def E7:G3:=λvs σ H Q=>vs=[]/\Q σ H
def DJ(t:TG)(u:G3):G3:=λvs σ H Q=>∃ v r,vs=v::r/\t v σ H λσ' H'=>u r σ' H' Q
def Ek:II X [] E7:=by
 rintro AA s σ H vs us Q I r ⟨rfl,h⟩;exact assignInOrder_nil<|x2 σ H ⟨I,h⟩
def El{e:Expr}{es:rY}{t:TG}{u:G3}(h1:PG X e t)(h2:II X es u)
  (hs:(we (e::es) X.env).map (·.2)=Li e X.env::(we es X.env).map (·.2):=by rfl):II X (e::es) (DJ t u):=by
 intro AA s σ H vs us Q I r h;revert h;apply u2;rintro v vr ⟨rfl,h⟩;cases r with
 |cons r rr =>
  rw[hs];exact assignInOrder_cons (AO (h1 _ s σ H _ _ _ I r h) (by rintro z s1 ⟨σ1,H1,I1,q1⟩;exact(h2 _ s1 _ H1 _ _ Q I1 rr q1)))
def E8(K:ι)(n:Nat)(t:G3):TG:=λv σ H Q=>∃ a xs,v=.ref a/\SqT K H a xs/\xs.length=n/\t xs σ H Q
def Em(hc:X.calm=true)(h:II X es t)
  (hn:(we es X.env).length=n:=by rfl) (hst:(we es X.env).findIdx? (·.1)=none:=by rfl):PG X (.Tuple es k pos) (E8 X.K n t):=by
 intro AA s σ H v u Q I r hw;revert hw;apply u2;rintro a xs ⟨rfl,hq,hl,hw⟩;subst r;obtain⟨AJ,rv,ht,hz⟩:=I.tuple hq;refine assign_Tuple_tuple (I.ok.hd hc) ht (by simp[hn,<-hl,rv.length]) hst λh' hx=>?_
 have I1:Inv X _ σ H { s with heap:=h' }:=I.kept  λb o e=>hx b o (bg<|au e) e;exact h _ _ σ H xs _ Q I1 (rv) hw
def N8(to ti:TE)(t:U7):TG:=λv σ H Q=>to σ H λo H1=>ti σ H1 λi H2=>t o i v H2 λH3=>Q σ H3
def Ep{to ti:TE}{t:U7}(ho:PE X o to)(hi:PE X i ti)(hs:U8 X t)
  (ha:∀ v,Li (.Subscript o i pos) X.env v=(do
   let ov ← t9 [v] (eval o X.env)
   let iv ← t9 [v,ov] (eval i X.env)
   yi pos
   t9 [v,ov,iv] (Ln ov iv v)
   release [v,ov,iv] []):=by intro z;rfl):PG X (.Subscript o i pos) (N8 to ti t):=λAA s σ H v u Q I r h=>δ (gx (AO (ho _ s σ H _ I h) (by rintro ov s1 ⟨x,H1,I1,r1,q1⟩;exact(δ (gx (AO (hi _ s1 σ H1 _ I1 q1) (by rintro iv s2 ⟨y,H2,I2,r2,q2⟩;exact(δ (As (δ (gx (AO (hs _ s2 σ H2 x y v ov iv u _ I2 r1 r2 r q2) (by rintro z s3 ⟨H3,I3,q3⟩;exact(wpAny_release<|x2 σ H3 ⟨I3,q3⟩))))))))))))))
def AS(te:TE)(g:TG):TS:=λD σ H=>te σ H λx H1=>g x σ H1 D.nx
def Ev{te:TE}(he:PE X e te)(hg:PG X tg g)(hs:swapsWithSole [tg] e pos.line X.env=pure false:=by rfl)(hw:swappedStores [tg] e X.env=pure none:=by rfl)
  (h1:(we [tg] X.env).map (·.2)=[Li tg X.env]:=by rfl):PS X (.Assign [tg] e pos) (AS te g):=by
 refine λAA s σ H D I h=>wpAny_Assign_stores (AO (he _ s σ H _ I h) λv s1 hzz=>?_) hs hw;obtain⟨x,H1,I1,r1,q1⟩:=hzz;rw[h1];exact AO (hg _ s1 σ H1 x v _ I1 r1 q1) λz s2 q=>q
def iZ{te:TE}(hN:X.N.Nodup)(hi:X.N[i]? =some x)(hx:MR X.env.scope x)(he:PE X e te)(hs:vz e (some<|.Name x pos') pos.line X.env=pure false:=by rfl)(hf:X.fn x=true\/X.env.scope.names.lookup x=some .local:=by first|exact .inl rfl|exact .inr rfl|assumption) :
  PS X (.Assign [.Name x pos'] e pos) (AS te<|AE i):=λAA s σ H D I h=>wpAny_Assign_Name (AO (he _ s σ H _ I h) (by rintro v s1 ⟨y,H1,I1,r1,q1⟩;exact(iU I1 hN hi hx r1 (λs2 I2=>x2 _ H1 ⟨I2,q1⟩) hf))) hs
def Ew(f:Int->Int->Int):iX:=λx y H Q=>∃ i j,x=.int i/\y=.int j/\Q (.int<|f i j) H
end
section
variable{X:Cx}{pos:Pos}
def i4(c:TT)(tb:TS):TS:=λD σ H=>∃ W:Nat->St->Hp->Prop,(∃ m,W m σ H)/\∀ m σ H,W m σ H ->
 c σ H λb H1=>if b=true then ∃ N:St->Hp->Prop,(∀ σ' H',N σ' H'->∃ m',m'<m/\W m' σ' H')/\tb { D with nx:=N,ct:=N,bk:=D.nx } σ H1 else D.nx σ H1
def Ex(hp:Ff (model X.prog X.w) X.A X.env X.xe)(hc:PT X c tc)(hb:EU X body tb):PS X (.While c body [] pos) (i4 tc tb):=by
 rintro AA s σ H D I ⟨W,⟨m0,w0⟩,turn⟩;refine wpAny_While<|codeAny_whileLoop (λn s'=>∃ σ' H',Inv X _ σ' H' s'/\W n σ' H') ?_ m0 (x2 σ H ⟨I,w0⟩);rintro n s1 ⟨σ1,H1,I1,w1⟩;refine fh hp<|AO (hc _ s1 _ H1 _ I1<|turn n _ H1 w1) λb s2 hzz=>?_;obtain⟨H2,I2,q2⟩:=hzz;cases b with
 |true =>
  obtain⟨N,hN,q2⟩:=q2;refine fh hp<|AO (hb _ s2 _ H2 _ I2 q2) λf s3 q3=>?_;cases f with
  |next =>
   revert q3;apply u2;rintro σ3 H3 ⟨I3,n3⟩;obtain⟨m',hm,w3⟩:=hN _ H3 n3;exact{m',hm,x2 _ H3 ⟨I3,w3⟩}
  |cont =>
   revert q3;apply u2;rintro σ3 H3 ⟨I3,n3⟩;obtain⟨m',hm,w3⟩:=hN _ H3 n3;exact{m',hm,x2 _ H3 ⟨I3,w3⟩}
  |brk=>exact q3
  |ret v=>exact q3
 |false =>
  exact mx<|x2 _ H2 ⟨I2,q2⟩
end
structure It where
 go:Nat->Hp->Prop
 yld:Nat->Hp->V->Hp->Prop
 stop:Nat->Hp->Prop
def FpOk(X:Cx)(AA:rN)(H:Hp)(b:Addr):Prop :=
 H b=none/\b≠X.env.locals/\b∉X.fs/\(b∈X.ex\/X.s₀.heap.objs.size<=b)/\(∀ x c,X.env.cells.lookup x=some c->c≠b)/\∀ p∈X.pn++AA,p.1≠b
def Inv.fpOk(I:Inv X AA σ H s)(hb:s.heap.objs.size<=b)(hn:H' b=none):FpOk X AA H' b:=by
 refine{hn,iy<|χ I.lt hb,I.nofs hb,.inr<|ψ I.sz hb,λx c e z=>?_,λp hp z=>(absurd (χ (au (I.pin p hp).1) (by rw[z];exact hb)) (jm _))};obtain⟨v,q⟩:=I.cell x c e;exact absurd (χ q.lt (by rw[z];exact hb)) (jm _)
structure JM(P:bu)(w:World)(K:ι)(tg:Expr)(J:It)(fp:qX)(it:Addr)(tn:Nat->Heap->Prop):Prop where
 mem:it∈fp
 obj:∀ i h,tn i h->∀ b∈fp,∃ o,h.get? b=some o/\∀ v,o.data≠.cell v
 keep:∀ i h h',tn i h->(∀ b∈fp,∀ o,h.get? b=some o->h'.get? b=some o)->tn i h'
 item:∀ (X:Cx),X.prog=P->X.w=w->X.K=K->X.calm=true->∀ (i:Nat) (AA:rN) (s:π) (σ:St) (H:Hp) (E:xP),Inv X AA σ H s->(∀ b∈fp,FpOk X AA H b)->tn i s.heap->J.go i H ->
  wpAny (model P w) X.A (xr<|.ref it) (λr s1=>∃ u,r=some u /\
   wpAny (model P w) X.A (yx tg (.ref it) u) (λ_ s2=>∃ x H',Inv X AA σ H' s2/\RelV x u/\J.yld i H x H'/\tn (i+1) s2.heap/\∀ b∈fp,H' b=none) E s1) E s
 done:∀ (X:Cx),X.prog=P->X.w=w->X.K=K->X.calm=true->∀ (i:Nat) (AA:rN) (s:π) (σ:St) (H:Hp) (E:xP),Inv X AA σ H s->(∀ b∈fp,FpOk X AA H b)->tn i s.heap->J.stop i H ->
  wpAny (model P w) X.A (xr<|.ref it) (λr s1=>r=none/\Inv X AA σ H s1) E s
 self:∀ (A:dq) (i:Nat) (s:π) (Q:xP) (E:xP),tn i s.heap->Q (.ref it) s->wpAny (model P w) A (zi<|.ref it) Q E s
abbrev TI:=St->Hp->(It->Hp->Prop)->Prop
def U9(X:Cx)(AA:rN)(σ:St)(tg:Expr)(R:It->Hp->Prop)(itv:Value)(s2:π):Prop :=
 ∃ (it:Addr) (fp:qX) (tn:Nat->Heap->Prop) (J:It) (H':Hp),itv=.ref it/\Inv X AA σ H' s2/\JM X.prog X.w X.K tg J fp it tn/\tn 0 s2.heap/\(∀ b∈fp,FpOk X AA H' b)/\R J H'
def PI(X:Cx)(tg iter:Expr)(wi:TI):Prop :=
 ∀ (AA:rN) (s:π) (σ:St) (H:Hp) (R:It->Hp->Prop),Inv X AA σ H s->wi σ H R ->
  wpAny (model X.prog X.w) X.A (eval iter X.env) (λv s1=>wpAny (model X.prog X.w) X.A (zi v) (U9 X AA σ tg R) X.xe s1) X.xe s
def MT(ho:s.heap.get? it=some o)(hc:o.cls=.type n)(hd:o.data=.fields vs)
    (hn:["enumerate","zip","dict_itemiterator","dict_reverseitemiterator","odict_iterator","itertools.zip_longest","itertools.pairwise"].contains n=false) (hQ:Q () s):wpAny M A (yx tg (.ref it) u) Q E s:=by
  cases tg<;>first
    |exact ν hQ
    | (cases u<;>first
        |exact ν hQ
        | (refine δ (wpAny_load ho ?_)
           rw[hc,hd]
           show wpAny M A (if(["enumerate","zip","dict_itemiterator","dict_reverseitemiterator","odict_iterator","itertools.zip_longest","itertools.pairwise"].contains n&&vs[0]? == some _)=true then _ else _) Q E s;rw[if_neg (by intro h;rw[hn]at h;cases h)];exact ν hQ))
def FX(K:ι)(a:Addr):It :=
 {λi H=>∃ xs x,SqL K H a xs/\xs[i]? =some x,λi H x H'=>H'=H/\∀ xs,SqL K H a xs->xs[i]? =some x,λi H=>∃ xs,SqL K H a xs/\xs.length<=i}
def IJ(K:ι)(a:Addr):It :=
 {λi H=>∃ xs x,SqT K H a xs/\xs[i]? =some x,λi H x H'=>H'=H/\∀ xs,SqT K H a xs->xs[i]? =some x,λi H=>∃ xs,SqT K H a xs/\xs.length<=i}
def E9(lo:Int)(n:Nat):It:={λi _=>i<n,λi H x H'=>H'=H/\x=.int (lo+i),λi _=>n<=i}
def Ey{P:bu}{w:World}{K:ι}{tg:Expr}(a it:Addr):JM P w K tg (FX K a) [it] it (λi h=>h.IsListIter it a i) where
 mem:=by simp
 obj:=λi h st b hb=>by
  have e:b=it:=by simpa using hb
  subst e;obtain⟨o,e,c,d⟩:=st;exact{o,e,λv z=>by rw[d]at z;cases z}
 keep:=λi h h' st k=>st.at λo e=>k it (by simp) o e
 item:=by
  intro X hP hw hK hc i AA s σ H E I hf st hg;subst hP hw hK;revert hg;apply u2;rintro xs x ⟨hq,hx⟩;obtain⟨AJ,rv,p,hz⟩:=I.list hq;obtain⟨f0,f1,f2,f3,f4,f5⟩:=hf it (by simp);obtain⟨u,hu,ru⟩:=rv.get hx;refine wpAny_pyNext_list_item st p.isList  (by simpa using hu) λh' st' sb=>?_
  have I1:Inv X _ σ H { s with heap:=h' }:=I.turned  (λb o hb e=>(sb.2 b hb).trans e) f0 f1 f3 f4 f5;obtain⟨o,e,c,d⟩:=id st';exact{u,rfl,MT  e c d (by decide) (x2 x H {I1,ru,{rfl,λys hy=>by rw[I.list_inj hy hq];exact hx},st',λb hb=>(hf b hb).1})}
 done:=by
  rintro X hP hw hK hc i AA s σ H E I hf st ⟨xs,hq,hx⟩;subst hP hw hK;obtain⟨AJ,rv,p,hz⟩:=I.list hq;obtain⟨f0,f1,f2,f3,f4,f5⟩:=hf it (by simp);exact wpAny_pyNext_list_end (I.ok.hd hc) st p.isList (by simp;exact rv.length ▸ hx) λh' eb=>{rfl,I.turned  (λb o hb e=>eb b o hb e) f0 f1 f3 f4 f5}
 self:=λy y y y y st h=>wpAny_pyIter_listiter st h
def Ez{P:bu}{w:World}{K:ι}{tg:Expr}(a it:Addr):JM P w K tg (IJ K a) [it] it (λi h=>h.IsTupleIter it a i) where
 mem:=by simp
 obj:=λi h st b hb=>by
  have e:b=it:=by simpa using hb
  subst e;obtain⟨o,e,c,d⟩:=st;exact{o,e,λv z=>by rw[d]at z;cases z}
 keep:=λi h h' st k=>st.at λo e=>k it (by simp) o e
 item:=by
  intro X hP hw hK hc i AA s σ H E I hf st hg;subst hP hw hK;revert hg;apply u2;rintro xs x ⟨hq,hx⟩;obtain⟨AJ,rv,p,hz⟩:=I.tuple hq;obtain⟨f0,f1,f2,f3,f4,f5⟩:=hf it (by simp);obtain⟨u,hu,ru⟩:=rv.get hx;refine wpAny_pyNext_tuple_item st (p)  (by simpa using hu) λh' st' sb=>?_
  have I1:Inv X _ σ H { s with heap:=h' }:=I.turned  (λb o hb e=>(sb.2 b hb).trans e) f0 f1 f3 f4 f5;obtain⟨o,e,c,d⟩:=id st';exact{u,rfl,MT  e c d (by decide) (x2 x H {I1,ru,{rfl,λys hy=>by rw[I.tuple_inj hy hq];exact hx},st',λb hb=>(hf b hb).1})}
 done:=by
  rintro X hP hw hK hc i AA s σ H E I hf st ⟨xs,hq,hx⟩;subst hP hw hK;obtain⟨AJ,rv,p,hz⟩:=I.tuple hq;obtain⟨f0,f1,f2,f3,f4,f5⟩:=hf it (by simp);exact wpAny_pyNext_tuple_end (I.ok.hd hc) st (p) (by simp;exact rv.length ▸ hx) λh' eb=>{rfl,I.turned  (λb o hb e=>eb b o hb e) f0 f1 f3 f4 f5}
 self:=λy y y y y st h=>wpAny_pyIter_tupleiter st h
def Fb{P:bu}{w:World}{K:ι}{tg:Expr}(it:Addr)(lo:Int)(n:Nat):JM P w K tg (E9 lo n) [it] it (λi h=>IsRangeIter h it (lo+(i:Nat) * 1) ((n:Int) - (i:Nat)) 1) where
 mem:=by simp
 obj:=λi h st b hb=>by
  have e:b=it:=by simpa using hb
  subst e;exact⟨_,st,λv z=>by
   cases z⟩
 keep:=λi h h' st k=>k it (by simp) _ st
 item:=by
  intro X hP hw hK hc i AA s σ H E I hf st hg;obtain⟨f0,f1,f2,f3,f4,f5⟩:=hf it (by simp);refine(Walks.range   (I.ok.hd hc) it lo 1 n).item i s _ _ hg st λv h' tk hv st' kk=>?_;obtain⟨t,rfl⟩:=hv
  have I1:Inv X _ σ H { s with heap:=h',toks:=tk }:=I.turned (λb o hb e=>kk b o (by simpa using hb) e) f0 f1 f3 f4 f5;refine{_,rfl,MT   st' rfl rfl (by decide) (x2 (.int _) H {I1,{t,?_},⟨rfl,rfl⟩,st',λb hb=>(hf b hb).1})};rw[Int.mul_one]
 done:=by
  intro X hP hw hK hc i AA s σ H E I hf st hg;obtain⟨f0,f1,f2,f3,f4,f5⟩:=hf it (by simp);exact wpAny_pyNext_range_end (I.ok.hd hc) st (by have:n<=i:=hg;lia) λh' eb=>{rfl,I.turned  (λb o hb e=>eb b o hb e) f0 f1 f3 f4 f5}
 self:=λy y y y y st h=>wpAny_pyIter_rangeiter st h
section
variable{X:Cx}{tg:Expr}
def Fd{AA:rN}{σ:St}{H:Hp}{s:π}{R:It->Hp->Prop}{E:xP}{lo hi:Int}{t u v:Tok}{tk:Nat}(I:Inv X AA σ H s)(h1: -(2^62)<=lo)(h2:lo<2^62)(h3: -(2^62)<=hi)(h4:hi<2^62)
  (q:R (E9 lo (hi-lo).toNat) H):wpAny (model X.prog X.w) X.A (zi<|.ref s.heap.objs.size) (U9 X AA σ tg R) E { s with heap:=s.heap.push { cls:=.type "range",data:=.fields #[.int lo t,.int hi u,.int 1 v] },toks:=tk }:=by
 refine wpAny_pyIter_range (IsRange.new ..) (small_one h1 h2 h3 h4) ?_
 have I1:Inv X _ σ H { s with heap:=s.heap.push { cls:=.type "range",data:=.fields #[.int lo t,.int hi u,.int 1 v] },toks:=tk }:=I.kept λb o e=>ο _ e;refine⟨_,_,_,_,H,rfl,
  I1.kept  λb o e=>ο _ e,Fb _ lo _,?_,λb hb=>?_,q⟩
 have e1:lo+((0:Nat))*1=lo:=by simp
 have e2:(((hi-lo).toNat))-((0:Nat))=Kr lo hi 1:=by rw[rangeSize_one];split<;>omega
 rw[e1,e2];exact aj _ rfl
 have e:b=(s.heap.push { cls:=.type "range",data:=.fields #[.int lo t,.int hi u,.int 1 v] }).objs.size:=by simpa using hb
 subst e;exact I1.fpOk (ρ _) (I1.hok.fresh<|ρ _)
def RM(ta:TA):TI:=λσ H R=>ta σ H λvs H1=>∃ j:Int,vs=[.int j]/\ -(2^62)<=j/\j<2^62/\R (E9 0 j.toNat) H1
def Fg{a:Expr}{ta:TA}{p pos:Pos}(hg:Gl X "range")(hm:X.mg "range"=none)(ha:PA X [a] ta)(hs:ay [a] X.env=[(false,eval a X.env)]:=by rfl):PI X tg (.Call (.Name "range" p) [a] [] pos) (RM ta):=by
 refine λAA s σ H R I h=>Call_<|N6 I hg hm boot_range<|jk (AO (ha _ _ s σ H _ I h) λus s1 hzz=>?_) hs rfl;obtain⟨vs,H1,I1,r1,⟨j,rfl,q1,q2,q⟩⟩:=hzz;cases r1 with
 |cons r rr =>
  cases rr;obtain⟨t,rfl⟩:=r;exact call_range_1 (Fd I1 (by decide) (by decide) q1 q2 (by simpa using q))
def CZ(wi:TI)(g:TG)(tb:TS):TS:=λD σ H=>wi σ H λJ H1=>∃ W:Nat->Nat->St->Hp->Prop,(∃ m,W 0 m σ H1)/\∀ i m σ H,W i m σ H ->
 (J.stop i H/\D.nx σ H)\/(J.go i H/\∃ N:St->Hp->Prop,(∀ σ' H',N σ' H'->∃ m',m'<m/\W (i+1) m' σ' H')/\∀ x H',J.yld i H x H'->g x σ H' λσ2 H2=>tb { D with nx:=N,ct:=N,bk:=D.nx } σ2 H2)
def N9(fp:qX)(h:Heap):rN:=fp.filterMap λb=>(h.get? b).map λo=>(b,o)
def MU(hb:b∈fp)(e:h.get? b=some o):(b,o)∈N9 fp h:=jo.mpr {b,hb,by rw[e];rfl}
def Fh(hp:p∈N9 fp h):p.1∈fp/\h.get? p.1=some p.2:=by
 obtain⟨b,hb,e⟩:=jo.mp hp;cases q:h.get? b with
 |none=>rw[q]at e;cases e
 |some o =>
  rw[q]at e
  have e':=μ e;subst e';exact⟨hb,q⟩
def Inv.pinned(I:Inv X AA σ H s)(hf:∀ b∈fp,FpOk X AA H b)(ho:∀ b∈fp,∃ o,s.heap.get? b=some o/\∀ v,o.data≠.cell v):Inv X (AA++N9 fp s.heap) σ H s :=
 I.pins_of λp hp=>(a_.mp hp).elim (λz=>I.pin p<|bv _ z) λz=>by
  obtain⟨hb,e⟩:=Fh z;obtain⟨f0,f1,f2,y⟩:=hf _ hb;obtain⟨o,e',d⟩:=ho _ hb;rw[e]at e';obtain rfl:=μ e';exact⟨e,f0,f1,f2,d⟩
def Inv.unpinned(I:Inv X (AA++pl) σ H s):Inv X AA σ H s:=I.pins_of λp hp=>I.pin p<|bv _<|ja _ hp
def Fj(hp:Ff (model X.prog X.w) X.A X.env X.xe)(hc:X.calm=true)(hi:PI X tg iter wi)(hg:PG X tg g)(hb:EU X body tb)
  (hs:∀ x,jy iter X.env x=pure x:=by intro z;rfl):PS X (.For tg iter body [] pos) (CZ wi g tb):=by
 refine λAA s σ H D I h=>wpAny_For (AO (hi _ s σ H _ I h) λv s1 h1=>AO h1 λitv s2 h2=>?_) hs;revert h2;apply u5;rintro it fp tn J H2 ⟨rfl,I2,T,st2,f2,W,⟨m0,w0⟩,turn⟩
 have stat:∀ {H':Hp},(∀ b∈fp,H' b=none)->∀ b∈fp,FpOk X _ H' b:=λhn b hb=>{hn b hb,(f2 b hb).2}
 refine Ai (λn s'=>∃ i σ' H',Inv X _ σ' H' s'/\tn i s'.heap/\(∀ b∈fp,H' b=none)/\W i n σ' H') ?_ m0 (x3 0 σ H2 {I2,st2,λb hb=>(f2 b hb).1,w0});rintro n s3 ⟨i,σ3,H3,I3,st3,fr3,w3⟩;rcases turn i n _ H3 w3 with⟨stop,qn⟩|⟨go,N,hN,step⟩
 refine fh hp<|AO (T.done X rfl rfl rfl hc i _ s3 _ H3 _ I3 (stat fr3) st3 stop) λr s4 hzz=>?_;obtain⟨rfl,I4⟩:=hzz;exact mx<|x2 _ H3 ⟨I4,qn⟩;refine fh hp<|AO (T.item X rfl rfl rfl hc i _ s3 _ H3 _ I3 (stat fr3) st3 go) λr s4 hzz=>?_;obtain⟨u,rfl,h4⟩:=hzz;refine fh hp<|AO h4 λz s5 hzz=>?_;obtain⟨x,H5,I5,r5,y5,st5,fr5⟩:=hzz;refine fh hp<|AO (hg _ s5 _ H5 x u _ (I5.pinned (stat fr5) (T.obj _ _ st5)) r5 (step x H5 y5)) λz s6 ⟨σ6,H6,I6,q6⟩=>(fh hp<|AO (hb _ s6 _ H6 _ I6 q6) λf s7 q7=>?_)
 have again:∀ {σ7:St} {H7:Hp},Inv X _ _ H7 s7->N _ H7->∃ m,m<n/\∃ i σ' H',Inv X AA σ' H' s7/\tn i _/\(∀ b∈fp,H' b=none)/\W i m σ' H':=λ{σ7 H7} I7 n7=>by
  obtain⟨m',hm,w7⟩:=hN _ H7 n7;refine{m',hm,x3 _ σ7 H7 {I7.unpinned,T.keep _ _ _ st5 λb hb o e=>(I7.pin _<|bv _<|bv _<|MU hb e).1,λb hb=>?_,w7}};obtain⟨o,e,d⟩:=T.obj _ _ st5 b hb;exact(I7.pin _<|bv _<|bv _<|MU hb e).2.1
 cases f with
 |next=>revert q7;apply u2;rintro σ7 H7 ⟨I7,n7⟩;exact again I7 n7
 |cont=>revert q7;apply u2;rintro σ7 H7 ⟨I7,n7⟩;exact again I7 n7
 |brk=>revert q7;apply u2;rintro σ7 H7 ⟨I7,q7⟩;exact x2 _ H7 ⟨I7.unpinned,q7⟩
 |ret v=>revert q7;apply u3;rintro x7 σ7 H7 ⟨I7,r7,q7⟩;exact x3 x7 _ H7 ⟨I7.unpinned,r7,q7⟩
end
abbrev _root_.qO:=Nat->St->Hp->Prop
def Fk{K:PySem.W.Frag}{a:Addr}{xs:Oj}{g:TG}{tb:TS}{D:Ends}{σ:St}{H:Hp}(Pv:qO)(h0:Pv 0 σ H)(hl:∀ i σ H,i<=xs.length->Pv i σ H->SqL K H a xs)
  (hs:∀ i x σ H,xs[i]? =some x->Pv i σ H->g x σ H λσ2 H2=>tb { D with nx:=Pv<|i+1,ct:=Pv<|i+1,bk:=D.nx } σ2 H2) (hd:∀ σ H,Pv xs.length σ H->D.nx σ H) :
  ∃ W:Nat->Nat->St->Hp->Prop,(∃ m,W 0 m σ H)/\∀ i m σ H,W i m σ H ->
   ((FX K a).stop i H/\D.nx σ H)\/((FX K a).go i H/\∃ N:St->Hp->Prop,(∀ σ' H',N σ' H'->∃ m',m'<m/\W (i+1) m' σ' H')/\∀ x H',(FX K a).yld i H x H'->g x σ H' λσ2 H2=>tb { D with nx:=N,ct:=N,bk:=D.nx } σ2 H2):=by
 refine{λi m σ H=>m=xs.length-i/\i<=xs.length/\Pv i σ H,{xs.length,rfl,bh _,h0},?_};rintro i m σ H ⟨rfl,hi,p⟩
 have q:=hl i σ H hi p;by_cases AY:i<xs.length;refine .inr {x2 xs (xs[i]) {q,by simp[AY]},_,λσ' H' p'=>{_,by omega,rfl,AY,p'},λx H' y=>?_};obtain⟨rfl,y⟩:=y;exact hs i x σ _ (y xs q) p
 have e:i=xs.length:=by lia
 subst e;exact .inl {{xs,q,ρ _},hd σ H p}
def Fl{K:PySem.W.Frag}{a:Addr}{xs:Oj}{g:TG}{tb:TS}{D:Ends}{σ:St}{H:Hp}(Pv:qO)(h0:Pv 0 σ H)(hl:∀ i σ H,i<=xs.length->Pv i σ H->SqT K H a xs)
  (hs:∀ i x σ H,xs[i]? =some x->Pv i σ H->g x σ H λσ2 H2=>tb { D with nx:=Pv<|i+1,ct:=Pv<|i+1,bk:=D.nx } σ2 H2) (hd:∀ σ H,Pv xs.length σ H->D.nx σ H) :
  ∃ W:Nat->Nat->St->Hp->Prop,(∃ m,W 0 m σ H)/\∀ i m σ H,W i m σ H ->
   ((IJ K a).stop i H/\D.nx σ H)\/((IJ K a).go i H/\∃ N:St->Hp->Prop,(∀ σ' H',N σ' H'->∃ m',m'<m/\W (i+1) m' σ' H')/\∀ x H',(IJ K a).yld i H x H'->g x σ H' λσ2 H2=>tb { D with nx:=N,ct:=N,bk:=D.nx } σ2 H2):=by
 refine{λi m σ H=>m=xs.length-i/\i<=xs.length/\Pv i σ H,{xs.length,rfl,bh _,h0},?_};rintro i m σ H ⟨rfl,hi,p⟩
 have q:=hl i σ H hi p;by_cases AY:i<xs.length;refine .inr {x2 xs (xs[i]) {q,by simp[AY]},_,λσ' H' p'=>{_,by omega,rfl,AY,p'},λx H' y=>?_};obtain⟨rfl,y⟩:=y;exact hs i x σ _ (y xs q) p
 have e:i=xs.length:=by omega
 subst e;exact .inl {{xs,q,ρ _},hd σ H p}
def Fm{lo:Int}{n:Nat}{g:TG}{tb:TS}{D:Ends}{σ:St}{H:Hp}(Pv:qO)(h0:Pv 0 σ H)
  (hs:∀ i σ H,i<n->Pv i σ H->g (.int<|lo+i) σ H λσ2 H2=>tb { D with nx:=Pv<|i+1,ct:=Pv<|i+1,bk:=D.nx } σ2 H2) (hd:∀ σ H,Pv n σ H->D.nx σ H) :
  ∃ W:Nat->Nat->St->Hp->Prop,(∃ m,W 0 m σ H)/\∀ i m σ H,W i m σ H ->
   ((E9 lo n).stop i H/\D.nx σ H)\/((E9 lo n).go i H/\∃ N:St->Hp->Prop,(∀ σ' H',N σ' H'->∃ m',m'<m/\W (i+1) m' σ' H')/\∀ x H',(E9 lo n).yld i H x H'->g x σ H' λσ2 H2=>tb { D with nx:=N,ct:=N,bk:=D.nx } σ2 H2):=by
 refine{λi m σ H=>m=n-i/\i<=n/\Pv i σ H,{n,rfl,bh _,h0},?_};rintro i m σ H ⟨rfl,hi,p⟩;by_cases AY:i<n;refine .inr {AY,_,λσ' H' p'=>{_,by omega,rfl,AY,p'},λx H' y=>?_};obtain⟨e,y⟩:=y;subst e y;exact hs i σ _ AY p
 have e:i=n:=by lia
 subst e;exact .inl {ρ _,hd σ H p}
abbrev R2:=V->V->Hp->VK->Prop
abbrev _root_.sB:=Value->Value->Sem Value
def BW(X:Cx)(f:sB)(r:R2):Prop :=
 ∀ (AA:rN) (s:π) (σ:St) (H:Hp) (x y:V) (v u:Value) (Q:VK),Inv X AA σ H s->RelV x v->RelV y u->r x y H Q ->
  wpAny (model X.prog X.w) X.A (f v u) (EP X AA σ Q) X.xe s
def RN(X:Cx)(f:Value->Sem Value)(r:V->Hp->VK->Prop):Prop :=
 ∀ (AA:rN) (s:π) (σ:St) (H:Hp) (x:V) (v:Value) (Q:VK),Inv X AA σ H s->RelV x v->r x H Q ->
  wpAny (model X.prog X.w) X.A (f v) (EP X AA σ Q) X.xe s
def D7(X:Cx)(f:Value)(r:Oj->Hp->VK->Prop):Prop :=
 ∀ (AA:rN) (s:π) (σ:St) (H:Hp) (xs:Oj) (us:qV) (Q:VK),Inv X AA σ H s->Vals xs us->r xs H Q ->
  wpAny (model X.prog X.w) X.A (call f us) (EP X AA σ Q) X.xe s
def Fp(X:Cx)(r:V->Hp->(Bool->Hp->Prop)->Prop):Prop :=
 ∀ (AA:rN) (s:π) (σ:St) (H:Hp) (x:V) (v:Value) (Q:qQ),Inv X AA σ H s->RelV x v->r x H Q ->
  wpAny (model X.prog X.w) X.A (truthy v) (TP X AA σ Q) X.xe s
def AF(r:R2)(ta tb:TE):TE:=λσ H Q=>ta σ H λx H1=>tb σ H1 λy H2=>r x y H2 Q
def OA(r:V->Hp->VK->Prop)(ta:TE):TE:=λσ H Q=>ta σ H λx H1=>r x H1 Q
def rI(C:Int->Int->Prop)(g:Int->Int->V):R2:=λx y H Q=>∃ i j,x=.int i/\y=.int j/\C i j/\Q (g i j) H
def JN(g:Int->Int->V):R2:=λx y H Q=>∃ i j,x=.int i/\y=.int j/\Q (g i j) H
def rU(g:Int->V):V->Hp->VK->Prop:=λx H Q=>∃ i,x=.int i/\Q (g i) H
section
variable{X:Cx}{a b c:Expr}{ta tb tc:TE}{pos:Pos}
def VB(ha:PE X a ta)(hb:PE X b tb){R:V->V->Hp->Prop}(I:Inv X AA σ H s)
  (h:ta σ H λx H1=>tb σ H1 λy H2=>R x y H2) {Q:xP} {f:sB}
  (hf:∀ v u s2 x y H2,Inv X AA σ H2 s2->RelV x v->RelV y u->R x y H2->wpAny (model X.prog X.w) X.A (f v u) Q X.xe s2) :
  wpAny (model X.prog X.w) X.A (eval a X.env) (λv s₁=>wpAny (model X.prog X.w) X.A (eval b X.env) (λu s₂=>wpAny (model X.prog X.w) X.A (f v u) Q X.xe s₂) X.xe s₁) X.xe s:=AO (ha _ s σ H _ I h) λv s1 ⟨x,H1,I1,r1,q1⟩=>(AO (hb _ s1 σ H1 _ I1 q1) λu s2 ⟨y,H2,I2,r2,q2⟩=>(hf v u s2 x y H2 I2 r1 r2 q2))
def OB{r:R2}(ho:BW X (iu op) r)(ha:PE X a ta)(hb:PE X b tb):PE X (.BinOp a op b pos) (AF r ta tb):=λAA s σ H Q I h=>wpAny_BinOp<|VB ha hb I h λv u s2 x y H2 I2 rx ry q=>ho _ s2 σ H2 x y v u Q I2 rx ry q
def Fq(ho:RN X (unaryOp op) r)(ha:PE X a ta):PE X (.UnaryOp op a pos) (OA r ta):=λAA s σ H Q I h=>UnaryOp_ (AO (ha _ s σ H _ I h) (by rintro v s1 ⟨x,H1,I1,r1,q1⟩;exact ho _ s1 σ H1 x v Q I1 r1 q1))
def VC{f:sB}{C:Int->Int->Prop}{g:Int->Int->Int}
  (rule:∀ (i j:Int) (t u:Tok) (s:π) (Q:xP) (E:xP),C i j->Q (.int (g i j) s.toks) { s with toks:=s.toks+1 }->wpAny (model X.prog X.w) X.A (f (.int i t) (.int j u)) Q E s) :
  BW X f (rI C λi j=>.int<|g i j):=by
 intro AA s σ H x y v u Q I rx ry h;revert h;apply u2;rintro i j ⟨rfl,rfl,hc,q⟩;obtain⟨t,rfl⟩:=rx;obtain⟨t',rfl⟩:=ry;exact rule i j t t' s _ _ hc<|x2 (.int _) H {I.tok _,⟨_,rfl⟩,q}
def i5{f:sB}{g:Int->Int->Int}
  (rule:∀ (i j:Int) (t u:Tok) (s:π) (Q:xP) (E:xP),Q (.int (g i j) s.toks) { s with toks:=s.toks+1 }->wpAny (model X.prog X.w) X.A (f (.int i t) (.int j u)) Q E s) :
  BW X f (JN λi j=>.int<|g i j):=by
 intro AA s σ H x y v u Q I rx ry h;revert h;apply u2;rintro i j ⟨rfl,rfl,q⟩;obtain⟨t,rfl⟩:=rx;obtain⟨t',rfl⟩:=ry;exact rule i j t t' s _ _<|x2 (.int _) H {I.tok _,⟨_,rfl⟩,q}
def VD{f:sB}{g:Int->rW}
  (rule:∀ (i j:Int) (t u:Tok) (s:π) (Q:xP) (E:xP),Q (.bool<|g i j) s->wpAny (model X.prog X.w) X.A (f (.int i t) (.int j u)) Q E s) :
  BW X f (JN λi j=>.bl<|g i j):=by
 intro AA s σ H x y v u Q I rx ry h;revert h;apply u2;rintro i j ⟨rfl,rfl,q⟩;obtain⟨t,rfl⟩:=rx;obtain⟨t',rfl⟩:=ry;exact rule i j t t' s _ _<|x2 (.bl _) H ⟨I,rfl,q⟩
def i6(i j:Int):Prop:=0<j/\j<1073741824
def Fv(i j:Int):Prop:=0<=j/\j<=1000000/\i.natAbs<2^64
def CMul(i j:Int):Prop:=(-(2^64)<i/\i<2^64)\/(-(2^64)<j/\j<2^64)
def CMul.ok(h:CMul i j):IntMulOk i j:=by
 rcases h with⟨h1,h2⟩|⟨h1,h2⟩
 exact .of_left<|intBits_le_64 h1 h2;exact .of_right<|intBits_le_64 h1 h2
def Fw:BW X (iu .Add) (JN λi j=>.int<|i+j):=i5 λz z z z z z z q=>add_int q
def Fx:BW X (iu .Sub) (JN λi j=>.int<|i-j):=i5 λz z z z z z z q=>sub_int q
def Fy:BW X (iu .Mult) (rI CMul λi j=>.int<|i*j):=VC λz z z z z z z hc q=>mul_int q hc.ok
def Fz:BW X (iu .FloorDiv) (rI i6 λi j=>.int<|i/j):=VC λi j z z z z z hc q=>by
 have h1:=hc.1
 have h2:=hc.2;exact floordiv_int (by omega) (by rw[Int.fdiv_eq_ediv_of_nonneg i (by omega)];exact q) (.inl (PyProof.noPylong_small (by omega)))
def Gb:BW X (iu .Mod) (rI (λ_ j=>0<j) λi j=>.int<|i%j):=VC λi j z z z z z hc q=>mod_int' (by omega) (by rw[Int.fmod_eq_emod_of_nonneg i (by lia)];exact q)
def Gc{f:Value->Sem Value}{g:Int->Int}
  (rule:∀ (i:Int) (t:Tok) (s:π) (Q:xP) (E:xP),Q (.int (g i) s.toks) { s with toks:=s.toks+1 }->wpAny (model X.prog X.w) X.A (f<|.int i t) Q E s) :
  RN X f (rU λi=>.int<|g i):=by
 rintro AA s σ H x v Q I rx ⟨i,rfl,q⟩;obtain⟨t,rfl⟩:=rx;exact rule i t s _ _<|x2 (.int _) H {I.tok _,⟨_,rfl⟩,q}
def Gd:RN X (unaryOp .USub) (rU λi=>.int (-i)):=Gc λz z z z z q=>neg_int q
end
section
variable{X:Cx}{a b c:Expr}{ta tb tc:TE}{pos:Pos}
def FY(I:Inv X AA σ H s)(q:Q (.bl k) H)(e:k=k'):EP X AA σ Q (.bool k') s:=by
 subst e;exact x2 (.bl k) H ⟨I,rfl,q⟩
def Gg:BW X (dt .Lt) (JN λi j=>.bl<|decide<|i<j):=VD λz z z z z z z q=>lt_int q
def Gh:BW X (dt .LtE) (JN λi j=>.bl<|decide<|i<=j):=VD λz z z z z z z q=>le_int q
def Gj:BW X (dt .Gt) (JN λi j=>.bl<|decide<|j<i):=VD λz z z z z z z q=>gt_int q
def Gk:BW X (dt .Is) (λx y H Q=>y=.non/\Q (.bl<|decide<|x=.non) H):=by
 rintro AA s σ H x y v u Q I rx ry ⟨rfl,q⟩;subst ry;refine is_none_gen<|FY I q ?_;cases x<;>first
  |(rfl)
  |(obtain⟨t,rfl⟩:=rx;rfl)
def Gm:BW X (dt .IsNot) (λx y H Q=>y=.non/\Q (.bl<|!decide (x=.non)) H):=by
 rintro AA s σ H x y v u Q I rx ry ⟨rfl,q⟩;subst ry;refine isnot_none_gen<|FY I q ?_;cases x<;>first
  |(rfl)
  |(obtain⟨t,rfl⟩:=rx;rfl)
def KF(b:Expr)(h:op≠.In:=by decide)(h2:op≠.NotIn:=by decide):ni op b=false:=by
 have e1:(op==CmpOp.In)=false:=by cases op<;>first|rfl|exact absurd rfl h
 have e2:(op==Ma)=false:=by cases op<;>first|rfl|exact absurd rfl h2
 cases b<;>simp[ni,e1,e2]
def i7{r:R2}(ho:BW X (dt op) r)(ha:PE X a ta)(hb:PE X b tb)(hm:ni op b=false):PE X (.Compare a [op] [b] pos) (AF r ta tb):=λAA s σ H Q I h=>wpAny_Compare1 (VB ha hb I h λv u s2 x y H2 I2 rx ry q=>ho _ s2 σ H2 x y v u Q I2 rx ry q) hm
def LS(t:TE):TT:=λσ H Q=>t σ H λx H'=>∃ k,x=.bl k/\Q k H'
def JO(ho:BW X (dt op) r)(ha:PE X a ta)(hb:PE X b tb)(hm:ni op b=false):PT X (.Compare a [op] [b] pos) (LS<|AF r ta tb):=by
 intro AA s σ H Q I h;refine zb (AO (ha _ s σ H _ I h) λv s1 ⟨x,H1,I1,r1,q1⟩=>AO (hb _ s1 σ H1 _ I1 q1) λu s2 ⟨y,H2,I2,r2,q2⟩ =>
  AO (ho _ s2 σ H2 x y v u _ I2 r1 r2 q2) λc s3 hzz=>?_) hm
 obtain⟨z,H3,I3,r3,k,e,q3⟩:=hzz;subst e;subst r3;exact jf ⟨H3,I3,q3⟩
def LT(r r':R2)(ta tb tc:TE):TE:=λσ H Q=>ta σ H λx H1=>tb σ H1 λy H2=>r x y H2 λz H3=>∃ k,z=.bl k /\
 (if k=true then tc σ H3 λw' H4=>r' y w' H4 Q else Q (.bl false) H3)
def Gp(ho:BW X (dt op) r)(ho':BW X (dt op') r')(ha:PE X a ta)(hb:PE X b tb)(hc:PE X c tc)
  (hm:lastMarks [op,op'] [b,c]=false:=by with_unfolding_all rfl):PE X (.Compare a [op,op'] [b,c] pos) (LT r r' ta tb tc):=by
 intro AA s σ H Q I h;refine Compare_chain (AO (ha _ s σ H _ I h) λv s1 ⟨x,H1,I1,r1,q1⟩=>chain_link (AO (hb _ s1 σ H1 _ I1 q1) λu s2 ⟨y,H2,I2,r2,q2⟩ =>
  AO (ho _ s2 σ H2 x y v u _ I2 r1 r2 q2) λd s3 hzz=>?_)) hm
 obtain⟨z,H3,I3,r3,k,e,q3⟩:=hzz;subst e;subst r3;refine jf ?_;cases k with
 |false=>exact ite_ff<|x2 (.bl _) H3 ⟨I3,rfl,q3⟩
 |true=>exact ite_tt (chain_last (AO (hc _ s3 σ H3 _ I3 q3) (by rintro w' s4 ⟨z',H4,I4,r4,q4⟩;exact ho' _ s4 σ H4 y z' u w' Q I4 r2 r4 q4)))
def Gq(ho:BW X (dt op) r)(ho':BW X (dt op') r')(ha:PE X a ta)(hb:PE X b tb)(hc:PE X c tc)
  (hm:lastMarks [op,op'] [b,c]=false:=by with_unfolding_all rfl):PT X (.Compare a [op,op'] [b,c] pos) (LS<|LT r r' ta tb tc):=by
 intro AA s σ H Q I h;refine isTrue_chain (AO (ha _ s σ H _ I h) λv s1 ⟨x,H1,I1,r1,q1⟩=>test_link (AO (hb _ s1 σ H1 _ I1 q1) λu s2 ⟨y,H2,I2,r2,q2⟩ =>
  AO (ho _ s2 σ H2 x y v u _ I2 r1 r2 q2) λd s3 hzz=>?_)) hm
 obtain⟨z,H3,I3,r3,k,e,q3⟩:=hzz;subst e;subst r3;refine jf ?_;cases k with
 |false =>
  obtain⟨k',e',q'⟩:=q3;cases e';exact ite_ff ⟨H3,I3,q'⟩
 |true =>
  refine ite_tt<|test_last<|AO (hc _ s3 σ H3 _ I3 q3) λw' s4 ⟨z',H4,I4,r4,q4⟩=>AO (ho' _ s4 σ H4 y z' u w' _ I4 r2 r4 q4) λd' s5 hzz=>?_;obtain⟨z2,H5,I5,r5,k2,rfl,q5⟩:=hzz;subst r5;exact jf ⟨H5,I5,q5⟩
def KG(K:ι)(x:V)(H:Hp)(k:Bool):Prop :=
 match x with
 |.non=>k=false
 |.bl b=>k=b
 |.int i=>k=(i != 0)
 |.str y=>y.length<=sizeLine/\k=((y.length:Int) != 0)
 |.byt y=>y.size<=sizeLine/\k=((y.size:Int) != 0)
 |.ref p=>(∃ xs,SqL K H p xs/\k= !xs.isEmpty)\/(∃ xs,SqT K H p xs/\k= !xs.isEmpty)\/∃ kvs,H p=some (.dK kvs)/\k= !kvs.isEmpty
 |_=>False
def Gv{κ :Type}{kvs:List (κ × V)}{vs:List (κ × Value)}(r:KV kvs vs):(!vs.isEmpty)= !kvs.isEmpty:=by
 cases r<;>rfl
def i8{xs:Oj}{AJ:qV}(r:Vals xs AJ):(!AJ.toArray.isEmpty)= !xs.isEmpty:=by
 cases r<;>simp
def OC:(sizeLine:Nat)<2^63:=by decide
def Gw:Fp X (λx H Q=>∃ k,KG X.K x H k/\Q k H):=by
 have hs:=w_;rintro AA s σ H x v Q I rx ⟨k,e,q⟩;cases x with
 |non =>
  subst e;subst rx;exact truthy_none ⟨H,I,q⟩
 |bl b =>
  subst rx;subst e;exact jf ⟨H,I,q⟩
 |int i =>
  obtain⟨t,rfl⟩:=rx;subst e;exact PySem.P.truthy_int ⟨H,I,q⟩
 |str y =>
  obtain⟨t,rfl⟩:=rx;obtain⟨hy,e'⟩:y.length<=sizeLine/\k=((y.length:Int) != 0):=e;subst e';exact PySem.P.truthy_str (by omega) {H,I.tok _,q}
 |byt y =>
  obtain⟨t,rfl⟩:=rx;obtain⟨hy,e'⟩:y.size<=sizeLine/\k=((y.size:Int) != 0):=e;subst e';exact W.truthy_bytes (oA hy rfl) {H,I.tok _,q}
 |ref p =>
  cases rx
  have e':(∃ xs,SqL X.K H p xs/\k= !xs.isEmpty)\/(∃ xs,SqT X.K H p xs/\k= !xs.isEmpty)\/∃ kvs,H p=some (.dK kvs)/\k= !kvs.isEmpty:=e;rcases e' with⟨xs,hx,e'⟩|⟨xs,hx,e'⟩|⟨kvs,hx,e'⟩
  ·subst e';obtain⟨AJ,r,pl,hz⟩:=I.list hx
   have CC:=r.length;exact wpAny_truthy_list pl.isList (by simp only[az];omega) {H,I.tok _,by rw[i8 r];exact q}
  ·subst e';obtain⟨AJ,r,pl,hz⟩:=I.tuple hx
   have CC:=r.length;exact truthy_tuple pl (by simp only[az];omega) {H,I.tok _,by rw[i8 r];exact q}
  ·subst e';obtain⟨hz,hS,vs,r,m⟩:kvs.length<=sizeLine/\(p==ig)=false/\∃ vs,KV kvs vs/\s.heap.DictOf (DZ X.prog X.w) p vs:=I.hok p _ hx
   have CC:kvs.length=vs.length:=Paired.length r;exact wpAny_truthy_dict hS m (by omega) {H,I.tok _,by rw[Gv r];exact q}
 |_=>exact(show False from e).elim
def Gx(ha:PE X a ta)(he:∀ whole,Le a X.env whole=(do let v ← whole;yi a.pos;t9 [v] (truthy v))) :
  PT X a (λσ H Q=>ta σ H λx H'=>∃ k,KG X.K x H' k/\Q k H'):=λAA s σ H Q I h=>isTrue_plain (AO (ha _ s σ H _ I h) (by rintro v s1 ⟨x,H1,I1,r1,q1⟩;exact Gw _ s1 σ H1 x v Q I1 r1 q1)) (he _)
def Gy:BW X (iu .Add) (λx y H Q=>∃ i j,x=.str i/\y=.str j/\i.length+j.length<=sizeLine/\Q (.str<|i++j) H):=by
 intro AA s σ H x y v u Q I rx ry h;revert h;apply u2;rintro i j ⟨rfl,rfl,hz,q⟩;obtain⟨t,rfl⟩:=rx;obtain⟨t',rfl⟩:=ry;exact add_str (λt' tk=>x2 (.str _) H {I.tok _,⟨_,rfl⟩,q}) hz
def FZ(r:Vals [x] us):∃ u,us=[u]/\RelV x u:=by
 cases r with
 |cons r1 r2=>cases r2;exact⟨_,rfl,r1⟩
def Gz:D7 X (.type "int") (λxs H Q=>(∃ i,xs=[.int i]/\Q (.int i) H)\/∃ k,xs=[.bl k]/\Q (.int<|if k then 1 else 0) H):=by
 intro AA s σ H xs us Q I r h;rcases h with⟨i,rfl,q⟩|⟨k,rfl,q⟩
 obtain⟨u,rfl,t,rfl⟩:=FZ r;exact call_int_int<|x2 (.int i) H {I,⟨_,rfl⟩,q};obtain⟨u,rfl,rfl⟩:=FZ r;exact call_int_bool<|x2 (.int _) H {I.tok _,⟨_,rfl⟩,q}
def Hb:D7 X (.builtin "ord") (λxs H Q=>∃ x,xs=[.str x]/\x.length=1/\Q (.int (x.cps.getD 0 0:Nat)) H):=by
 rintro AA s σ H xs us Q I r ⟨x,rfl,hz,q⟩;obtain⟨u,rfl,t,rfl⟩:=FZ r;exact ord_of_one hz<|x2 (.int _) H {I.tok _,⟨_,rfl⟩,q}
def RO(K:ι)(x:V)(H:Hp)(n:Nat):Prop :=
 match x with
 |.str y=>y.length<=sizeLine/\n=y.length
 |.byt y=>y.size<=sizeLine/\n=y.size
 |.ref p=>(∃ xs,SqL K H p xs/\n=xs.length)\/∃ xs,SqT K H p xs/\n=xs.length
 |_=>False
def Hc:D7 X (.builtin "len") (λxs H Q=>∃ x n,xs=[x]/\RO X.K x H n/\Q (.int n) H):=by
 intro AA s σ H xs us Q I r h;revert h;apply u2;rintro x n ⟨rfl,e,q⟩;obtain⟨u,rfl,rx⟩:=FZ r
 have hs:=w_;cases x with
 |str y =>
  obtain⟨t,rfl⟩:=rx;obtain⟨hy,rfl⟩:y.length<=sizeLine/\n=y.length:=e;exact len_str (by omega) (x2 (.int _) H {I.tok _,⟨_,rfl⟩,q})
 |byt y =>
  obtain⟨t,rfl⟩:=rx;obtain⟨hy,rfl⟩:y.size<=sizeLine/\n=y.size:=e;exact W.len_bytes (oA hy rfl) (x2 (.int _) H {I.tok _,⟨_,rfl⟩,q})
 |ref p =>
  subst rx
  have e':=e;rcases e' with⟨xs,hx,e'⟩|⟨xs,hx,e'⟩
  subst e';obtain⟨AJ,r',pl,hz⟩:=I.list hx
  have CC:=r'.length;exact Calls.call_len_list pl.isList (by simp only[az];omega) (x2 (.int _) H {I.tok _,{_,by simp only[az];rw[CC]},q});subst e';obtain⟨AJ,r',pl,hz⟩:=I.tuple hx
  have CC:=r'.length;exact len_tuple pl (by simp only[az];omega) (x2 (.int _) H {I.tok _,{_,by simp only[az];rw[CC]},q})
 |_=>exact(e).elim
end
structure ObjM(h:Heap)(x dx C:Addr)(mA:ZN):Prop where
 obj:h.get? x=some (uj C dx)
 ns:h.Ns1 dx mA
 ne:dx≠x
set_option tactic.hygienic true in
def Hd{h:Heap}{mA:ZN}(n:h.Ns1 dx mA):∃ od,h.get? dx=some od/\∀ name,Ix name od=some (mA name):=by
 revert n;apply u3;rintro o es ep ⟨ho,hd,hk,_,hm⟩;refine{o,ho,λname=>?_}
 have e:=hm name;unfold nsFind findBy at e;rw[<-Array.find?_toList]at e;unfold Ix;rw[hd];dsimp only;split
 ·rename_i y q;rw[q]at e;exact congrArg some e
 ·rename_i q;rw[q]at e
  have a:es.toList.any (·.refKey)=false:=by
   rw[xa];refine λy hy=>u2 ?_<|hk y<|Array.mem_toList_iff.mp hy;rintro z t hkey;simp[DictEntry.refKey,hkey]
  rw[if_neg (by rw[a];exact aw)];exact congrArg some e
def ObjM.look(I:ObjM h x dx C mA):∃ od,W.InstAt h x (uj C dx) C (some od)/\∀ name,Ix name od=some (mA name) :=
 let ⟨od,ho,hl⟩:=Hd I.ns
 {od,⟨I.obj,rfl,rfl,ho⟩,hl}
section
variable{prog:bu}{w:World}{A:dq}{E:xP}{s:π}{K:ι}{x dx C f:Addr}{mA:ZN}{name:Str}{v:Value}
def Hg(X:K.In s.heap)(I:ObjM s.heap x dx C mA)(hg:yj K C name=true)(hh:zj K C=true)
  (ha:ci K (.ref C) name=some none) (hv:mA name=some v) (hv':W.handedIn v=true) (h:Q v { s with toks:=s.toks+1 }) :
  wpAny (model prog w) A (getAttr (.ref x) name expr) Q E s:=by
 obtain⟨od,J,hl⟩:=I.look;exact W.get_value X J (At hg).1 (W.findObj_own hh ha rfl (by rw[hl,hv])) hv' h
def Hh(X:K.In s.heap)(I:ObjM s.heap x dx C mA)(hg:yj K C name=true)
  (hf:ci K (.ref C) name=some (some<|.ref f)) (ht:Iy K (.ref f)=true) (hv:mA name=none) (h:Q (.ref f,[.ref x]) s) :
  wpAny (model prog w) A (uk (.ref x) name pl) Q E s:=by
 obtain⟨od,J,hl⟩:=I.look;exact W.method_fn X J (At hg).1 (At hg).2 hf (beq_iff_eq.mp ht) (by show(Ix _ od).map _=some _;rw[hl,hv];rfl) h
def Hj(X:K.In s.heap)(I:ObjM s.heap x dx C mA)
  (hs:ci K (.ref C) "__setattr__"=some (some<|.builtin "object.__setattr__")) (hp:Hu K C=true) (ht:Ks K C name=some none) (hh:zj K C=true)
  (hw:PySem.Within mA ns) (hsz:ns.length<=sizeLine)
  (h:∀ h',ObjM h' x dx C (λy=>if y=name then some v else mA y)->fu dx s.heap h'->Q () { s with heap:=h',toks:=s.toks+2 }) :
  wpAny (model prog w) A (setAttr (.ref x) name v) Q E s:=by
 obtain⟨od,J,hl⟩:=I.look;obtain⟨cd,hc,hd'⟩:=W.any_some hh;refine W.set_plain X J hs<|W.osa_open   X J hp ht λb=>(δ<|ν<|δ<|δ<|wpAny_loadPart I.obj<|δ<|W.Looks.here  (W.looks_clsIn X hc) ?_);rw[hd'];refine ν  (δ<|ν<|δ<|wpAny_nsSet1  I.ns λh' hn2 hs2=>(u3 ?_<|hn2.count<|PySem.Within.cons _ v hw));rintro oD esD epD ⟨hoD,hdD,hcD⟩;exact δ (wpAny_lookBehind hoD (by rw[hdD];exact pastItsLine_dict<|ψ hcD<|xb hsz) (ν<|h _ {(hs2.2 _<|fg I.ne).trans I.obj,hn2,I.ne} hs2))
def Hk(X:K.In s.heap)(hm:Fi K C=true)
  (hi:ci K (.ref C) "__init__"=some (some<|.ref f)) (hf:W.typeIn K (.ref f)=some (.type "function"))
  (h:uy (model prog w) (A.under<|.builtin "type.__call__" {.ref C::vs,kw}) (.call (.ref f) {.ref (s.heap.objs.size+1)::vs,kw}) (W.InitBack (s.heap.objs.size+1) R)
   { s with heap:=(s.heap.push xc).push (uj C s.heap.objs.size) }) :
  uy (model prog w) A (.call (.ref C) ⟨vs,kw⟩) R s:=W.make_core (W.makes_of X hm) (W.looks_findIn X hi) (λself=>W.bind_fn X _ hf) (.inl rfl) h
end
def BO(f:Str)(v:V):rP->rP
 | []=>[(f,v)]
 |(g,x)::r=>if g=f then(g,v)::r else(g,x)::BO f v r
def i9(f g:Str)(v:V):∀ fs:rP,(BO f v fs).lookup g=if g=f then some v else fs.lookup g
 | []=>by
  show gq g [(f,v)]=_;by_cases h:g=f;simp only[gq,(beq_iff_eq.mpr h),if_pos h];simp only[gq,(beq_eq_false_iff_ne.mpr h),if_neg h]
 |(k,x)::r=>by
  rw[show BO f v _=(if k=f then(k,v)::r else(k,x)::BO f v r)from rfl];by_cases hk:k=f;rw[if_pos hk];by_cases h:g=k;simp only[gq,(beq_iff_eq.mpr h),if_pos<|h.trans hk];simp only[gq,(beq_eq_false_iff_ne.mpr h),if_neg (λe:g=f=>h<|e.trans hk.symm)];rw[if_neg hk];by_cases h:g=k;simp only[gq,(beq_iff_eq.mpr h),if_neg (λe:g=f=>hk<|h.symm.trans e)];simp only[gq,(beq_eq_false_iff_ne.mpr h)];exact(i9 f g v r)
def VE(f:Str)(v:V):∀ fs:rP,f∈(BO f v fs).map (·.1)/\∀ g,g∈fs.map (·.1)->g∈(BO f v fs).map (·.1)
 | []=>{by simp[BO],λg h=>by simp at h}
 |(k,x)::r=>by
  obtain⟨i1,i2⟩:=VE f v r;rw[show BO f v _=(if k=f then(k,v)::r else(k,x)::BO f v r)from rfl];by_cases hk:k=f;subst hk;exact{by simp,λg h=>by simpa using h};rw[if_neg hk];refine{(υ _ i1),λg h=>?_};rcases ax.mp h with e|e
  exact ax.mpr<|.inl e;exact υ _<|i2 g e
def OD(f:Str)(v:V):∀ fs:rP,(BO f v fs).length<=fs.length+1
 | []=>by simp[BO]
 |(k,x)::r=>by
  rw[show BO f v _=(if k=f then(k,v)::r else(k,x)::BO f v r)from rfl];by_cases hk:k=f;rw[if_pos hk];exact jc _;rw[if_neg hk];exact xb<|OD f v r
def RelO.some_of(r:RelO (some v) o):∃ u,o=some u/\RelV v u:=by
 cases o with
 |none=>exact(r).elim
 |some u=>exact⟨u,rfl,r⟩
def RelO.none_of(r:RelO none o):o=none:=by
 cases o with
 |none=>rfl
 |some u=>exact(r).elim
def Hl(r:RelV v u):W.handedIn u=true:=by
 cases v with
 |non=>cases (r);rfl
 |bl b=>cases (r);rfl
 |int i=>obtain⟨t,rfl⟩:=(r);rfl
 |str x=>obtain⟨t,rfl⟩:=(r);rfl
 |byt b=>obtain⟨t,rfl⟩:=(r);rfl
 |flt b=>obtain⟨t,rfl⟩:=(r);rfl
 |ref a=>cases (r);rfl
 |ty n=>cases (r);rfl
section
variable{P:bu}{w:World}{H H':Hp}{h h':Heap}{a C dx:Addr}{fs fs':rP}
def VF(hok:HOk P w H h)(e:H a=some (.ins C dx fs)):∃ mA,ObjM h a dx C mA/\(∀ f,RelO (fs.lookup f) (mA f))/\PySem.Within mA (fs.map (·.1))/\fs.length<=1000/\H dx=some (.own a):=by
 obtain⟨d,z,ne,ob,mA,n,r,q⟩:=(hok a _ e)
 exact{mA,⟨ob,n,ne⟩,r,q,z,d}
end
structure Cls(K:ι)(C:Addr):Prop where
 pg:yj K C Fn=true
 hd:zj K C=true
 po:Hu K C=true
 sa:ci K (.ref C) "__setattr__"=some (some<|.builtin "object.__setattr__")
def Cls.get{K:ι}{C:Addr}(c:Cls K C)(f:Str):yj K C f=true:=c.pg
def NoAttr(K:ι)(C:Addr)(f:Str):Prop:=ci K (.ref C) f=some none
def NoAttr.taker{K:ι}{C:Addr}{f:Str}(n:NoAttr K C f):Ks K C f=some none:=by
 unfold Ks;rw[n]
 rfl
structure Con(K:ι)(C:Addr)(f:Str)(v:V)(u:Value):Prop where
 at_:ci K (.ref C) f=some (some u)
 rel:RelV v u
 get:H_ K u "__get__"=some none
 cp:W.copiedNames.contains f=false
structure RP(K:ι)(C:Addr)(m:Str)(f:Addr):Prop where
 at_:ci K (.ref C) m=some (some<|.ref f)
 fn:Iy K (.ref f)=true
 kp:qy K (.ref f)=true
section
variable{X:Cx}{AA:rN}{σ:St}{H:Hp}{s:π}{a C dx:Addr}{fs:rP}{f:Str}{v:V}{A:dq}{E:xP}
def jA(I:Inv X AA σ H s)(e:H a=some (.ins C dx fs))(c:Cls X.K C)(n:NoAttr X.K C f)(l:fs.lookup f=some v)
  (h:∀ u s',Inv X AA σ H s'->RelV v u->Q u s'):wpAny (model X.prog X.w) A (getAttr (.ref a) f b) Q E s:=by
 obtain⟨mA,O,r,z,z,z⟩:=VF I.hok e;obtain⟨u,hu,ru⟩:=RelO.some_of   (by rw[<-l];exact r f);exact Hg I.kIn O (c.get f) c.hd n hu (Hl ru) (h u _ (I.tok _) ru)
def jB(I:Inv X AA σ H s)(e:H a=some (.ins C dx fs))(c:Cls X.K C)(k:RP X.K C m g)(l:fs.lookup m=none)
  (h:Q (.ref g,[.ref a]) s):wpAny (model X.prog X.w) A (uk (.ref a) m pl) Q E s:=by
 obtain⟨mA,O,r,z,z,z⟩:=VF I.hok e;exact Hh I.kIn O (c.get m) k.at_ k.fn (RelO.none_of (by rw[<-l];exact r m)) h
def jC(I:Inv X AA σ H s)(e:H a=some (.ins C dx fs))(c:Cls X.K C)(n:NoAttr X.K C f)(hl:fs.length<1000)(ry:RelV y u)
  (h:∀ s',Inv X AA σ (upd H a<|.ins C dx<|BO f y fs) s'->Q () s'):wpAny (model X.prog X.w) A (setAttr (.ref a) f u) Q E s:=by
 obtain⟨mA,O,r,wi,x,ho⟩:=VF I.hok e;refine Hj I.kIn O c.sa c.po n.taker c.hd wi (by rw[ζ];exact oB hl rfl) λh' O' sb=>h _ (I.write   (by rw[e];exact oq) (.inr ho) (λb q hb z=>(sb.2 b hb).trans z) (let ⟨o,_,_,e',_⟩:=O'.ns;⟨o,e'⟩) {by rw[AH O.ne];exact ho,?_,O.ne,O'.obj,_,O'.ns,λg=>?_,λg hg=>?_});exact ψ (OD f y fs) hl;rw[i9];by_cases q:g=f;rw[if_pos q,if_pos q];exact ry;rw[if_neg q,if_neg q];exact r g;by_cases q:g=f;rw[q];exact(VE f y fs).1;refine(VE f y fs).2 g (wi g λz=>hg ?_)
 show(if g=f then some u else mA g)=none;rw[if_neg q];exact z
def Inv.made(I:Inv X AA σ H s):Inv X AA σ (upd (upd H s.heap.objs.size<|.own<|s.heap.objs.size+1) (s.heap.objs.size+1) (.ins C s.heap.objs.size []))
  { s with heap:=(s.heap.push xc).push (uj C s.heap.objs.size) }:=by
 have e1:(s.heap.push _).get? _=some xc:=aj _ rfl
 have e2:((s.heap.push xc).push (uj C s.heap.objs.size)).get? (s.heap.objs.size+1)=some (uj C s.heap.objs.size):=by
  have:=aj (s.heap.push xc) (o:=uj C s.heap.objs.size) rfl
  rwa [zl]at this
 have ne:s.heap.objs.size≠s.heap.objs.size+1:=bg<|f_ _;refine(I.laid  (o:=.own _)  (t':=s.toks) (λb u q=>ο _ q) (ρ _) ⟨_,e1⟩).laid    (λb u q=>ο _ q) (bc<|zl _ _) ({by rw[AH ne,AD],bh _,ne,e2,λz=>none,(Heap.Ns1.of_empty (x3 _ _ _ {e1,rfl,(λe he=>absurd he (by simp)),λz=>rfl})).at λo q=>ο _ q,λz=>oq,λy hy=>absurd rfl hy})
def Hm(hb:uz e f env (eval e env)=eval e env)
  (h:wpAny (model prog w) A (eval e env) (λo s₁=>wpAny (model prog w) A (getAttr o f true) Q E s₁) E s):wpAny (model prog w) A (eval (.Attribute e f pos) env) Q E s :=
 Attribute_any_ h (by rw[arm_eval_Attribute,hb])
end
def OE(K:ι)(ta:TE)(f:Str):TE:=λσ H Q=>ta σ H λx H1=>∃ a C dx fs v,x=.ref a/\H1 a=some (.ins C dx fs)/\Cls K C/\NoAttr K C f/\fs.lookup f=some v/\Q v H1
def OF(K:ι)(ta tv:TE)(f:Str):TS:=λD σ H=>tv σ H λy H1=>ta σ H1 λx H2=>∃ a C dx fs,x=.ref a/\H2 a=some (.ins C dx fs)/\Cls K C/\NoAttr K C f/\fs.length<1000 /\
 D.nx σ (upd H2 a<|.ins C dx<|BO f y fs)
def VG(X:Cx)(op:Operator)(rd:V->V->Hp->VK->Prop):Prop :=
 ∀ (AA:rN) (s:π) (σ:St) (H:Hp) (x y:V) (u v:Value) (Q:VK),Inv X AA σ H s->RelV x u->RelV y v->rd x y H Q->wpAny (model X.prog X.w) X.A (inplaceOp op u v) (EP X AA σ Q) X.xe s
def RQ(K:ι)(ta tv:TE)(rd:V->V->Hp->VK->Prop)(f:Str):TS:=λD σ H=>ta σ H λx H1=>∃ a C dx fs v,x=.ref a/\H1 a=some (.ins C dx fs)/\Cls K C/\NoAttr K C f/\fs.lookup f=some v /\
 tv σ H1 λy H2=>rd v y H2 λz H3=>∃ dx' fs',H3 a=some (.ins C dx' fs')/\fs'.length<1000/\D.nx σ (upd H3 a<|.ins C dx'<|BO f z fs')
section
variable{X:Cx}{o e value:Expr}{f:Str}{pos pos' tpos:Pos}{ta tv:TE}
def Hq(he:PE X e ta)(hb:uz e f X.env (eval e X.env)=eval e X.env):PE X (.Attribute e f pos) (OE X.K ta f):=by
 refine λAA s σ H Q I h=>Hm hb<|AO (he _ s σ H _ I h) λu s1 hzz=>?_;obtain⟨x,H1,I1,rx,a,C,dx,fs,v,rfl,ea,c,n,l,q⟩:=hzz;obtain rfl:u=ff a:=rx;exact jA I1 ea c n l λu' s2 I2 ru=>x2 v H1 ⟨I2,ru,q⟩
def Hv(ha:PE X o ta)(hv:PE X value tv)(hs:vz value (some<|.Attribute o f pos') pos.line X.env=pure false):PS X (.Assign [.Attribute o f pos'] value pos) (OF X.K ta tv f):=by
 refine λAA s σ H D I h=>plainObj_wpAny_Assign_Attribute (AO (hv _ s σ H _ I h) λu s1 ⟨y,H1,I1,ry,q⟩=>AO (ha _ s1 σ H1 _ I1 q) λov s2 hzz=>?_) hs;obtain⟨x,H2,I2,rx,a,C,dx,fs,rfl,ea,c,n,l,q2⟩:=hzz;obtain rfl:ov=ff a:=rx;exact jC I2 ea c n l ry λs3 I3=>x2 σ _ ⟨I3,q2⟩
def Hw(ha:PE X o ta)(hv:PE X value tv)(hop:VG X op rd):PS X (.AugAssign (.Attribute o f tpos) op value pos) (RQ X.K ta tv rd f):=by
 refine λAA s σ H D I h=>wpAny_AugAssign_AttributeAny<|AO (ha _ s σ H _ I h) λov s1 hzz=>?_;obtain⟨x,H1,I1,rx,a,C,dx,fs,v,rfl,ea,c,n,l,q⟩:=hzz;obtain rfl:ov=ff a:=rx;exact jA I1 ea c n l λu s2 I2 ru=>AO (hv _ s2 σ H1 _ I2 q) (by rintro w3 s3 ⟨y,H2,I3,ry,q3⟩;exact AO (hop _ s3 σ H2 v y u w3 _ I3 ru ry q3) (by rintro w4 s4 ⟨z,H3,I4,rz,dx',fs',ea',l',q4⟩;exact(jC I4 ea' c n l' rz λs5 I5=>x2 σ _ ⟨I5,q4⟩)))
def OG:V->V->Hp->VK->Prop:=λx y H Q=>∃ i j,x=.int i/\y=.int j/\Q (.int<|i+j) H
def jD:VG X .Add OG:=by
 rintro AA s σ H x y u v Q I rx ry ⟨i,j,rfl,rfl,q⟩;obtain⟨t,rfl⟩:=(rx)
 obtain⟨t',rfl⟩:=(ry)
 exact PyProof.Rows.iadd_int<|x2 (.int _) H {I.tok _,⟨_,rfl⟩,q}
end
section
variable{X:Cx}{AA:rN}{σ:St}{H:Hp}{s:π}{A:dq}{E:xP}{Q:xP}{c:Value}{b:Bool}
inductive HM(K:ι)(H:Hp):V->Value->Prop where
 |non:HM K H .non (.type "NoneType")
 |bl (x:Bool):HM K H (.bl x) (.type "bool")
 |int (i:Int):HM K H (.int i) (.type "int")
 |str (x:Str):HM K H (.str x) (.type "str")
 |flt (x:UInt64):HM K H (.flt x) (.type "float")
 |lst {a:Addr} {xs:Oj} (e:H a=some (.lst xs)):HM K H (.ref a) (.type "list")
 |frz {a:Addr} {o:Obj} {xs:Oj} (e:H a=some (.frz o<|.lst xs)):HM K H (.ref a) (.type "list")
 |tup {a:Addr} {xs:Oj} (e:H a=some (.tup xs)):HM K H (.ref a) (.type "tuple")
 |dK {a:Addr} {kvs:rR} (e:H a=some (.dK kvs)):HM K H (.ref a) (.type "dict")
 |dT {a:Addr} {kvs:rC} (e:H a=some (.dT kvs)):HM K H (.ref a) (.type "dict")
 |ins {a C dx:Addr} {fs:rP} (e:H a=some (.ins C dx fs)) (cl:Cls K C) (ha:ci K (.ref C) "__class__"=some (some<|.builtin "object.__class__"))
   (hn:H_ K (.builtin "object.__class__") "__get__"=some (some<|.builtin "getset_descriptor.__get__")) (htk:W.takesIn K (.builtin "object.__class__")=some true)
   (hm:W.mroIn K C (.type "object")=some true):HM K H (.ref a) (.ref C)
end
structure Room(k:Nat)(A:dq):Prop where
 hd:A.handled=none
 dp:A.depth+3*k+5<recursionLimit
 un:A.units+16*k+200<cLine
def Room.mono(r:Room k A)(h:j<=k):Room j A:={r.hd,by have:=r.dp;lia,by have:=r.un;lia}
def Room.deeper(r:Room (k+1) A)(env:Env):Room k (A.deeper env) :=
 {r.hd,by have:=r.dp;show A.depth+1+3*k+5<_;lia,by have:=r.un;show A.units+3+16*k+200<_;lia}
def Hx{A:dq}:(A.under<|.builtin "type.__call__" {.ref C::us,kw}).depth=A.depth+1:=by
 first|rfl|simp[guardIds]
def Hy{A:dq}:(A.under<|.builtin "type.__call__" {.ref C::us,kw}).units=A.units+1:=by
 first|rfl|simp[Code.isFrame]
abbrev _root_.rK:=List (Str × Value)
def Room.make(r:Room (k+1) A)(C:Addr)(us:qV)(kw:rK):Room k (A.under<|.builtin "type.__call__" {.ref C::us,kw}) :=
 {r.hd,by have:=r.dp;rw[Hx];lia,by have:=r.un;rw[Hy];lia}
def Room.depth(r:Room k A):A.depth<recursionLimit:=by have:=r.dp;lia
def Room.units(r:Room k A):A.units+64<cLine:=by have:=r.un;lia
def BF:TA:=λ_ H Q=>Q [] H
def DT(ta:TE)(tr:TA):TA:=λσ H Q=>ta σ H λx H1=>tr σ H1 λxs H2=>Q (x::xs) H2
section
variable{X:Cx}{e:Expr}{es:rY}{te:TE}{t:TA}{pos:Pos}
def RR:PA X [] BF:=λz z z z H Q I h=>t_<|x2 [] H {I,.nil,h}
def MV(ha:PE X e te)(hr:PA X es t)(hs:ay (e::es) X.env=(false,eval e X.env)::ay es X.env:=by rfl):PA X (e::es) (DT te t):=by
 intro pos AA s σ H Q I h;rw[hs];exact jp (AO (ha _ s σ H _ I h) (by rintro u s1 ⟨x,H1,I1,r1,q1⟩;exact(AO (hr _ _ s1 σ H1 _ I1 q1) (by rintro us s2 ⟨xs,H2,I2,r2,q2⟩;exact x2 _ H2 {I2,.cons r1 r2,q2}))))
def CU(t:TA):TE:=λσ H Q=>t σ H λxs H1=>xs.length<=sizeLine/\∀ p,H1 p=none->Q (.ref p) (upd H1 p<|.tup xs)
def BZ(t:TA):TE:=λσ H Q=>t σ H λxs H1=>xs.length<=sizeLine/\∀ p,H1 p=none->Q (.ref p) (upd H1 p<|.lst xs)
def Hz{x1}(h:PA X es t):PE X (.Tuple es x1 pos) (CU t):=λAA s σ H Q I hq=>wpAny_Tuple_spliced (AO (h _ _ s σ H _ I hq) λus s1 ⟨xs,H1,I1,r,z,q⟩=>{by rw[<-r.length];exact z,(x2 (.ref _) (upd H1 _<|.tup xs) {I1.laid  (λb u e=>ο _ e) (ρ _) ({z,us,r,{_,aj _ rfl,rfl,_,rfl}}),rfl,q _<|I1.hok.fresh<|ρ _})})
def Jb(h:PA X es t):PE X (.List es pos) (BZ t):=λAA s σ H Q I hq=>wpAny_List_spliced (AO (h _ _ s σ H _ I hq) λus s1 ⟨xs,H1,I1,r,z,q⟩=>{by rw[<-r.length];exact z,(x2 (.ref _) (upd H1 _<|.lst xs) {I1.laid  (λb u e=>ο _ e) (ρ _) ({z,x2 us 0 {r,aj _ rfl}}),rfl,q _<|I1.hok.fresh<|ρ _})})
end
abbrev Sp:=Oj->Hp->VK->XK->Prop
abbrev HN:=YZ->Hp->π->XK->Value->π->Prop
structure Env0(P:bu)(w:World)(K:ι)(mg:ZN)(base:Heap)(A:dq)(outer:YZ)(s:π)(H:Hp):Prop where
 frames:A.frames=some outer
 mod:Mod K mg base
 bs:∀ b o,base.get? b=some o->s.heap.get? b=some o/\H b=none
 bsz:base.objs.size<=s.heap.objs.size
 funs:s.heap.FunFrames base outer
 frf:∀ b∈D0 outer,H b=none
 hok:HOk P w H s.heap
 bare:tz s.gens
def CE(outer:YZ)(P:bu)(w:World)(H:Hp)(s:π)(Q:VK)(u:Value)(s':π):Prop :=
 ∃ v H',s'.os=s.os/\tz s'.gens/\Un (D0 outer) [] H H' s.heap s'.heap/\HOk P w H' s'.heap/\RelV v u/\Q v H'
def CR(CX:HN)(outer:YZ)(P:bu)(w:World)(H:Hp)(s:π)(Q:VK)(E:XK)(r:Result)(s':π):Prop :=
 match r with
 |.ok (.ret u)=>CE outer P w H s Q u s'
 |.ok _=>False
 |.error e=>CX outer H s E e s'
structure FnOk(P:bu)(w:World)(K:ι)(mg:ZN)(base:Heap)(CX:HN)(k:Nat)(f:Addr)(fd:gg)(ps:qZ)(sp:Sp):Prop where
 len:∀ vs H Q E,sp vs H Q E->vs.length=ps.length
 run:∀ (A:dq) (outer:YZ) (s:π) (H:Hp) (args:Args) (us:qV) (vs:Oj) (Q:VK) (E:XK),Room k A->Env0 P w K mg base A outer s H->xf s fd args (ps.zip us)->Vals vs us->sp vs H Q E ->
  uy (model P w) A (.call (.ref f) args) (CR CX outer P w H s Q E) s
def FnOk.imp{P:bu}{w:World}{K:ι}{mg:ZN}{base:Heap}{CX:HN}{k:Nat}{f:Addr}{fd:gg}{ps:qZ}{sp sp':Sp}(F:FnOk P w K mg base CX k f fd ps sp)
  (h:∀ vs H Q E,sp' vs H Q E->sp vs H Q E):FnOk P w K mg base CX k f fd ps sp' :=
 {λvs H Q E q=>F.len vs H Q E<|h _ _ _ _ q,λA outer s H args us vs Q E hr he hb hv hs=>F.run A _ s H _ us vs Q E hr he hb hv<|h _ _ _ _ hs}
def Env0.make{P:bu}{w:World}{K:ι}{mg:ZN}{base:Heap}{A:dq}{outer:YZ}{s:π}{H:Hp}(e:Env0 P w K mg base A outer s H)(C:Addr)(us:qV)(kw:rK) :
  Env0 P w K mg base (A.under<|.builtin "type.__call__" {.ref C::us,kw}) outer s H:={by first|exact e.frames|(exact e.frames),e.mod,e.bs,e.bsz,e.funs,e.frf,e.hok,e.bare}
section
variable{X:Cx}{AA:rN}{σ:St}{H:Hp}{s s':π}
def Inv.env0(I:Inv X AA σ H s):Env0 X.prog X.w X.K X.mg X.base X.A X.stack s H :=
 {I.ok.frames,I.ok.mod,I.bs,ψ I.ok.bsz I.sz,I.stack,I.stkFree,I.hok,I.bare}
def Inv.after(I:Inv X AA σ H s)(h:CE X.stack X.prog X.w H s Q u s'):EP X AA σ Q u s':=by
 revert h;apply u2;rintro v H' ⟨os,bare,un,hok,r,q⟩;obtain⟨hh,g,d,t,os'⟩:=s';obtain rfl:os'=s.os:=os;exact x2 v H' {I.call      un hok bare (λb z=>absurd z (by simp)),r,q}
end
def LU(sp:Sp)(EA:Oj)(E:St->XK)(t:TA):TE:=λσ H Q=>t σ H λvs H1=>sp (vs++EA) H1 Q (E σ)
def IK(C:Addr)(m:Str)(sp:Sp)(EA:Oj)(E:St->XK)(ta:TE)(t:TA):TE:=λσ H Q=>ta σ H λx H1=>∃ a dx fs,x=.ref a/\H1 a=some (.ins C dx fs)/\fs.lookup m=none /\
 t σ H1 λvs H2=>sp (x::(vs++EA)) H2 Q (E σ)
def MW(C:Addr)(sp:Sp)(EA:Oj)(E:St->XK)(t:TA):TE:=λσ H Q=>t σ H λvs H1=>∀ x dx,H1 x=none->H1 dx=none->dx≠x ->
 sp (.ref x::(vs++EA)) (upd (upd H1 dx<|.own x) x (.ins C dx [])) (λv H2=>v=.non/\Q (.ref x) H2) (E σ)
def Binds(K:ι)(fd:gg)(ps:qZ)(ds:qV):Prop :=
 ∀ (s:π) (us:qV),K.In s.heap->(us++ds).length=ps.length->xf s fd {us,[]} (ps.zip<|us++ds)
def Binds.all{K:ι}{fd:gg}{ps:qZ}(h:∀ us:qV,us.length=ps.length->bindArgs fd {us,[]}=pure (ps.zip us)):Binds K fd ps []:=λs us z hl=>by
 rw[jg]at hl ⊢;exact .of_eq<|h us hl
def G4(CX:HN)(X:Cx)(E:St->XK):Prop:=∀ (AA:rN) (σ:St) (H:Hp) (s:π) (e:Value) (s':π),Inv X AA σ H s->CX X.stack H s (E σ) e s'->X.xe e s'
section
variable{X:Cx}{CX:HN}{k:Nat}{f C:Addr}{fd:gg}{ps:qZ}{sp:Sp}{EA:Oj}{ds:qV}{E:St->XK}{x m:Str}{p pos CM:Pos}{e o:Expr}{es:rY}{ta:TE}{t:TA}
def VH(F:FnOk X.prog X.w X.K X.mg X.base CX k f fd ps sp)(hr:Room k X.A)(hb:Binds X.K fd ps ds)(hd:Vals EA ds)(hx:G4 CX X E)
  (I:Inv X AA σ H s) (r:Vals vs us) (h:sp (vs++EA) H Q (E σ)):wpAny (model X.prog X.w) X.A (call (.ref f) us) (EP X AA σ Q) X.xe s:=by
 have r2:=r.append hd;refine Iz (l_ (F.run _ _ s H _ _ _ Q _ hr I.env0 (hb s us I.kIn (by rw[<-r2.length];exact F.len _ _ _ _ h)) r2 h) λr s' hq=>?_);cases r with
 |error e=>exact hx _ σ H s e s' I hq
 |ok fl =>
  cases fl with
  |ret u=>exact I.after hq
  |next=>exact jq hq
  |brk=>exact jq hq
  |cont=>exact jq hq
def Jc(F:FnOk X.prog X.w X.K X.mg X.base CX k f fd ps sp)(hr:Room k X.A)(hg:Gl X x)(hm:X.mg x=some (.ref f))(hk:qy X.K (.ref f)=true)(hb:Binds X.K fd ps ds)(hd:Vals EA ds)(hx:G4 CX X E)
  (ha:PA X (e::es) t) (hdb:(x ==("__debug__":Str))=false:=by decide) (he:ay (e::es) X.env=(false,eval e X.env)::ay es X.env:=by rfl) (CD:(jb pos<|ay es X.env).any (·.1)=false:=by rfl) :
  PE X (.Call (.Name x p) (e::es) [] pos) (LU sp EA E t):=λAA s σ H Q I h=>sr (N5 I hg hm (Cn  I.ok.mod.kin hk (AO (ha _ _ s σ H _ I h) (by rintro us s1 ⟨vs,H1,I1,r,q⟩;exact{I1.kIn,(VH F hr hb hd hx I1 r q)})) he CD) hdb)
def Jd(he:PE X o ta)(c:Cls X.K C)(hm:RP X.K C m f)(F:FnOk X.prog X.w X.K X.mg X.base CX k f fd ps sp)(hr:Room k X.A)(hb:Binds X.K fd ps ds)(hd:Vals EA ds)(hx:G4 CX X E)(ha:PA X (e::es) t)
  (hst:ay (e::es) X.env=(false,eval e X.env)::ay es X.env:=by rfl) (CD:(jb pos<|ay es X.env).any (·.1)=false:=by rfl)
  (ht:eval (.Call (.Attribute o m CM) (e::es) [] pos) X.env=(do
   let ov ← eval o X.env
   yi CM.atName
   let (f,first) ← t9 [ov] (uk ov m pl)
   zm pos f first (jb pos<|ay (e::es) X.env) (vb pos<|lq [] X.env)):=by rfl) :
  PE X (.Call (.Attribute o m CM) (e::es) [] pos) (IK C m sp EA E ta t):=by
 refine λAA s σ H Q I h=>Ig  (AO (he _ s σ H _ I h) λu s1 hzz=>?_) ht;obtain⟨x,H1,I1,rx,a,dx,fs,rfl,ea,l,q⟩:=hzz;obtain rfl:u=ff a:=rx;exact jB I1 ea c hm l (Cn   I.ok.mod.kin hm.kp (AO (ha _ _ s1 σ H1 _ I1 q) (by rintro us s2 ⟨vs,H2,I2,r,q2⟩;exact{I2.kIn,(VH  (vs:=.ref a::vs) F hr hb hd hx I2 (.cons rfl r) q2)})) hst CD)
def Jg(he:PE X o ta)(c:Cls X.K C)(hm:RP X.K C m f)(F:FnOk X.prog X.w X.K X.mg X.base CX k f fd ps sp)(hr:Room k X.A)(hb:Binds X.K fd ps ds)(hd:Vals EA ds)(hx:G4 CX X E)
  (ht:eval (.Call (.Attribute o m CM) [] [] pos) X.env=(do
   let ov ← eval o X.env
   yi CM.atName
   let (f,first) ← t9 [ov] (uk ov m pl)
   zm pos f first (jb pos<|ay [] X.env) (vb pos<|lq [] X.env)):=by rfl) :
  PE X (.Call (.Attribute o m CM) [] [] pos) (IK C m sp EA E ta BF):=by
 refine λAA s σ H Q I h=>Ig  (AO (he _ s σ H _ I h) λu s1 hzz=>?_) ht;obtain⟨x,H1,I1,rx,a,dx,fs,rfl,ea,l,q⟩:=hzz;obtain rfl:u=ff a:=rx;exact jB I1 ea c hm l<|W.callWith_K0  I1.kIn hm.kp (VH  (vs:=[.ref a]) F hr hb hd hx I1 (.cons rfl .nil) q)
structure Mk(K:ι)(C f:Addr):Prop where
 makes:Fi K C=true
 init:ci K (.ref C) "__init__"=some (some<|.ref f)
 fn:Iy K (.ref f)=true
 kp:qy K (.ref C)=true
def Jh(M:Mk X.K C f)(F:FnOk X.prog X.w X.K X.mg X.base CX k f fd ps sp)(hr:Room (k+1) X.A)(hb:Binds X.K fd ps ds)(hd:Vals EA ds)
  (hx:G4 CX X E) (I:Inv X AA σ H s) (r:Vals vs us)
  (h:∀ x dx,H x=none->H dx=none->dx≠x->sp (.ref x::(vs++EA)) (upd (upd H dx<|.own x) x (.ins C dx [])) (λv H2=>v=.non/\Q (.ref x) H2) (E σ)) :
  wpAny (model X.prog X.w) X.A (call (.ref C) us) (EP X AA σ Q) X.xe s:=by
 have hq:=h _ _ (I.hok.fresh<|jc _) (I.hok.fresh<|ρ _) (bg<|f_ _)
 have I2:=Inv.made (C:=C) I
 have r2:Vals (V.ref (s.heap.objs.size+1)::(vs++EA)) _:=.cons rfl<|r.append hd
 have hl:(ff (s.heap.objs.size+1)::us++ds).length=ps.length:=by
  have e:=r2.length;rw[F.len _ _ _ _ hq]at e;exact e.symm
 refine Iz (Hk  I.kIn M.makes M.init (beq_iff_eq.mp M.fn) (l_ (F.run _ _ _ _ _ _ _ _ _ (hr.make C us [])
  (I2.env0.make C us []) (hb _ _ I2.kIn hl) r2 hq) λr s' hq'=>?_))
 cases r with
 |error e=>exact hx _ σ _ _ e s' I2 hq'
 |ok fl =>
  cases fl with
  |ret u =>
   refine u2 ?_<|I2.after hq';rintro v H' ⟨I3,rv,rfl,q3⟩;exact{rv,x2 (V.ref _) H' ⟨I3,rfl,q3⟩}
  |next=>exact jq hq'
  |brk=>exact jq hq'
  |cont=>exact jq hq'
def Jj(M:Mk X.K C f)(F:FnOk X.prog X.w X.K X.mg X.base CX k f fd ps sp)(hr:Room (k+1) X.A)(hg:Gl X x)(hm:X.mg x=some (.ref C))(hb:Binds X.K fd ps ds)(hd:Vals EA ds)(hx:G4 CX X E)
  (ha:PA X (e::es) t) (hdb:(x ==("__debug__":Str))=false:=by decide) (he:ay (e::es) X.env=(false,eval e X.env)::ay es X.env:=by rfl) (CD:(jb pos<|ay es X.env).any (·.1)=false:=by rfl) :
  PE X (.Call (.Name x p) (e::es) [] pos) (MW C sp EA E t):=λAA s σ H Q I h=>sr (N5 I hg hm (Cn  I.ok.mod.kin M.kp (AO (ha _ _ s σ H _ I h) (by rintro us s1 ⟨vs,H1,I1,r,q⟩;exact{I1.kIn,(Jh M F hr hb hd hx I1 r q)})) he CD) hdb)
end
section
variable{X:Cx}{CX:HN}{k:Nat}{f C:Addr}{fd:gg}{ps ks:qZ}{sp:Sp}{E:St->XK}{x m:Str}{p pos CM kpos:Pos}{e o:Expr}{es:rY}{kws:List Ae}{te ta:TE}{t tk:TA}{nm:Option Str}
structure zy2(K:ι)(fd:gg)(ps ks:qZ)(g:qV->qV->qV)(gV:Oj->Oj->Oj):Prop where
 to:∀ (s:π) (us ws:qV),K.In s.heap->(g us ws).length=ps.length->xf s fd {us,ks.zip ws} (ps.zip<|g us ws)
 rel:∀ {vs:Oj} {us:qV} {zs:Oj} {ws:qV},Vals vs us->Vals zs ws->Vals (gV vs zs) (g us ws)
variable{g:qV->qV->qV}{gV:Oj->Oj->Oj}
end
structure FnScope(N P:qZ)(sc:Scope):Prop where
 kind:sc.kind=.function
 co:sc.isCoroutine=false
 gen:sc.isGenerator=false
 nd:N.Nodup
 pre:N.take P.length=P
 par:∀ x∈P,sc.names.lookup x=some .local\/sc.names.lookup x=some .cell
 nofree:∀ y∈sc.names,y.2≠.free
def jE{kindOf:Str->Option yb}:∀ {binds:rK} {m:ZN},(∀ v,(x,v)∉binds)->bindL kindOf binds m x=m x
 | [],_,_=>rfl
 |(n,v)::r,m,h=>by
  unfold bindL;rw[jE λw hw=>h w<|υ _ hw];split
  have:x≠n:=by rintro rfl;exact h v ω
  simp[this]
  rfl
def jF{kindOf:Str->Option yb}:∀ {binds:rK} {m:ZN},(∀ v,(x,v)∉binds)->bindC kindOf binds m x=m x
 | [],_,_=>rfl
 |(n,v)::r,m,h=>by
  unfold bindC;rw[jF λw hw=>h w<|υ _ hw];split
  rfl
  have:x≠n:=by rintro rfl;exact h v ω
  simp[this]
def jG{kindOf:Str->Option yb}:∀ {P:qZ} {vs:qV} {i:Nat} {m:ZN},P.Nodup->P[i]? =some x->vs[i]? =some v->kindOf x=some .local ->
  bindL kindOf (P.zip vs) m x=some v
 | [],_,_,_,_,h,_,_=>by simp at h
 |_::_,[],_,_,_,_,h,_=>by simp at h
 |p::P,w::vs,0,m,nd,h1,h2,hk=>by
  simp at h1 h2;subst h1 h2
  show bindL _ ((p,w)::P.zip vs) m p=_;unfold bindL;rw[jE λv hv=>(gy.mp nd).1 (yy hv).1,if_pos hk];simp
 |p::P,w::vs,i+1,m,nd,h1,h2,hk=>by
  unfold bindL;exact jG  (gy.mp nd).2 (h1) (h2) hk
def jH{kindOf:Str->Option yb}:∀ {P:qZ} {vs:qV} {i:Nat} {m:ZN},P.Nodup->P[i]? =some x->vs[i]? =some v->kindOf x≠some .local ->
  bindC kindOf (P.zip vs) m x=some v
 | [],_,_,_,_,h,_,_=>by simp at h
 |_::_,[],_,_,_,_,h,_=>by simp at h
 |p::P,w::vs,0,m,nd,h1,h2,hk=>by
  simp at h1 h2;subst h1 h2
  show bindC _ ((p,w)::P.zip vs) m p=_;unfold bindC;rw[jF λv hv=>(gy.mp nd).1 (yy hv).1,if_neg hk];simp
 |p::P,w::vs,i+1,m,nd,h1,h2,hk=>by
  unfold bindC;exact jH  (gy.mp nd).2 (h1) (h2) hk
def AV(N:qZ)(vs:Oj):St:=vs.map some++bd (N.length-vs.length) none
def IL(CX:HN)(P:bu)(w:World)(K:ι)(mg:ZN)(base:Heap)(N:qZ)(qual:Str)(scope:Scope)(f:Addr)(cd:Value)(A:dq)(outer:YZ)(s:π)(H:Hp)(E:XK):Cx where
 prog:=P
 w:=w
 K:=K
 mg:=mg
 base:=base
 A:=A.deeper<|xt qual scope s.heap.objs.size f cd
 N:=N
 s₀:=s
 H₀:=H
 env:=xt qual scope s.heap.objs.size f cd
 outer:=outer
 stack:=xt qual scope s.heap.objs.size f cd::outer
 ex:=[]
 calm:=true
 fn:=λ_=>true
 pn:=[]
 xe:=λe s'=>wpAny (model P w) (A.deeper<|xt qual scope s.heap.objs.size f cd) (leaving (xt qual scope s.heap.objs.size f cd) e) (λ_ s''=>CX outer H s E e s'') (λe' s''=>CX outer H s E e' s'') s'
def jI{sc:Scope}(h:sc.names.lookup x=some .cell):∃ c,(Kt n sc.names []).lookup x=some c:=da.mp<|Fo _ n [] (.inl h)
def Jk{CX:HN}{P:bu}{w:World}{K:ι}{mg:ZN}{base:Heap}{N ps:qZ}{qual:Str}{scope:Scope}{f:Addr}{cd:Value}{A:dq}{outer:YZ}{s s1:π}{H:Hp}{E:XK}{us:qV}{vs:Oj}
  (S:FnScope N ps scope) (hd:A.handled=none) (e0:Env0 P w K mg base A outer s H) (hl:vs.length=ps.length) (r:Vals vs us)
  (x:InCallC s s.heap.objs.size (bindL (xt qual scope s.heap.objs.size f cd).kindOf (ps.zip us) λ_=>none) (Kt (s.heap.objs.size+1) scope.names []) (bindC (xt qual scope s.heap.objs.size f cd).kindOf (ps.zip us) λ_=>none) s1) :
  Inv (IL CX P w K mg base N qual scope f cd A outer s H E) [] (AV N vs) H s1:=by
 have CD:ps.length<=N.length:=by have:=congrArg lu S.pre;rw[cz]at this;lia
 refine u2 ?_ x.done;rintro h1 tk ⟨rfl,hk⟩
 have noA:∀ b:Addr,b∉(IL CX P w K mg base N qual scope f cd A outer s H E).ex:=λb z=>absurd (show b∈([])from z) (by simp);refine⟨{e0.mod,S.kind,rfl,rfl,ρ _,λy z c h1 h2=>(name_of_addr x.apart (PySem.mem_of_lookup h1) (PySem.mem_of_lookup h2)),λy hy=>?_,λy c t h=>(l8<|x.above y c<|PySem.mem_of_lookup h),λt=>hd,Around.frames_deeper e0.frames,.inr ⟨rfl,rfl⟩,λb z=>absurd z<|noA b,e0.bs,e0.bsz,λb t t=>noA b,λb z=>absurd z<|noA b,e0.funs,e0.frf},
  rfl,e0.bare,Un.kept hk,{_,x.toInCall.ns,λi y v h1 h2 h3=>?_},λy c h=>{_,x.cell y c h},e0.hok.fresh<|ρ _,λy c h=>(e0.hok.fresh<|l8<|x.above y c<|PySem.mem_of_lookup h),λp hp=>absurd (show p∈([])from hp) (by simp),e0.hok.kept hk,?_⟩
 rcases hy with hy|hy
 exact jI hy;exact absurd rfl<|S.nofree _<|PySem.mem_of_lookup hy
 have hi:i<vs.length:=by
  unfold AV at h2;by_cases hi:i<vs.length;exact hi;rw[cf (by simpa using hi),yc]at h2;split at h2<;>cases h2
 have ha:vs[i]? =some v:=by
  unfold AV at h2;rw[ba (by simpa using hi),τ]at h2;cases e:vs[i]? with
  |none=>rw[e]at h2;cases h2
  |some a=>rw[e]at h2;cases h2;rfl
 have hp:ps[i]? =some y:=by
  rw[<-S.pre,List.getElem?_take_of_lt<|hl ▸ hi];exact h1
 have ndP:ps.Nodup:=by rw[<-S.pre];exact S.nd.sublist<|Co _ _
 obtain⟨u,hu,rv⟩:=r.get ha;refine{u,rv,?_};rcases S.par y (θ hp)with k|k
 exact .inl {k,jG ndP hp hu k};obtain⟨c,e⟩:=jI  k;refine .inr {.inl k,c,e,?_}
 have q:=x.cell y c e;rw[jH ndP hp hu (by show scope.names.lookup y≠_;rw[k];decide)]at q;exact q;unfold AV
 show _=N.length;rw[af,ζ,nq]
 lia
def Jl{CX:HN}{P:bu}{w:World}{K:ι}{mg:ZN}{base:Heap}{k:Nat}{f:Addr}{name qual:Str}{params:Arguments}{body:List Stmt}{scope:Scope}{dV kV doc pm B8 ct oc:Value}{an od:Option Addr}
  {osl:Array (Option Value)} {N ps:qZ} {sp:Sp} (lk:K.lookup f=some {oc,od,.func<|xu name qual params body scope dV kV doc pm an B8 ct,osl}) (GI:zn K B8 qual=true) (S:FnScope N ps scope)
  (len:∀ vs H Q E,sp vs H Q E->vs.length=ps.length)
  (iP:∀ (A:dq) (outer:YZ) (s:π) (H:Hp) (vs:Oj) (Q:VK) (E:XK),Room k (A.deeper<|xt qual scope s.heap.objs.size f B8)->sp vs H Q E ->
   ∃ t,EU (IL CX P w K mg base N qual scope f B8 A outer s H E) body t/\t { nx:=λz H'=>Q .non H',rt:=Q } (AV N vs) H) :
  FnOk P w K mg base CX (k+1) f (xu name qual params body scope dV kV doc pm an B8 ct) ps sp:=by
 refine{len,λA outer s H args us vs Q E hr e0 hb r hsp=>?_}
 have KX:=e0.mod.kin.keeps λb o e=>(e0.bs b o e).1
 have hkind:∀ y∈ps.zip us,scope.names.lookup y.1=some _\/(scope.names.lookup y.1=some _/\((Kt (s.heap.objs.size+1) _ []).lookup y.1).isSome=true):=λ⟨n,v⟩ hy=>by
  rcases S.par n (yy hy).1 with q|q
  exact .inl q;exact .inr {q,Fo _ _ _<|.inl q}
 refine codeAny_call_function hr.depth (KX _ _ lk) rfl S.co S.gen rfl (W.codeRec_of KX GI) (hb _ _ _ _<|wpAny_newFunctionEnv_cells S.kind hkind λenv he s1 x=>?_);subst he;obtain⟨t,ht,hq⟩:=iP A _ s H vs Q E (hr.deeper _) hsp;refine{(e0.mod.nolimit.keeps λb o e=>(e0.bs b o e).1).keeps x.toInCall.keep,codeAny_func<|om (ht [] s1 _ H _ (Jk S hr.hd e0 (len _ _ _ _ hsp) r x) hq) (λfl s' hs=>?_) λe s' hs=>hs}
 have fin:∀ {σ':St} {H':Hp} {v:V} {u:Value},Inv (IL CX P w K mg base N qual scope f B8 A _ s H E) [] σ' H' s'->RelV v u->Q v H'->CE outer P w H s Q u s' :=
  λ{σ' H' v u} J rv q=>x2 v H' ⟨J.os,J.bare,J.base,J.hok,rv,q⟩
 cases fl with
 |ret u =>
  revert hs;apply u3;rintro v σ' H' ⟨J,rv,q⟩;exact fin J rv q
 |next =>
  revert hs;apply u2;rintro σ' H' ⟨J,q⟩;exact fin (v:=V.non)  J rfl q
 |brk =>
  revert hs;apply u2;rintro z z ⟨z,q⟩;exact jq q
 |cont =>
  revert hs;apply u2;rintro z z ⟨z,q⟩;exact jq q
section
variable{X:Cx}{x:Str}{p pos:Pos}{e:Expr}{es:rY}{t:TA}{id T:String}{r:Oj->Hp->VK->Prop}
def C2(r:Oj->Hp->VK->Prop)(t:TA):TE:=λσ H Q=>t σ H λvs H1=>r vs H1 Q
def OH(hc:D7 X (.builtin id) r)(hg:Gl X x)(hm:X.mg x=none)(hv:tq x=some (.builtin id))(ha:PA X (e::es) t)(hn:x≠"__name__":=by decide)(hdb:(x ==("__debug__":Str))=false:=by decide)
  (he:ay (e::es) X.env=(false,eval e X.env)::ay es X.env:=by rfl) (CD:(jb pos<|ay es X.env).any (·.1)=false:=by rfl):PE X (.Call (.Name x p) (e::es) [] pos) (C2 r t):=λAA s σ H Q I h=>sr (N6 I hg hm hv (PyProof.Rows.callWith_builtin1 (AO (ha _ _ s σ H _ I h) (by rintro us s1 ⟨vs,H1,I1,r1,q1⟩;exact hc _ s1 σ H1 vs us Q I1 r1 q1)) he CD) hn hdb)
def MX(hc:D7 X (.type T) r)(hg:Gl X x)(hm:X.mg x=none)(hv:tq x=some (.type T))(ha:PA X (e::es) t)(hn:x≠"__name__":=by decide)(hdb:(x ==("__debug__":Str))=false:=by decide)
  (he:ay (e::es) X.env=(false,eval e X.env)::ay es X.env:=by rfl) (CD:(jb pos<|ay es X.env).any (·.1)=false:=by rfl):PE X (.Call (.Name x p) (e::es) [] pos) (C2 r t):=λAA s σ H Q I h=>sr<|N6 I hg hm hv (jk (AO (ha _ _ s σ H _ I h) λus s1 ⟨vs,H1,I1,r1,q1⟩=>hc _ s1 σ H1 vs us Q I1 r1 q1) he CD) hn hdb
end
end L2
namespace HT
open PySem PyProof.Rows
section
open PySem.SeqAt
open PySem.AutoSeq1 (wpAny_loadPart')
open PySem.MeetsSeq PySem.MeetsSeq2 PySem.MeetsSeq3
end
section
variable{prog:bu}{w:World}{A:dq}{E:xP}{s:π}
def cat_tup(ht:IsTup s.heap t vs.toArray)(hb:IsTup s.heap b ws.toArray)(hv:vs≠[])
  (h1:ws=[]->Q (.ref t) s) (h2:ws≠[]->Q (.ref s.heap.objs.size) { s with heap:=s.heap.push { cls:=.type "tuple",data:=.seq (vs++ws).toArray } })
  (hsz:vs.length+ws.length<=sizeLine):wpAny (model prog w) A (iu .Add (.ref t) (.ref b)) Q E s:=by
 obtain⟨⟨cls,dd,data,sl⟩,ho,hc,n,hd⟩:=id ht;obtain⟨⟨cls2,dd2,data2,sl2⟩,ho2,hc2,n2,hd2⟩:=id hb;subst hc hd hc2 hd2
 have e:vs.toArray++ws.toArray=(vs++ws).toArray:=by simp
 by_cases hw:ws=[];exact Cr ⟨_,ho,rfl⟩ ⟨_,ho2,rfl⟩ yd Au PySem.F.slot_tuple_add PySem.F.entry_tuple_add (PySem.F.args_tuple_add_2 _ _)
  (tuple_addW1 t b _ _ n n2 dd _ sl _ (by simpa using hv) (by simp[hw])) {ho,ho2,h1 hw}
 refine Cr ⟨_,ho,rfl⟩ ⟨_,ho2,rfl⟩ yd Au PySem.F.slot_tuple_add PySem.F.entry_tuple_add (PySem.F.args_tuple_add_2 _ _)
  (tuple_addW2 t b _ _ n n2 dd _ sl _ (by simpa using hv) (by simpa using hw) (by exact hsz)) {ho,ho2,?_}
 rw[e];exact h2 hw
def sIx(n d:Nat):Option Int->Nat
 |none=>d
 |some v=>if v<0 then(v+(n:Int)).toNat else min v.toNat n
def sIx_none(n d:Nat):sIx n d none=d:=rfl
def jJ(v:Int)(n d:Nat):(if v<0 then max (v+(n:Int)) 0 else min v (n:Int))=((sIx n d (some v):Nat):Int):=by
 show(if v<0 then max _ 0 else min v n)=(((if v<0 then(v+n).toNat else min _ n)));by_cases hv:v<0;simp only[if_pos hv];lia;simp only[if_neg hv];lia
def Jm(lo hi:Option Int)(n:Nat):wu lo hi 1 (n:Int)=(((sIx n 0 lo:Nat):Int),((sIx n n hi:Nat):Int)):=by
 refine Prod.ext ?_ ?_;cases lo with
 |none=>rfl
 |some v=>exact jJ v n 0
 cases hi with
 |none=>rfl
 |some v=>exact jJ v n n
def Jp(i j:Nat):pz (i:Int) (j:Int) 1=j-i:=by
 unfold pz;split<;>omega
def jK(p:zo v o)(h:Q o s):wpAny (model prog w) A (Ih v) Q E s:=by
 cases p with
 |none=>exact slicePart_none h
 |int i t=>exact slicePart_int h
def Jq{sl:Addr}{vl vu:Value}{lo hi:Option Int}{n:Nat}{Q:Int × Int × Nat->π->Prop}(hs:s.heap.IsSliceOf sl vl vu .none)(pl:zo vl lo)(pu:zo vu hi)
  (h:Q (((sIx n 0 lo:Nat):Int),1,sIx n n hi-sIx n 0 lo) s):wpAny (model prog w) A (I_ (.ref sl) (pure (n:Int))) Q E s:=by
 obtain⟨os,hos,hcs,hds⟩:=id hs;refine δ<|δ<|jd hos hds  rfl (δ<|jd hos hds  rfl (δ<|jd hos hds  rfl (ν<|δ<|slicePart_none<|δ<|jK pl<|δ<|jK pu<|δ<|ν ?_)))
 show wpAny _ _ (match wu lo hi 1 n with|(lo,hi)=>pure (lo,(1:Int),pz lo hi 1)) _ _ s;rw[Jm lo hi n]
 show wpAny _ _ (pure _) _ _ s;rw[Jp];exact ν h
def Jv(xs:Array Value)(i k:Nat):((ξ k).filterMap λ(m:Nat)=>xs[((i:Int)+(m:Int)*1).toNat]?).toArray=((xs.toList.drop i).take k).toArray:=by
 have e:(λ(m:Nat)=>xs[(i+(m:Int)*1).toNat]?)=λm=>xs[i+m]? :=by
  funext m
  have:(i+(m:Int)*1).toNat=i+m:=by lia
  rw[this]
 have:=pick_run xs i k;rw[e];rw[List.filterMap_map]at this
 have e2:((λx=>xs[x]?) ∘ λx=>i+x)=λm=>xs[i+m]? :=rfl;rw[e2]at this;rw[this]
def getItem_tuple_cut{t sl:Addr}{BR:Array Value}{vl vu:Value}{lo hi:Option Int}{Q:xP}(ht:IsTup s.heap t BR)(hs:s.heap.IsSliceOf sl vl vu .none)(pl:zo vl lo)(pu:zo vu hi)
  (hw:¬ (sIx BR.size 0 lo=0/\sIx BR.size BR.size hi=BR.size))
  (h:Q (.ref s.heap.objs.size) { s with heap:=s.heap.push { cls:=.type "tuple",data:=.seq ((BR.toList.drop<|sIx BR.size 0 lo).take (sIx BR.size BR.size hi-sIx BR.size 0 lo)).toArray } })
  (hsz:BR.size<=sizeLine):wpAny (model prog w) A (yk (.ref t) (.ref sl)) Q E s:=by
 obtain⟨os,hos,hcs,hds⟩:=id hs
 have htake:sizeOk (.seq ((BR.toList.drop<|sIx BR.size 0 lo).take (sIx BR.size BR.size hi-sIx BR.size 0 lo)).toArray):=by
  show((BR.toList.drop _).take _).toArray.size<=sizeLine;rw[az,cz,jn,ca];omega
 unfold yk
 try with_reducible refine gx ?_
 refine δ (wpAny_sequenceKey ht.typeIs (by decide) ?_);refine δ (df  ht.typeIs ji
  (du ji ht.typeIs entry_tuple_getitem ?_<|args_tuple_getitem _ _))
 show wpAny _ _ (Ja _>>=_) _ _ s;refine δ<|tupleItemsOf_ ht<|δ<|yl ⟨os,hos,hcs⟩ (δ<|Jq hs pl pu ?_)
 have hno:¬ ((((sIx BR.size 0 lo):Int)==0&&(1:Int)==1&&(sIx BR.size BR.size hi-sIx BR.size 0 lo)==BR.size)=true):=by
  intro q;rw[cj,cj]at q
  have q1:=eq_of_beq q.1.1
  have q2:=eq_of_beq q.2;exact hw {cg q1,by omega}
 show wpAny _ _ (if(((sIx _ 0 lo):Int)==0&&1==1&&(sIx _ _ hi-sIx _ 0 lo)==BR.size)=true then _ else _) _ _ s;rw[if_neg hno,Jv]
 first
  |exact δ  _
  |exact δ  (dv (δ<|ν<|ν {_,rfl,ν h}) htake)
  |exact δ _
  |exact δ _
end
end HT
namespace L2
abbrev TO:=St->Hp->(Option Int->Hp->Prop)->Prop
def PO(X:Cx)(e:Option Expr)(t:TO):Prop :=
 ∀ (AA:rN) (s:π) (σ:St) (H:Hp) (Q:Option Int->Hp->Prop),Inv X AA σ H s->t σ H Q ->
  wpAny (model X.prog X.w) X.A (evalPart e X.env) (λu s'=>∃ o H',Inv X AA σ H' s'/\zo u o/\Q o H') X.xe s
def MY:TO:=λ_ H Q=>Q none H
def OI(t:TE):TO:=λσ H Q=>t σ H λx H1=>∃ i,x=.int i/\Q (some i) H1
section
variable{X:Cx}{e:Expr}{te:TE}{lo hi:Option Expr}{tl th:TO}{pos p2:Pos}
def Jw:PO X none MY:=λAA s σ H Q I h=>ν<|x2 _ H {I,.none,h}
def Jx(h:PE X e te):PO X (some e) (OI te):=by
 refine λAA s σ H Q I hw=>AO (h _ s σ H _ I hw) λu s1 hzz=>?_;obtain⟨x,H1,I1,r1,⟨i,rfl,q⟩⟩:=hzz;obtain⟨t,rfl⟩:=r1;exact x2 _ H1 {I1,.int i t,q}
def SlR(X:Cx)(r:V->Option Int->Option Int->Hp->VK->Prop):Prop :=
 ∀ (AA:rN) (s:π) (σ:St) (H:Hp) (x:V) (v vl vu:Value) (lo hi:Option Int) (sl:Addr) (Q:VK),Inv X AA σ H s->RelV x v->s.heap.IsSliceOf sl vl vu .none->zo vl lo->zo vu hi->r x lo hi H Q ->
  ∃ T id,Je (.type T) "__getitem__"=pure (some<|.builtin id)/\s.TypeIs v T/\wpAny (model X.prog X.w) X.A (yk v<|.ref sl) (EP X AA σ Q) X.xe s
def SlR.or(h:SlR X r)(h':SlR X r'):SlR X (λx lo hi H Q=>r x lo hi H Q\/r' x lo hi H Q):=by
 intro AA s σ H x v vl vu lo hi sl Q I rx hs pl pu q;rcases q with q|q
 exact h _ s σ H x v vl vu lo hi sl Q I rx hs pl pu q;exact h' _ s σ H x v vl vu lo hi sl Q I rx hs pl pu q
def MZ(r:V->Option Int->Option Int->Hp->VK->Prop)(te:TE)(tl th:TO):TE:=λσ H Q=>te σ H λx H1=>tl σ H1 λl H2=>th σ H2 λu H3=>r x l u H3 Q
def Jy(hr:SlR X r)(he:PE X e te)(hl:PO X lo tl)(hu:PO X hi th):PE X (.Subscript e (.Slice lo hi none p2) pos) (MZ r te tl th):=by
 refine λAA s σ H Q I h=>Jf<|AO (he _ s σ H _ I h) λv s1 ⟨x,H1,I1,r1,q1⟩=>(wpAny_Slice<|AO (hl _ s1 σ H1 _ I1 q1) λvl s2 ⟨l,H2,I2,pl,q2⟩=>AO (hu _ s2 σ H2 _ I2 q2) λvu s3 hzz=>?_);obtain⟨u,H3,I3,pu,q3⟩:=hzz
 have I4:Inv X _ σ H3 { s3 with heap:=s3.heap.push { cls:=.type "slice",data:=.fields #[vl,vu,.none] } }:=I3.kept  λb ob q=>ο _ q;refine ν<|u2 ?_<|hr _ _ σ H3 x v vl vu l u _ Q I4 r1 (Mi ..) pl pu q3;rintro T id ⟨hT,ht,hg⟩;exact tail_any  ht hT hg (by with_unfolding_all rfl)
def FM(xs:Oj)(lo hi:Option Int):Oj:=(xs.drop<|HT.sIx xs.length 0 lo).take (HT.sIx xs.length xs.length hi-HT.sIx xs.length 0 lo)
def jL(xs:Oj)(lo hi:Option Int):(FM xs lo hi).length<=xs.length:=by
 unfold FM;rw[cz,jn]
 lia
def jM(K:ι):V->Option Int->Option Int->Hp->VK->Prop:=λx lo hi H Q=>∃ a xs,x=.ref a/\SqT K H a xs /\
 ¬ (HT.sIx xs.length 0 lo=0/\HT.sIx xs.length xs.length hi=xs.length)/\∀ p,H p=none->Q (.ref p) (upd H p<|.tup<|FM xs lo hi)
def Jz:SlR X (jM X.K):=by
 intro AA s σ H x v vl vu lo hi sl Q I rx hs pl pu h;revert h;apply u2;rintro a xs ⟨rfl,hx,hw,q⟩;subst rx;obtain⟨AJ,r,ht,hz⟩:=I.tuple hx
 have CC:AJ.toArray.size=xs.length:=r.length.symm;refine x2 _ _ {ji.lookup,ht.typeIs,(HT.getItem_tuple_cut ht hs pl pu (by rw[CC];exact hw) ?_ (by rw[CC];exact hz))};rw[CC];exact x2 (.ref _) _ {I.laid  (o:=.tup _) (λb ob q=>ο _ q) (ρ _) {ψ (jL xs lo hi) hz,_,(r.drop _).take _,Ku _ _},rfl,q _<|I.hok.fresh<|ρ _}
def VJ(K:ι):R2:=λx y H Q=>∃ a b xs ys,x=.ref a/\y=.ref b/\SqT K H a xs/\SqT K H b ys/\xs≠[]/\xs.length+ys.length<=sizeLine /\
 (ys=[]->Q (.ref a) H)/\(ys≠[]->∀ p,H p=none->Q (.ref p) (upd H p<|.tup<|xs++ys))
def Vals.nil_iff(r:Vals xs us):us=[]↔xs=[]:=by
 cases r with
 |nil=>simp
 |cons _ _=>simp
def Kb:BW X (iu .Add) (VJ X.K):=by
 intro AA s σ H x y v u Q I rx ry h;revert h;apply u4;rintro a b xs ys ⟨rfl,rfl,ha,hb,hx,hz,q1,q2⟩;subst rx;obtain⟨AJ,r1,p1,t⟩:=I.tuple ha;subst ry;obtain⟨LP,r2,p2,t⟩:=I.tuple hb;exact HT.cat_tup p1 p2 (λz=>hx<|r1.nil_iff.mp z) (λz=>x2 (.ref a) H {I,rfl,q1<|r2.nil_iff.mp z}) (λz=>(x2 (.ref _) _ {I.laid  (o:=.tup _) (λb ob q=>ο _ q) (ρ _) {by rw[af];exact hz,_,r1.append r2,Ku _ _},rfl,q2 (λw=>z<|r2.nil_iff.mpr w) _ (I.hok.fresh<|ρ _)})) (by rw[<-r1.length,<-r2.length];exact hz)
end
def HP(n:Nat)(i:Int):Option Nat:=if 0<=i then(if i<n then some i.toNat else none)else if -(n:Int)<=i then some (i+n).toNat else none
def LV{α :Type}(xs:List α)(i:Int):Option α :=(HP xs.length i).bind λj=>xs[j]?
def jN(h:HP n i=some j):seqIndex? i n=some j/\j<n/\ -(n:Int)<=i/\i<n:=by
 unfold HP at h;by_cases h0:0<=i;rw[if_pos h0]at h;by_cases h1:i<n;rw[if_pos h1]at h
 have e:=μ h;exact{by rw[Ic h0 h1,e],by omega,by omega,h1};rw[if_neg h1]at h;cases h;rw[if_neg h0]at h;by_cases h1: -n<=i;rw[if_pos h1]at h
 have e:=μ h;exact{by rw[Cs (by omega) h1,e],by omega,h1,by omega};rw[if_neg h1]at h;cases h
def VL{α :Type}{xs:List α}{i:Int}{v: α}(h:LV xs i=some v):∃ j,seqIndex? i xs.length=some j/\xs[j]? =some v/\j<xs.length/\ -(xs.length:Int)<=i/\i<xs.length:=by
 unfold LV at h;cases e:HP _ i with
 |none=>rw[e]at h;cases h
 |some j =>
  rw[e]at h;obtain⟨h1,h2,h3,h4⟩:=jN e;exact⟨j,h1,h,h2,h3,h4⟩
def VM{α :Type}{xs:List α}{j:Nat}{v: α}(h:xs[j]? =some v):LV xs (j:Int)=some v:=by
 have e:HP xs.length j=some j:=by
  unfold HP;rw[if_pos (i0),if_pos<|dr.mpr<|(ε.mp h).1];simp
 unfold LV;rw[e];exact h
def Kc(b:Expr):Prop:=∀ o i,zp b false o i=operate [o,i] (yk o i)
def IxR(X:Cx)(r:R2):Prop :=
 ∀ (value slice:Expr) (AA:rN) (s:π) (σ:St) (H:Hp) (x y:V) (v u:Value) (Q:VK),Inv X AA σ H s->RelV x v->RelV y u->r x y H Q ->
  zp slice false v u=operate [v,u] (yk v u)->wpAny (model X.prog X.w) X.A (subscriptTail value slice v u) (EP X AA σ Q) X.xe s
def jO(X:Cx)(id:String)(r:V->Oj->Hp->VK->Prop):Prop :=
 ∀ (AA:rN) (s:π) (σ:St) (H:Hp) (x:V) (xs:Oj) (v:Value) (us:qV) (Q:VK),Inv X AA σ H s->RelV x v->Vals xs us->r x xs H Q ->
  wpAny (model X.prog X.w) X.A (call (.builtin id) (v::us)) (EP X AA σ Q) X.xe s
section
variable{X:Cx}{a b:Expr}{ta tb:TE}{pos:Pos}
def IxR.or(h:IxR X r)(h':IxR X r'):IxR X (λx y H Q=>r x y H Q\/r' x y H Q):=by
 intro value slice AA s σ H x y v u Q I rx ry q hs;rcases q with q|q
 exact h _ _ _ s σ H x y v u Q I rx ry q hs;exact h' _ _ _ s σ H x y v u Q I rx ry q hs
def jP(hr:IxR X r)(ha:PE X a ta)(hb:PE X b tb)(hs:Kc b):PE X (.Subscript a b pos) (AF r ta tb):=λAA s σ H Q I h=>Jf<|VB ha hb I h λv u s2 x y H2 I2 rx ry q=>hr a b _ s2 σ H2 x y v u Q I2 rx ry q<|hs _ _
def jQ(K:ι):R2:=λx y H Q=>∃ p xs i v,x=.ref p/\y=.int i/\SqL K H p xs/\LV xs i=some v/\Q v H
def jR(K:ι):R2:=λx y H Q=>∃ p xs i v,x=.ref p/\y=.int i/\SqT K H p xs/\LV xs i=some v/\Q v H
def jS:R2:=λx y H Q=>∃ z i c,x=.str z/\y=.int i/\z.length<=sizeLine/\LV z.cps.toList i=some c/\Q (.str {#[c]}) H
def Kd:IxR X (jQ X.K):=by
 intro value slice AA s σ H x y v u Q I rx ry h hs;revert h;apply u4;rintro p xs i z ⟨rfl,rfl,hq,he,q⟩;subst rx;obtain⟨AJ,r,pl,hz⟩:=I.list hq;obtain⟨j,h1,h2,h3,h4,h5⟩:=VL he;obtain⟨t,rfl⟩:=ry;obtain⟨w,ew,rw'⟩:=r.get h2
 have hl:=r.length
 have hn:=OC
 have fin:EP X _ σ Q w s:=x2 z H ⟨I,rw',q⟩;by_cases h0:0<=i
 have hj:i.toNat=j:=by
  rw[Ic h0 h5]at h1;exact μ h1
 exact item_listR pl.isList h0 (by omega) (by rw[hj];simpa using ew) fin hs
 have hj:(i+AJ.toArray.size).toNat=j:=by
  rw[Cs (by omega) h4]at h1;rw[az,<-hl];exact μ h1
 exact ym  pl.isList.typeIs Ct.lookup
  (wpAny_getItem_list_neg  pl.isList (by omega) (by rw[az]<;>exact hl ▸ h4) (by lia) (by rw[hj];simpa using ew) ⟨rfl,fin⟩) hs
def Kg:IxR X (jR X.K):=by
 intro value slice AA s σ H x y v u Q I rx ry h hs;revert h;apply u4;rintro p xs i z ⟨rfl,rfl,hq,he,q⟩;subst rx;obtain⟨AJ,r,pl,hz⟩:=I.tuple hq;obtain⟨j,h1,h2,h3,h4,h5⟩:=VL he;obtain⟨t,rfl⟩:=ry;obtain⟨w,ew,rw'⟩:=r.get h2
 have hn:=OC;exact ym  pl.typeIs ji.lookup
  (getItem_tuple   pl (by omega) (by omega) (by rw[az,<-r.length];exact h1) (by simpa using ew) {rfl,(x2 z H ⟨I,rw',q⟩)}) hs
def Kh:IxR X jS:=by
 intro value slice AA s σ H x y v u Q I rx ry h hs;revert h;apply u3;rintro z i c ⟨rfl,rfl,hz,he,q⟩;obtain⟨t,rfl⟩:=rx;obtain⟨t',rfl⟩:=ry;obtain⟨j,h1,h2,h3,h4,h5⟩:=VL he
 have hl:z.cps.toList.length=z.length:=by simp[Ji]
 rw[hl]at h1 h4 h5
 have hn:=OC;exact tail_any (Jo s z t) slot_str_getitem.lookup (getItem_str  (by
  rw[(decide_eq_false (by omega)),(decide_eq_false (by omega)),qz]) (by rw[h1];simpa using h2) (x2 (.str _) H {I.tok _,⟨_,rfl⟩,q})) hs
def jT(K:ι):R2:=λx y H Q=>jQ K x y H Q\/jR K x y H Q\/jS x y H Q
def Kj:IxR X (jT X.K):=Kd.or<|Kg.or Kh
def Kk(AJ:qV)(n j:Nat)(u:Value):ma (·.setIfInBounds j u) { cls:=.type "list",data:=.seq AJ.toArray n }={ cls:=.type "list",data:=.seq (AJ.set j u).toArray n }:=by
 simp[ma]
def Inv.lst{AA:rN}{σ:St}{H:Hp}{s:π}{p:Addr}{xs:Oj}(I:Inv X AA σ H s)(h:H p=some (.lst xs)) :
  ∃ (AJ:qV) (n:Nat),Vals xs AJ/\s.heap.get? p=some { cls:=.type "list",data:=.seq AJ.toArray n }/\xs.length<=sizeLine:=by
 obtain⟨z,AJ,n,r,e⟩:=I.hok p _ h;exact x2 _ n ⟨r,e,z⟩
def Inv.lstUpd{s:π}{xs ys:Oj}{AJ its':qV}{f:Obj->Obj}(I:Inv X AA σ H s)(h:H p=some (.lst xs))
  (ho:s.heap.get? p=some { cls:=.type "list",data:=.seq AJ.toArray n }) (hf:f { cls:=.type "list",data:=.seq AJ.toArray n }={ cls:=.type "list",data:=.seq its'.toArray n' }) (r:Vals ys its') (hz:ys.length<=sizeLine) (t:Nat) :
  Inv X AA σ (upd H p<|.lst ys) { s with heap:=s.heap.update p f,toks:=t }:=by
 have e:(s.heap.update p f).get? p=some { cls:=.type "list",data:=.seq its'.toArray n' }:=by
  rw[dw f ho (by rw[hf]<;>rfl),hf]
 exact I.write   (by rw[h];trivial) (.inl rfl) (λb u hb q=>(de _ _<|fg hb).trans q) ⟨_,e⟩ ({hz,x2 _ n' ⟨r,e⟩})
def jU:V->V->V->Hp->(Hp->Prop)->Prop:=λo i v H Q=>∃ p xs k j,o=.ref p/\i=.int k/\H p=some (.lst xs)/\HP xs.length k=some j/\Q (upd H p<|.lst<|xs.set j v)
def Kl:U8 X jU:=by
 intro AA s σ H o i v ov iv u Q I ro ri rv h;revert h;apply u4;rintro p xs k j ⟨rfl,rfl,hp,hj,q⟩;subst ro;obtain⟨t,rfl⟩:=ri;refine u2 ?_<|I.lst hp;rintro AJ n ⟨r,ho,hz⟩;obtain⟨h1,h2,h3,h4⟩:=jN hj
 have hl:=r.length
 have hn:=OC
 have I':Inv X _ σ _ _ :=
  I.lstUpd hp ho (Kk _ n j u) (r.set rv j) (by rw[jw];exact hz) s.toks
 by_cases h0:0<=k
 have hk:k.toNat=j:=by
  rw[Ic h0 h4]at h1;exact μ h1
 exact W.ki_setAt ho h0 (by omega) (by rw[az,<-hl];exact h4) (by rw[hk];exact⟨_,I',q⟩)
 have hk:(k+AJ.toArray.size).toNat=j:=by
  rw[Cs (by omega) h3]at h1;rw[az,<-hl];exact μ h1
 exact W.ki_setBack ho (by omega) (by rw[az,<-hl];exact h3) (by lia) (by rw[hk];exact⟨_,I',q⟩)
def Km(lo hi:Option Int)(n:Nat):(tj lo hi none n).1=((HT.sIx n 0 lo:Nat):Int)/\(tj lo hi none n).2.1=((HT.sIx n n hi:Nat):Int)/\(tj lo hi none n).2.2=1:=by
 refine{?_,?_,rfl};cases lo with
 |none=>simp[tj,HT.sIx]
 |some i =>
  simp only[tj,HT.sIx,Fs];by_cases h:i<0;simp only[h,if_true]<;>omega;simp only[h,if_false]<;>omega
 cases hi with
 |none=>simp[tj,HT.sIx]
 |some i =>
  simp only[tj,HT.sIx,Fs];by_cases h:i<0;simp only[h,if_true]<;>omega;simp only[h,if_false]<;>omega
def Kq(AJ:qV)(lo hi:Option Int):slicePick AJ.toArray lo hi none=((AJ.drop<|HT.sIx AJ.length 0 lo).take (HT.sIx AJ.length AJ.length hi-HT.sIx AJ.length 0 lo)).toArray:=by
 obtain⟨h1,h2,h3⟩:=Km lo hi _;unfold slicePick;rw[h1,h2,h3];simp only[sliceRange_one,pick_run]<;>rfl
def jV(K:ι):V->Option Int->Option Int->Hp->VK->Prop:=λx lo hi H Q=>∃ a xs,x=.ref a/\SqL K H a xs/\∀ p,H p=none->Q (.ref p) (upd H p<|.lst<|FM xs lo hi)
def Kv:SlR X (jV X.K):=by
 intro AA s σ H x v vl vu lo hi sl Q I rx hs pl pu h;revert h;apply u2;rintro a xs ⟨rfl,hx,q⟩;subst rx;obtain⟨AJ,r,ht,hz⟩:=I.list hx
 have CC:=r.length;refine x2 _ _ {Ct.lookup,ht.isList.typeIs,(wpAny_getItem_list_slice ht.isList hs pl pu .none (by simp) ?_ (by rw[az]<;>exact CC ▸ hz))};rw[Kq,<-CC];exact x2 (.ref _) _ {I.laid  (o:=.lst _) (λb ob q=>ο _ q) (ρ _) ({ψ (jL xs lo hi) hz,x2 _ 0 {(r.drop _).take _,aj _ rfl}}),rfl,q _<|I.hok.fresh<|ρ _}
def HQ:V->Bool
 |.non=>true
 |.bl _=>true
 |.int _=>true
 |.str _=>true
 |_=>false
def F5:V->V->Bool
 |.non,.non=>true
 |.bl a,.bl b=>a==b
 |.bl a,.int b=>(if a then 1 else 0)==b
 |.int a,.bl b=>a ==(if b then 1 else 0)
 |.int a,.int b=>a==b
 |.str a,.str b=>a==b
 |_,_=>false
def Kw(ry:RelV y u)(rx:RelV x v)(fy:HQ y=true)(fx:HQ x=true):Mn A s u v (F5 y x):=by
 cases y with
 |non =>
  cases ry;cases x with
  |non=>subst rx;exact SeqAt.EqAt.same _
  |bl b=>subst rx;exact SeqAt.EqAt.none_bool b
  |int b=>obtain⟨t,rfl⟩:=rx;exact SeqAt.EqAt.none_int b t
  |str b=>obtain⟨t,rfl⟩:=rx;exact SeqAt.EqAt.none_str b t
  |_=>exact absurd (fx) aw
 |bl a =>
  subst ry;cases x with
  |non=>subst rx;exact SeqAt.EqAt.bool_none a
  |bl b=>subst rx;exact SeqAt.EqAt.bool_bool a b
  |int b=>obtain⟨t,rfl⟩:=rx;exact SeqAt.EqAt.bool_int a b t
  |str b=>obtain⟨t,rfl⟩:=rx;exact SeqAt.EqAt.bool_str a b t
  |_=>exact absurd (show false=true from fx) aw
 |int a =>
  obtain⟨t',rfl⟩:=ry;cases x with
  |non=>cases rx;exact SeqAt.EqAt.int_none a t'
  |bl b=>cases rx;exact SeqAt.EqAt.int_bool a t' b
  |int b=>obtain⟨t,rfl⟩:=rx;exact SeqAt.EqAt.int_int a t' b t
  |str b=>obtain⟨t,rfl⟩:=rx;exact Bi a t' b t
  |_=>exact absurd (show false=true from fx) aw
 |str a =>
  obtain⟨t',rfl⟩:=ry;cases x with
  |non=>cases rx;exact SeqAt.EqAt.str_none a t'
  |bl b=>cases rx;exact SeqAt.EqAt.str_bool a t' b
  |int b=>obtain⟨t,rfl⟩:=rx;exact Bn a t' b t
  |str b=>obtain⟨t,rfl⟩:=rx;exact SeqAt.EqAt.str_str a t' b t
  |_=>exact absurd (show false=true from fx) aw
 |_=>exact absurd (show false=true from fy) aw
def LW(x:V)(u:Value):Bool:=match u with
 |.none=>F5 .non x
 |.bool b=>F5 (.bl b) x
 |.int i _=>F5 (.int i) x
 |.str z _=>F5 (.str z) x
 |_=>false
def jW(r:RelV y u)(f:HQ y=true):LW x u=F5 y x:=by
 cases y with
 |non=>subst r;rfl
 |bl b=>subst r;rfl
 |int i=>obtain⟨t,rfl⟩:=r;rfl
 |str z=>obtain⟨t,rfl⟩:=r;rfl
 |_=>exact absurd (f) aw
def OJ:∀ {xs:Oj} {us:qV},Vals xs us->xs.all HQ=true->us.any (LW x)=xs.any λy=>F5 y x
 |_,_,.nil,_=>rfl
 |y::xs,u::us,.cons r t,f=>by
  rw[u_,cj]at f;rw[nj,nj,jW r f.1,OJ t f.2]
def OK(rx:RelV x v)(fx:HQ x=true):∀ {xs:Oj} {us:qV},Vals xs us->xs.all HQ=true->∀ u∈us,Mn A s u v (LW x u)
 |_,_,.nil,_=>λu hu=>by cases hu
 |y::xs,u::us,.cons r t,f=>λu' hu=>by
  rw[u_,cj]at f;rcases ax.mp hu with rfl|hu
  rw[jW r f.1];exact Kw r rx f.1 fx;exact OK rx fx t f.2 u' hu
def IM(x:V)(xs:Oj):Bool:=xs.any λy=>F5 y x
def RS(K:ι)(neg:Bool):R2:=λx y H Q=>∃ p xs,y=.ref p/\(SqL K H p xs\/SqT K H p xs)/\HQ x=true/\xs.all HQ=true/\Q (.bl<|if neg then !IM x xs else IM x xs) H
def Kx:BW X (dt .In) (RS X.K false):=by
 intro AA s σ H x y v u Q I rx ry h;revert h;apply u2;rintro p xs ⟨rfl,hq,fx,fs,q⟩;subst ry;rcases hq with hq|hq
 obtain⟨AJ,r,pl,hz⟩:=I.list hq;refine SeqAt.in_listAt _ pl.isList (λw hw=>OK rx fx r fs w (by simpa using hw)) (x2 (.bl _) H {I,rfl,?_});rw[show AJ.toArray.any _=AJ.any (LW x) by simp,OJ r fs];exact q;obtain⟨AJ,r,pl,hz⟩:=I.tuple hq;refine Ft _ pl (λw hw=>OK rx fx r fs w (by simpa using hw)) (x2 (.bl _) H {I,rfl,?_});rw[show AJ.toArray.any _=AJ.any (LW x) by simp,OJ r fs];exact q
def Ky:BW X (dt .NotIn) (RS X.K true):=by
 intro AA s σ H x y v u Q I rx ry h;revert h;apply u2;rintro p xs ⟨rfl,hq,fx,fs,q⟩;subst ry;rcases hq with hq|hq
 obtain⟨AJ,r,pl,hz⟩:=I.list hq;refine SeqAt.notIn_listAt _ pl.isList (λw hw=>OK rx fx r fs w (by simpa using hw)) (x2 (.bl _) H {I,rfl,?_});rw[show AJ.toArray.any _=AJ.any (LW x) by simp,OJ r fs];exact q;obtain⟨AJ,r,pl,hz⟩:=I.tuple hq;refine SeqAt.notIn_tupleAt _ pl (λw hw=>OK rx fx r fs w (by simpa using hw)) (x2 (.bl _) H {I,rfl,?_});rw[show AJ.toArray.any _=AJ.any (LW x) by simp,OJ r fs];exact q
def Kz:D7 X (.type "list") (λxs H Q=>∃ p ys,xs=[.ref p]/\(SqL X.K H p ys\/SqT X.K H p ys)/\∀ l,H l=none->Q (.ref l) (upd H l<|.lst ys)):=by
 intro AA s σ H xs us Q I r h;revert h;apply u2;rintro p ys ⟨rfl,hq,q⟩
 have fin:∀ (AJ:List _),Vals ys _->ys.length<=sizeLine->∀ (h':Heap) (c':Nat),(∀ b o',s.heap.get? b=some o'->h'.get? b=some o') ->
   h'.get? _=some _->EP X _ σ Q _ { s with heap:=h' }:=λAJ r' hz h' c' kp e =>
  {.ref _,_,I.laid  kp (ρ _) (show ObjOk _ _ _ h' _ (.lst ys)from{hz,x2 AJ c' ⟨r',e⟩}),rfl,q _<|I.hok.fresh<|ρ _}
 obtain⟨u,rfl,rfl⟩:=FZ r;rcases hq with hq|hq
 obtain⟨AJ,r',pl,hz⟩:=I.list hq;obtain⟨o,ho,hc,n,hd⟩:=pl.isList;exact call_list_seq p (.inl rfl) ho hc hd (λh' c' kp e=>fin _ r' hz h' c' kp e) (by simp only[az]<;>exact r'.length ▸ hz);obtain⟨AJ,r',⟨o,ho,hc,n,hd⟩,hz⟩:=I.tuple hq;exact call_list_seq p (.inr rfl) ho hc hd (λh' c' kp e=>fin _ r' hz h' c' kp e) (by simp only[az]<;>exact r'.length ▸ hz)
def Lb:D7 X (.type "tuple") (λxs H Q=>∃ p ys,xs=[.ref p]/\((SqL X.K H p ys/\∀ l,H l=none->Q (.ref l) (upd H l<|.tup ys))\/(SqT X.K H p ys/\Q (.ref p) H))):=by
 intro AA s σ H xs us Q I r h;revert h;apply u2;rintro p ys ⟨rfl,h⟩;obtain⟨u,rfl,rfl⟩:=FZ r;rcases h with⟨hq,q⟩|⟨hq,q⟩
 obtain⟨AJ,r',pl,hz⟩:=I.list hq;refine call_tuple_list pl.isList (λh' kp=>?_) (by simp only[az]<;>exact r'.length ▸ hz)
 have I1:Inv X _ σ H { s with heap:=h' }:=I.kept  kp
 have I2:Inv X _ σ (upd H _<|.tup ys) { s with heap:=h'.push _ } :=
  I1.laid  (λb o e=>ο _ e) (ρ _) ({hz,_,r',Ku _ _})
 exact x2 (.ref _) _ {I2,rfl,q _<|I1.hok.fresh<|ρ _};obtain⟨AJ,r',pl,hz⟩:=I.tuple hq;exact call_tuple_same pl<|x2 (.ref p) H ⟨I,rfl,q⟩
def VN(K:ι)(T:String)(x:V)(H:Hp):Prop:=match x with
 |.str _=>T="str"
 |.int _=>T="int"
 |.ref p=>(T="list"/\∃ xs,SqL K H p xs)\/(T="tuple"/\∃ o,K.lookup p=some o/\o.cls=.type "tuple"/\o.dict=none) ∨
   (T="dict"/\((∃ kvs,H p=some (.dK kvs))\/∃ kvs,H p=some (.dT kvs)))\/(T="set"/\∃ S n,H p=some (.set S n))
 |_=>False
def Lc(I:Inv X AA σ H s)(r:RelV x v)(ty:VN X.K T x H) :
  s.TypeIs v T/\∀ a,v=.ref a->∃ ob,s.heap.get? a=some ob/\ob.dict=none:=by
 cases x with
 |str z =>
  obtain⟨t,rfl⟩:=r;cases (ty);exact{Jo s z t,λ_ e=>nomatch e}
 |int i =>
  obtain⟨t,rfl⟩:=r;cases (ty);exact{yn s i t,λ_ e=>nomatch e}
 |ref p =>
  subst r;rcases ty with⟨rfl,xs,hq⟩|⟨rfl,o,hk,hc,hd⟩|⟨rfl,hk⟩|⟨rfl,S,n,hk⟩
  obtain⟨AJ,_,pl,_⟩:=I.list hq;refine{pl.isList.typeIs,λa e=>?_};cases e;revert pl;apply u2;rintro o n ⟨e,c,hd,_⟩;exact⟨o,e,hd⟩;refine{{o,I.kIn p o hk,hc},λa e=>?_};cases e;exact{o,I.kIn _ o hk,hd}
  have z:∃ o,s.heap.get? p=some o/\o.ExactDict:=by
   rcases hk with⟨kvs,hk⟩|⟨kvs,hk⟩
   obtain⟨_,_,_,_,o,_,_,e,ex,_⟩:=I.hok p _ hk;exact⟨o,e,ex⟩;obtain⟨_,_,_,_,o,_,_,e,ex,_⟩:=I.hok p _ hk;exact⟨o,e,ex⟩
  obtain⟨o,e,ex⟩:=z;refine{⟨o,e,ex.1⟩,λa e2=>?_};cases e2;exact⟨o,e,ex.2.1⟩;refine u4 ?_<|I.hok p _ hk;rintro o _ _ _ ⟨e,ex,_⟩;refine{⟨o,e,ex.1⟩,λa e2=>?_};cases e2;exact⟨o,e,ex.2.1⟩
 |_=>exact jq ty
def EB(K:ι)(T:String)(r:V->Oj->Hp->VK->Prop)(to:TE)(t:TA):TE:=λσ H Q=>to σ H λx H1=>VN K T x H1/\t σ H1 λxs H2=>r x xs H2 Q
variable{o e:Expr}{es:rY}{to:TE}{t:TA}{name:Str}{CM DB:Pos}{T id:String}{r:V->Oj->Hp->VK->Prop}
def RU(pa:PlainAttrs T)(slot:Slot T name id)(hty:typeOf (.builtin id)=pure (.type "method_descriptor"))(hm:jO X id r)(ho:PE X o to)(ha:PA X (e::es) t)
  (hbase:uz o name X.env (eval o X.env)=eval o X.env:=by rfl)
  (hfew:((jb DB<|ay (e::es) X.env).all (λx=> !x.1)&&(vb DB<|lq [] X.env).all (λx=>x.1.isSome)
   && decide ((e::es).length+([]:List Ae).length+(if([]:List Ae).isEmpty then 0 else 1)<30))=true:=by rfl)
  (hline:(CM.endLine==DB.line)=true:=by rfl) (hs:ay (e::es) X.env=(false,eval e X.env)::ay es X.env:=by rfl) (hplain:(jb DB<|ay es X.env).any (·.1)=false:=by rfl) :
  PE X (.Call (.Attribute o name CM) (e::es) [] DB) (EB X.K T r to t):=by
 refine λAA s σ H Q I h=>wpAny_Call_method_late hbase hfew hline rfl<|AO (ho _ s σ H _ I h) λv s1 hzz=>?_;obtain⟨x,H1,I1,r1,ty,q1⟩:=hzz;obtain⟨h1,h2⟩:=Lc I1 r1 ty
 have hA:=ha DB _ s1 σ H1 _ I1 q1;refine x2 T id {pa,slot,hty,h1,h2,?_};rw[hs]at hA ⊢;exact me (by show(false||(jb _ _).any _)=false;rw[hplain]<;>rfl) (jz (AO hA (by rintro us s2 ⟨vs,H2,I2,r2,q2⟩;exact hm _ s2 σ H2 x vs v us Q I2 r1 r2 q2)))
end
def RV(X:Cx)(id:String)(r:V->Oj->Hp->VK->Prop):Prop :=
 ∀ (AA:rN) (s:π) (σ:St) (H:Hp) (x:V) (xs:Oj) (v:Value) (us:qV) (Q:VK),Inv X AA σ H s->RelV x v->Vals xs us->r x xs H Q ->
  wpAny (model X.prog X.w) X.A (call (.builtin id) (v::us)) (EP X AA σ Q) X.xe s
def Vals.one:∀ {x:V} {us:qV},Vals [x] us->∃ u,us=[u]/\RelV x u
 |_,_,.cons r .nil=>⟨_,rfl,r⟩
def Vals.eraseIdx:∀ {xs:Oj} {us:qV} (i:Nat),Vals xs us->Vals (xs.eraseIdx i) (us.eraseIdx i)
 |_,_,_,.nil=>.nil
 |_,_,0,.cons _ t=>t
 |_,_,i+1,.cons r t=>.cons r<|Vals.eraseIdx i t
def Vals.rep(h:Vals xs us):∀ k:Nat,Vals (bd k xs).flatten (bd k us).flatten
 |0=>.nil
 |k+1=>Vals.append h<|Vals.rep h k
def RW(AJ:qV):∀ (k:Nat) (BN:qV),
  yo (λx1 x2=>x1++x2) BN.toArray (bd k AJ.toArray)=(BN++(bd k AJ).flatten).toArray
 |0,BN=>by simp
 |k+1,BN=>by
  have e:BN.toArray++AJ.toArray=(BN++AJ).toArray:=by simp
  have e2:(BN++AJ)++(bd k AJ).flatten=BN++(bd (k+1) AJ).flatten:=by
   rw[kz,ii,gr]
  rw[<-e2,<-RW _ k _,<-e,kz,fj]
section
variable{X:Cx}{AA:rN}{σ:St}{H:Hp}{s:π}{l b:Addr}{xs ys zs:Oj}
def Inv.lset{AJ its':qV}{n:Nat}{f:Array Value->Array Value}{t':Nat}(I:Inv X AA σ H s)(hH:H l=some (.lst xs))
  (e:s.heap.get? l=some { cls:=.type "list",data:=.seq AJ.toArray n }) (hf:f AJ.toArray=its'.toArray) (hv:Vals ys its') (hz:ys.length<=sizeLine) :
  Inv X AA σ (upd H l<|.lst ys) { s with heap:=s.heap.update l<|ma f,toks:=t' }:=by
 have q:=PySem.IsL.update e f;rw[hf]at q;exact I.write   (by rw[hH];exact trivial) (.inl rfl) (λb' u hb hu=>(de _ _<|fg hb).trans hu) ⟨_,q⟩ ({hz,x2 _ _ ⟨hv,q⟩})
def Inv.lnew(I:Inv X AA σ H s)(hv:Vals ys AJ)(hz:ys.length<=sizeLine) :
  Inv X AA σ (upd H s.heap.objs.size<|.lst ys) { s with heap:=s.heap.push { cls:=.type "list",data:=.seq AJ.toArray },toks:=t' } :=
 I.laid (λz z q=>ο _ q) (ρ _) {hz,x2 _ 0 {hv,aj _ rfl}}
def Inv.fresh(I:Inv X AA σ H s):H s.heap.objs.size=none:=I.hok.fresh<|ρ _
def Inv.lstM(I:Inv X AA σ H s)(hH:H l=some (.lst xs)):xs.length<=sizeLine/\∃ (AJ:qV) (n:Nat),Vals xs AJ/\xs.length=AJ.length/\s.heap.get? l=some { cls:=.type "list",data:=.seq AJ.toArray n }:=by
 obtain⟨z,AJ,n,r,e⟩:=I.hok l _ hH;exact{z,x2 _ n ⟨r,r.length,e⟩}
def jX{n:Nat}(h:n<=sizeLine):kf n=false:=decide_eq_false<|Nat.not_lt.mpr h
end
section
variable{X:Cx}
def jY:V->Oj->Hp->VK->Prop:=λx vs H Q=>∃ l xs y,x=.ref l/\vs=[y]/\H l=some (.lst xs)/\xs.length<sizeLine/\Q .non (upd H l<|.lst<|xs++[y])
def Ld:RV X "list.append" jY:=by
 intro AA s σ H x vs v us Q I rx rv h;revert h;apply u3;rintro l xs y ⟨rfl,rfl,hH,hz,q⟩;subst rx;obtain⟨u,rfl,ru⟩:=rv.one;obtain⟨z,AJ,n,r,hl,e⟩:=I.lstM hH;refine ss Br ⟨_,e,rfl⟩ An (zq _ _) (PySem.list_append l _ n u<|oB (cr (bc hl.symm) hz) rfl) {e,(x2 (.non) _ {I.lset  hH e (by simp) (r.append<|.cons ru .nil) ?_,rfl,q})};rw[af];exact hz
def VO:R2:=λx y H Q=>∃ l b xs zs,x=.ref l/\y=.ref b/\H l=some (.lst xs)/\H b=some (.lst zs)/\xs.length+zs.length<=sizeLine/\∀ p,H p=none->Q (.ref p) (upd H p<|.lst<|xs++zs)
def Lg:BW X (iu .Add) VO:=by
 intro AA s σ H x y v u Q I rx ry h;revert h;apply u4;rintro l b xs zs ⟨rfl,rfl,hH,hB,hz,q⟩;subst rx;obtain⟨z,AJ,n,r,hl,e⟩:=I.lstM hH;subst ry;obtain⟨z2,LP,n2,r2,CY,e2⟩:=I.lstM hB
 have ea:AJ.toArray++LP.toArray=(AJ++LP).toArray:=by simp
 refine PySem.P.add_list e e2 ?_ (by rw[az,az];exact hl ▸ CY ▸ hz);rw[ea];exact x2 (.ref _) _ {I.lnew  (r.append r2) (by rw[af];exact hz),rfl,q _ I.fresh}
def VP:R2:=λx y H Q=>∃ l k xs,x=.ref l/\y=.int k/\H l=some (.lst xs)/\ -(2^63)<=k/\k<2^63/\xs.length*k.toNat<=sizeLine /\
 ∀ p,H p=none->Q (.ref p) (upd H p<|.lst (bd k.toNat xs).flatten)
def jZ{α :Type}(xs:List α)(k:Nat):(bd k xs).flatten.length=k*xs.length:=by
 induction k with
 |zero=>simp
 |succ k ih=>rw[kz,ii,af,ih,mf,ua]
def Lh:BW X (iu .Mult) VP:=by
 intro AA s σ H x y v u Q I rx ry h;revert h;apply u3;rintro l k xs ⟨rfl,rfl,hH,h1,h2,hz,q⟩;subst rx;obtain⟨t,rfl⟩:=ry;obtain⟨z,AJ,n,r,hl,e⟩:=I.lstM hH
 have CC:AJ.toArray.size*k.toNat<=sizeLine:=by rw[az,<-hl];exact hz
 have hcap:¬ AJ.toArray.size*k.toNat >(2^63-1)/8:=by
  have:sizeLine<=(2^63-1)/8:=by decide
  lia
 have hfit:¬ (!Builtin.List.listFitsIndex k)=true:=by
  rw[fitsIndex_both h1 h2];exact aw
 have hlong:¬ kf (AJ.toArray.size*k.toNat)=true:=by
  rw[jX CC];exact aw
 have hnew:yo (λx1 x2=>x1++x2) #[] (bd (if AJ.toArray.isEmpty=true then 0 else k.toNat) AJ.toArray)=(bd k.toNat AJ).flatten.toArray:=by
  have f0:=λm=>by
   have:=RW AJ m [];rw[rg]at this;exact this
  rw[f0];cases AJ with
  |nil=>simp
  |cons a r'=>rw[if_neg (by simp)]
 refine wv   (by decide) ⟨_,e,rfl⟩ (λs'=>yn s' k t) noFill_list_mul Ii vh repeat_list Fu.lookup
  (ss vh (yn s k t) F_ (Cu _ _) (int___rmul___int_list k t l _ n)
   {e,rfl,⟨_,e,rfl⟩,ss F.slot_list_mul ⟨_,e,rfl⟩ F.entry_list_mul (F.args_list_mul_2 _ _) (AutoListH.list___mul___list_int_3 l _ n k t hfit hcap hlong) {e,?_}})
 rw[hnew];exact x2 (.ref _) _ {I.lnew  (r.rep _) (by rw[jZ,dh];exact hz),rfl,q _ I.fresh}
end
section
variable{prog:bu}{w:World}{A:dq}{E:xP}{s:π}
set_option maxRecDepth 100000 in
end
section
variable{X:Cx}
end
section
variable{κ :Type}[DecidableEq κ]
def A5(kvs:List (κ × V))(k: κ):Option V:=(kvs.find? λkv=>decide<|kv.1=k).map (·.2)
def B0(kvs:List (κ × V))(k: κ)(v:V):List (κ × V) :=
 if(kvs.any λkv=>decide<|kv.1=k)=true then kvs.map (λkv=>if kv.1=k then(kv.1,v)else kv)else kvs++[(k,v)]
def JP(kvs:List (κ × V))(k: κ):List (κ × V):=kvs.filter λkv=>decide<|kv.1≠k
def VQ:A5 ([]:List (κ × V)) k=none:=rfl
def HR{p: κ × V}{r:List (κ × V)}{k: κ}(e:p.1=k):A5 (p::r) k=some p.2:=by simp[A5,e]
def HS{p: κ × V}{r:List (κ × V)}{k: κ}(e:¬ p.1=k):A5 (p::r) k=A5 r k:=by simp[A5,e]
def JQ(k: κ):∀ kvs:List (κ × V),(kvs.any λkv=>decide<|kv.1=k)=(A5 kvs k).isSome
 | []=>rfl
 |p::r=>by
  rw[nj];by_cases e:p.1=k;simp only[HR e,decide_eq_true e,pe,Option.isSome_some];rw[HS e,decide_eq_false e];exact JQ k r
def j2(k j: κ)(y:V):∀ kvs:List (κ × V),A5 (kvs.map λkv=>if kv.1=k then(kv.1,y)else kv) j=(A5 kvs j).map λx=>if j=k then y else x
 | []=>rfl
 |p::r=>by
  have ih:=j2 k j y r;rw[dk];by_cases h:p.1=k;rw[if_pos h];by_cases e:p.1=j;rw[HR (p:=(p.1,y)) e,HR e,rj,if_pos<|e.symm.trans h];rw[HS (p:=(p.1,y)) e,HS e,ih];rw[if_neg h];by_cases e:p.1=j;rw[HR  e,HR e,rj,if_neg<|λz=>h<|e.trans z];rw[HS  e,HS e,ih]
def j3(k j: κ)(y:V):∀ kvs:List (κ × V),A5 kvs k=none->A5 (kvs++[(k,y)]) j=if j=k then some y else A5 kvs j
 | [],_=>by
  by_cases e:k=j;rw[if_pos e.symm];exact HR  e;rw[if_neg (λz=>e z.symm)];exact HS  e
 |p::r,hn=>by
  have hk:¬ p.1=k:=λz=>by rw[HR z]at hn;cases hn
  rw[ul];rw[HS hk]at hn;by_cases e:p.1=j;rw[HR e,HR e,if_neg<|λz=>hk<|e.trans z];rw[HS e,HS e,(j3 k j y r hn)]
def F8(kvs:List (κ × V))(k j: κ)(y:V):A5 (B0 kvs k y) j=if j=k then some y else A5 kvs j:=by
 unfold B0;by_cases a:(kvs.any λkv=>decide<|kv.1=k)=true;rw[if_pos a,j2];rw[JQ]at a;by_cases e:j=k;obtain⟨x,hx⟩:=da.mp a;rw[if_pos e,e,hx,rj,if_pos rfl];rw[if_neg e];cases A5 _ j with
 |none=>rfl
 |some x=>rw[rj,if_neg e]
 rw[if_neg a];refine j3 k j y _ ?_;rw[JQ]at a;cases q:A5 _ k with
 |none=>rfl
 |some x=>rw[q]at a;exact(a rfl).elim
def HU(kvs:List (κ × V))(k: κ)(v:V):(B0 kvs k v).length<=kvs.length+1:=by
 unfold B0;split;rw[ζ];exact jc _;rw[af,cv];exact f_ _
def j4{kvs:List (κ × V)}{k: κ}(v:V)(h:A5 kvs k=none):B0 kvs k v=kvs++[(k,v)]:=by
 unfold B0;rw[JQ,h];exact if_neg (by decide)
def RelO.isSome_eq(r:RelO o u):o.isSome=u.isSome:=by
 cases o with
 |none=>cases u with
  |none=>rfl
  |some _=>exact(r).elim
 |some _=>cases u with
  |none=>exact(r).elim
  |some _=>rfl
def RelO.getD(r:RelO o u)(rd:RelV d d'):RelV (o.getD d) (u.getD d'):=by
 cases o with
 |none=>cases u with
  |none=>exact rd
  |some _=>exact(r).elim
 |some _=>cases u with
  |none=>exact(r).elim
  |some _=>exact r
def KV.val{kvs:List (κ × V)}{vs:List (κ × Value)}(r:KV kvs vs)(k: κ):RelO (A5 kvs k) (C_ vs k):=by
 induction r with
 |nil=>exact oq
 |@cons p q ps qs h t ih =>
  obtain⟨h1,h2⟩:=h;by_cases e:p.1=k
  have b:C_ (q::qs) k=some q.2:=by simp[C_,(h1.symm.trans e)]
  rw[HR e,b];exact h2
  have e':¬ q.1=k:=λz=>e<|h1.trans z
  have b:C_ (q::qs) k=C_ qs k:=by simp[C_,e']
  rw[HS e,b];exact ih
def KV.any{kvs:List (κ × V)}{vs:List (κ × Value)}(r:KV kvs vs)(k: κ):(kvs.any λkv=>decide<|kv.1=k)=vs.any λkv=>decide (kv.1=k):=by
 induction r with
 |nil=>rfl
 |cons h t ih=>rw[nj,nj,ih,h.1]
def KV.repl(r:KV kvs vs)(k: κ)(ry:RelV y u) :
  KV (kvs.map λkv=>if kv.1=k then(kv.1,y)else kv) (vs.map λkv=>if kv.1=k then(kv.1,u)else kv):=by
 induction r with
 |nil=>exact .nil
 |@cons p q ps qs h t ih =>
  rw[dk,dk];refine .cons ?_ ih;obtain⟨h1,h2⟩:=h;by_cases e:p.1=k;rw[if_pos e,if_pos<|h1.symm.trans e];exact⟨h1,ry⟩;rw[if_neg e,if_neg<|λz=>e<|h1.trans z];exact⟨h1,h2⟩
def KV.put(r:KV kvs vs)(k: κ)(ry:RelV y u):KV (B0 kvs k y) (stored vs k u):=by
 unfold B0 stored;rw[r.any k];by_cases e:(vs.any λkv=>decide<|kv.1=k)=true;rw[if_pos e,if_pos e];exact r.repl k ry;rw[if_neg e,if_neg e];exact Paired.snoc r ⟨rfl,ry⟩
def KV.drop(r:KV kvs vs)(k: κ):KV (JP kvs k) (without vs k):=by
 unfold JP without
 induction r with
 |nil=>exact .nil
 |@cons p q ps qs h t ih =>
  obtain⟨h1,h2⟩:=h;rw[Ga,Ga];by_cases e:p.1=k;rw[if_neg (by simp[e]),if_neg (by simp[h1.symm.trans e])];exact ih
  have e':¬ q.1=k:=λz=>e<|h1.trans z;rw[if_pos (by simp[e]),if_pos (by simp[e'])];exact .cons ⟨h1,h2⟩ ih
def KV.length{kvs:List (κ × V)}{vs:List (κ × Value)}(r:KV kvs vs):kvs.length=vs.length:=Paired.length r
def j5(kvs:List (κ × V))(k: κ):(JP kvs k).length<=kvs.length:=cm _ _
end
def JR(r:RelV (kV k) u):(DZ P w).is k u=true:=by
 cases k with
 |inl i=>obtain⟨t,rfl⟩:=(r);exact Cm P w i t
 |inr x=>obtain⟨t,rfl⟩:=(r);exact Cp P w x t
def j6:∀ {ks:List AN} {us:qV},Vals (ks.map kV) us->ItemsAre (DZ P w) ks us
 | [],_,r=>by cases r;exact .nil
 |k::ks,_,r=>by
  cases r with
  |cons h t=>exact .cons (JR h) (j6 t)
abbrev KT(H:Hp):rC->pA->Prop:=Paired λp q=>p.1=q.1/\H q.2.1=some (.tup<|p.1.map kV)/\RelV p.2 q.2.2
def KT.val{H:Hp}{kvs:rC}{xs:pA}(r:KT H kvs xs)(k:List AN):RelO (A5 kvs k) ((atKey xs k).map (·.2)):=by
 induction r with
 |nil=>exact oq
 |@cons p q ps qs h t ih =>
  obtain⟨h1,y,h2⟩:=h;by_cases e:p.1=k
  have b:atKey (q::qs) k=some q.2:=by simp[atKey,(h1.symm.trans e)]
  rw[HR e,b];exact h2
  have e':¬ q.1=k:=λz=>e<|h1.trans z
  have b:atKey (q::qs) k=atKey qs k:=by simp[atKey,e']
  rw[HS e,b];exact ih
def KT.repl(r:KT H kvs xs)(k:List AN)(ry:RelV y u) :
  KT H (kvs.map λkv=>if kv.1=k then(kv.1,y)else kv) (xs.map<|putAt k u):=by
 induction r with
 |nil=>exact .nil
 |@cons p q ps qs h t ih =>
  rw[dk];obtain⟨h1,h2,h3⟩:=h;refine .cons ?_ ih;unfold putAt;by_cases e:p.1=k;rw[if_pos e,if_pos<|h1.symm.trans e];exact⟨h1,h2,ry⟩;rw[if_neg e,if_neg<|λz=>e<|h1.trans z];exact⟨h1,h2,h3⟩
def KT.put(r:KT H kvs xs)(k:List AN)(hb:H b=some (.tup<|k.map kV))(ry:RelV y u) :
  KT H (B0 kvs k y) (xg xs k b u):=by
 have e:(kvs.any λkv=>decide<|kv.1=k)=(atKey xs k).isSome:=by
  rw[JQ,(r.val k).isSome_eq,xh]
 unfold B0 xg;rw[e];by_cases q:(atKey xs k).isSome=true;rw[if_pos q,if_pos q];exact r.repl k ry;rw[if_neg q,if_neg q];exact Paired.snoc r ⟨rfl,hb,ry⟩
def KT.keeps(r:KT H kvs xs)(ht:∀ b ys,H b=some (.tup ys)->H' b=some (.tup ys)):KT H' kvs xs :=
 Paired.mapP r λy y z=>{z.1,ht _ _ z.2.1,z.2.2}
section
variable{P:bu}{w:World}{H:Hp}{h:Heap}{a:Addr}
def j7(ok:HOk P w H h)(e:Rd H a u):ObjOk P w H h a u:=e.ok ok
def JS(ok:HOk P w H h)(e:Rd H a (.dK kvs)):kvs.length<=sizeLine/\(a==ig)=false/\∃ vs,KV kvs vs/\h.DictOf (DZ P w) a vs :=
 j7 ok e
def VR(ok:HOk P w H h)(e:H a=some (.dK kvs)):kvs.length<=sizeLine/\(a==ig)=false/\∃ vs,KV kvs vs/\h.DictOf (DZ P w) a vs:=JS ok<|.inl e
def KH(ok:HOk P w H h)(e:H a=some (.tup<|ks.map kV)):(pd<|DZ P w).is h ks a:=by
 obtain⟨z,AJ,r,o,h1,h2,n,h3⟩:=(ok a _ e)
 exact x3 o _ n {h1,h2,h3,j6 r}
def KJ(ok:HOk P w H h)(e:Rd H a (.dT kvs)):kvs.length<=sizeLine/\(a == ig)=false /\
  ∃ xs,KT H kvs xs/\h.DictOfH (pd<|DZ P w) a xs:=by
 obtain⟨z,y,xs,r,o,es,ep,h1,h2,h3,h4,h5⟩:=(j7 ok e)
 refine{z,y,xs,r,x3 o es ep {h1,h2,h3,h4,λx hx=>?_,h5}}
 have all:∀ {l:List _} {m:List _},KT H l m->∀ x∈m,(pd<|DZ P w).is h x.1 x.2.1:=by
  intro l m q
  induction q with
  |nil=>intro x hx;exact nomatch hx
  |@cons p q ps qs hq t ih =>
   intro x hx;rcases ax.mp hx with e|hx
   subst e;exact KH ok (by rw[<-hq.1];exact hq.2.1);exact ih x hx
 exact all r x hx
def RX(ok:HOk P w H h)(e:H a=some (.dT kvs)):kvs.length<=sizeLine/\(a==ig)=false /\
  ∃ xs,KT H kvs xs/\h.DictOfH (pd<|DZ P w) a xs:=KJ ok<|.inl e
end
def DGet(H:Hp)(a:Addr)(y:V)(r:Option V):Prop :=
 (∃ kvs k,Rd H a (.dK kvs)/\y=kV k/\r=A5 kvs k)\/∃ kvs k b,Rd H a (.dT kvs)/\y=.ref b/\H b=some (.tup<|k.map kV)/\r=A5 kvs k
def DPut(H:Hp)(a:Addr)(y v:V)(H':Hp):Prop :=
 (∃ kvs k,H a=some (.dK kvs)/\y=kV k/\kvs.length<sizeLine/\H'=upd H a (.dK<|B0 kvs k v)) ∨
 ∃ kvs k b,H a=some (.dT kvs)/\y=.ref b/\H b=some (.tup<|k.map kV)/\kvs.length<sizeLine/\H'=upd H a (.dT<|B0 kvs k v)
def DGet.k{H:Hp}{a:Addr}{kvs:rR}{k:AN}(e:H a=some (.dK kvs)):DGet H a (kV k) (A5 kvs k):=.inl<|x2 _ k {.inl e,rfl,rfl}
def DGet.t{H:Hp}{a b:Addr}{kvs:rC}{k:List AN}(e:H a=some (.dT kvs))(eb:H b=some (.tup<|k.map kV)):DGet H a (.ref b) (A5 kvs k):=.inr<|x3 _ k b {.inl e,rfl,eb,rfl}
def DPut.k{H:Hp}{a:Addr}{kvs:rR}{k:AN}{v:V}(e:H a=some (.dK kvs))(hl:kvs.length<sizeLine):DPut H a (kV k) v (upd H a<|.dK<|B0 kvs k v):=.inl<|x2 _ k ⟨e,rfl,hl,rfl⟩
def DPut.t{H:Hp}{a b:Addr}{kvs:rC}{k:List AN}{v:V}(e:H a=some (.dT kvs))(eb:H b=some (.tup<|k.map kV))(hl:kvs.length<sizeLine) :
  DPut H a (.ref b) v (upd H a<|.dT<|B0 kvs k v):=.inr<|x3 _ k b ⟨e,rfl,eb,hl,rfl⟩
section
variable{X:Cx}{AA:rN}{σ:St}{H:Hp}{s:π}{a:Addr}{y v:V}{u r:Value}{o:Option V}{A:dq}{E:xP}
def Inv.big(I:Inv X AA σ H s):ig<s.heap.objs.size:=yp (by decide) ((I.mod.glob.keeps I.bk).lt)
def Lj(hu:A.units+1<cLine)(I:Inv X AA σ H s)(g:DGet H a y (some v))(ry:RelV y u)(h:∀ w' s',Inv X AA σ H s'->RelV v w'->Q w' s') :
  wpAny (model X.prog X.w) A (yk (.ref a) u) Q E s:=by
 rcases g with⟨kvs,k,e,ey,l⟩|⟨kvs,k,b,e,ey,eb,l⟩
 obtain⟨z,hd,vs,rel,dd⟩:=JS I.hok e;obtain⟨w',hw,rw'⟩:=RelO.some_of   (by rw[l];exact rel.val k);subst ey;exact wpAny_getItem_of (JR ry) dd.mapOf hw (h w' _ (I.tok _) rw');subst ey;obtain⟨z,hd,xs,rel,dd⟩:=KJ I.hok e;obtain⟨w',hw,rw'⟩:=RelO.some_of   (by rw[l];exact rel.val k);cases (ry);obtain⟨p,hp,IF⟩:=ae.mp hw;refine wpAny_getItem_heap (ix hu) (KH I.hok eb) dd hp ?_;rw[IF];exact h w' _ (I.tok _) rw'
def Ll(hu:A.units+1<cLine)(I:Inv X AA σ H s)(g:DGet H a y o)(ry:RelV y u)(h:∀ s',Inv X AA σ H s'->Q (.bool o.isSome) s') :
  wpAny (model X.prog X.w) A (dt .In u<|.ref a) Q E s:=by
 rcases g with⟨kvs,k,e,ey,l⟩|⟨kvs,k,b,e,ey,eb,l⟩
 subst ey;obtain⟨z,hd,vs,rel,dd⟩:=JS I.hok e;refine wpAny_in_of (JR ry) hd dd.mapOf ?_;rw[<-(rel.val k).isSome_eq,<-l];exact h _<|I.tok _;subst ey;obtain⟨z,hd,xs,rel,dd⟩:=KJ I.hok e;cases (ry)
 have q:=(rel.val k).isSome_eq;refine wpAny_in_heap (ix hu) (KH I.hok eb) hd dd ?_;rw[xh]at q;rw[<-q,<-l];exact h _<|I.tok _
def Lm(hu:A.units+1<cLine)(I:Inv X AA σ H s)(g:DGet H a y o)(ry:RelV y u)(h:∀ s',Inv X AA σ H s'->Q (.bool<|!o.isSome) s') :
  wpAny (model X.prog X.w) A (dt .NotIn u<|.ref a) Q E s:=by
 rcases g with⟨kvs,k,e,ey,l⟩|⟨kvs,k,b,e,ey,eb,l⟩
 subst ey;obtain⟨z,hd,vs,rel,dd⟩:=JS I.hok e;refine wpAny_notIn_of (JR ry) hd dd.mapOf ?_;rw[<-(rel.val k).isSome_eq,<-l];exact h _<|I.tok _;subst ey;obtain⟨z,hd,xs,rel,dd⟩:=KJ I.hok e;cases (ry)
 have q:=(rel.val k).isSome_eq;refine wpAny_notIn_heap (ix hu) (KH I.hok eb) hd dd ?_;rw[xh]at q;rw[<-q,<-l];exact h _<|I.tok _
def OL(I:Inv X AA σ H s)(mu:N4 (H a))(hs:fu a s.heap h')(he:∃ q,h'.get? a=some q)(new:ObjOk X.prog X.w (upd H a ob) h' a ob) :
  Inv X AA σ (upd H a ob) { s with heap:=h',toks:=t' } :=
 I.write   mu (.inl rfl) (λb q hb z=>(hs.2 b hb).trans z) he new
def VS(z:kvs.length<=sizeLine)(hd:(a==ig)=false)(rel:KV kvs vs)(dd:h'.DictOf (DZ P w) a vs) :
  ObjOk P w H' h' a (.dK kvs):=⟨z,hd,vs,rel,dd⟩
def Lp(hu:A.units+1<cLine)(I:Inv X AA σ H s)(g:DPut H a y v H')(ry:RelV y u)(rv:RelV v r)(h:∀ s',Inv X AA σ H' s'->Q () s') :
  wpAny (model X.prog X.w) A (Ln (.ref a) u r) Q E s:=by
 rcases g with⟨kvs,k,e,ey,l,eH⟩|⟨kvs,k,b,e,ey,eb,l,eH⟩
 obtain⟨z,hd,vs,rel,dd⟩:=VR I.hok e;subst ey eH;exact wpAny_setItem_pairs (hsz:=(by rw[<-rel.length];exact z)) (JR ry) dd λh' dd' hs=>h _ (OL I (by rw[e];exact oq) hs (let ⟨q,_,_,hq,_⟩:=dd';⟨q,hq⟩) (VS (ψ (HU _ k v) l) hd (rel.put k rv) dd'));subst ey eH;obtain⟨z,hd,xs,rel,dd⟩:=RX I.hok e;cases (ry);refine wpAny_setItem_heap (hsz:=(by rw[<-Paired.length rel];exact z)) (ix hu) (KH I.hok eb) dd λh' dd' hs=>h _ ?_;revert dd';apply u3;rintro q es ep ⟨hq,h2,h3,h4,_,h5⟩;refine OL I (by rw[e];exact oq) hs ⟨q,hq⟩ {(ψ (HU _ k v) l),hd,_,(rel.put k eb rv).keeps λc ys ec=>?_,x3 q es ep ⟨hq,h2,h3,h4,h5⟩};rw[AH (BB ec e (λz=>nomatch z))];exact ec
end
section
variable{X:Cx}{AA:rN}{σ:St}{H:Hp}{s:π}{a:Addr}{kvs:rR}{k:AN}{u:Value}{A:dq}{E:xP}
def Lq(I:Inv X AA σ H s)(e:H a=some (.dK kvs))(ry:RelV (kV k) u)(l:A5 kvs k=some v)(hm:more=[]\/∃ x,more=[x])
  (h:∀ w' s',Inv X AA σ (upd H a<|.dK<|JP kvs k) s'->RelV v w'->Q w' s'):wpAny (model X.prog X.w) A (call (.builtin "dict.pop") (.ref a::u::more)) Q E s:=by
 obtain⟨z,hd,vs,rel,dd⟩:=VR I.hok e
 have hp:(keyPart u).isSome=true:=by
  cases k with
  |inl i=>obtain⟨t,rfl⟩:=(ry);rfl
  |inr x=>obtain⟨t,rfl⟩:=(ry);rfl
 have ha:argsOk "dict.pop" {.ref a::u::more,[]}:=by
  rcases hm with q|⟨x,q⟩
  subst q;exact PySem.F.args_dict_pop_2 _ _;subst q;exact PySem.F.args_dict_pop_3 _ _ _
 obtain⟨w',hw,rw'⟩:=RelO.some_of   (by rw[<-l];exact rel.val k);exact ph PySem.F.slot_dict_pop dd.typeIs PySem.F.entry_dict_pop ha (meets_dict_pop_there _ a (JR ry) _ hm hp)
  {vs,w',dd,by rw[<-rel.length];exact z,hw,λh' dd' hs=>h w' _ (OL I (by rw[e];exact oq) hs (let ⟨q,_,_,hq,_⟩:=dd';⟨q,hq⟩) (VS (ψ (j5 _ k) z) hd (rel.drop k) dd')) rw'}
def Lw(I:Inv X AA σ H s)(e:H a=some (.dK kvs))(ry:RelV (kV k) u)(l:A5 kvs k=none)(h:∀ s',Inv X AA σ H s'->Q r s') :
  wpAny (model X.prog X.w) A (call (.builtin "dict.pop") [.ref a,u,r]) Q E s:=by
 obtain⟨z,hd,vs,rel,dd⟩:=VR I.hok e
 have hp:(keyPart u).isSome=true:=by
  cases k with
  |inl i=>obtain⟨t,rfl⟩:=(ry);rfl
  |inr x=>obtain⟨t,rfl⟩:=(ry);rfl
 exact ph PySem.F.slot_dict_pop dd.typeIs PySem.F.entry_dict_pop (PySem.F.args_dict_pop_3 _ _ _) (meets_dict_pop_default _ a (JR ry) hd hp r) {vs,dd,(RelO.none_of (by rw[<-l];exact rel.val k)),h _<|I.tok _}
end
def j9(i:Expr):Prop:=∀ ov iv,zp i false ov iv=operate [ov,iv] (yk ov iv)
def Lx{prog:bu}{w:World}{A:dq}{E:xP}{s:π}{env:Env}{value slice:Expr}{pos:Pos}{T id:String}{Q:xP}
  (hl:Je (.type T) "__getitem__"=pure (some<|.builtin id)) (hs:j9 slice)
  (h:wpAny (model prog w) A (eval value env) (λo s₁=>wpAny (model prog w) A (eval slice env) (λi s₂=>s₂.TypeIs o T/\wpAny (model prog w) A (yk o i) Q E s₂) E s₁) E s) :
  wpAny (model prog w) A (eval (.Subscript value slice pos) env) Q E s:=by
 refine Jf<|om h (λo s₁ h₁=>om h₁ (λi s₂ h₂=>?_) λz z x=>x) λz z x=>x;obtain⟨hT,h₂⟩:=h₂
 have fin:wpAny (model prog w) A (zp slice false o i) (λr s₃=>wpAny (model prog w) A (letTemporaryGo value o r>>=λz=>pure r) Q E s₃) E s₂:=by
  rw[hs o i];exact wpAny_operating<|om h₂ (λr s₃ h₃=>δ<|wpAny_letTemporaryGo<|ν h₃) λz z x=>x
 refine δ<|δ<|vj hT hl ?_
 first
  |exact ν<|δ fin
  |exact δ _
  |exact δ _
def Ly(I:Inv X AA σ H s)(g:DGet H a y o):s.TypeIs (.ref a) "dict":=by
 rcases g with⟨kvs,k,e,_,_⟩|⟨kvs,k,b,e,_,_,_⟩
 obtain⟨z,z,vs,z,dd⟩:=JS I.hok e;exact dd.typeIs;obtain⟨z,z,xs,z,dd⟩:=KJ I.hok e;exact dd.typeIs
def OM(td ty:TE):TE:=λσ H Q=>td σ H λx H1=>ty σ H1 λy H2=>∃ a v,x=.ref a/\DGet H2 a y (some v)/\Q v H2
def ON(ty td:TE):TE:=λσ H Q=>ty σ H λy H1=>td σ H1 λx H2=>∃ a o,x=.ref a/\DGet H2 a y o/\Q (.bl o.isSome) H2
def OO(ty td:TE):TE:=λσ H Q=>ty σ H λy H1=>td σ H1 λx H2=>∃ a o,x=.ref a/\DGet H2 a y o/\Q (.bl<|!o.isSome) H2
def OP(td ty tv:TE):TS:=λD σ H=>tv σ H λv H1=>td σ H1 λx H2=>ty σ H2 λy H3=>∃ a H4,x=.ref a/\DPut H3 a y v H4/\D.nx σ H4
section
variable{X:Cx}{o i e value:Expr}{pos pos' tpos:Pos}{td ty tv:TE}
def Lz(hu:X.A.units+1<cLine)(ho:PE X o td)(hi:PE X i ty)(hs:j9 i):PE X (.Subscript o i pos) (OM td ty):=by
 refine λAA s σ H Q I h=>Lx PySem.F.slot_dict_getitem.lookup hs<|AO (ho _ s σ H _ I h) λu s1 ⟨x,H1,I1,rx,q1⟩=>AO (hi _ s1 σ H1 _ I1 q1) λiv s2 hzz=>?_;obtain⟨y,H2,I2,ry,a,v,rfl,g,q2⟩:=hzz;obtain rfl:u=ff a:=rx;exact{Ly I2 g,Lj hu I2 g ry λw' s3 I3 rw'=>x2 v H2 ⟨I3,rw',q2⟩}
def Mb(hu:X.A.units+1<cLine)(hi:PE X i ty)(ho:PE X o td):PC X .In i o (ON ty td):=by
 refine λAA s σ H Q I h=>AO (hi _ s σ H _ I h) λiv s1 ⟨y,H1,I1,ry,q1⟩=>AO (ho _ s1 σ H1 _ I1 q1) λu s2 hzz=>?_;obtain⟨x,H2,I2,rx,a,ov,rfl,g,q2⟩:=hzz;obtain rfl:u=ff a:=rx;exact Ll hu I2 g ry λs3 I3=>x2 (.bl _) H2 ⟨I3,rfl,q2⟩
def Mc(hu:X.A.units+1<cLine)(hi:PE X i ty)(ho:PE X o td):PC X .NotIn i o (OO ty td):=by
 refine λAA s σ H Q I h=>AO (hi _ s σ H _ I h) λiv s1 ⟨y,H1,I1,ry,q1⟩=>AO (ho _ s1 σ H1 _ I1 q1) λu s2 hzz=>?_;obtain⟨x,H2,I2,rx,a,ov,rfl,g,q2⟩:=hzz;obtain rfl:u=ff a:=rx;exact Lm hu I2 g ry λs3 I3=>x2 (.bl _) H2 ⟨I3,rfl,q2⟩
def Mg(hu:X.A.units+1<cLine)(ho:PE X o td)(hi:PE X i ty)(hv:PE X value tv)(hs:vz value (some<|.Subscript o i pos') pos.line X.env=pure false) :
  PS X (.Assign [.Subscript o i pos'] value pos) (OP td ty tv):=by
 refine λAA s σ H D I h=>wpAny_Assign_Subscript (AO (hv _ s σ H _ I h) λr s1 ⟨v,H1,I1,rv,q1⟩=>AO (ho _ s1 σ H1 _ I1 q1) λu s2 ⟨x,H2,I2,rx,q2⟩=>AO (hi _ s2 σ H2 _ I2 q2) λiv s3 hzz=>?_) hs;obtain⟨y,H3,I3,ry,a,H4,rfl,g,q3⟩:=hzz;obtain rfl:u=ff a:=rx;exact Lp hu I3 g ry rv λs4 I4=>x2 σ H4 ⟨I4,q3⟩
end
def Mh(h:Heap)(hb:ig<h.objs.size):ObjOk P w H (h.push { cls:=.type "dict",data:=.dict #[] }) h.objs.size (.dK []) :=
 {bh _,beq_eq_false_iff_ne.mpr<|fg<|bg hb,[],.nil,Heap.DictOf.new h}
def kA(h:Heap)(hb:ig<h.objs.size):ObjOk P w H (h.push { cls:=.type "dict",data:=.dict #[] }) h.objs.size (.dT []) :=
 {bh _,beq_eq_false_iff_ne.mpr<|fg<|bg hb,[],.nil,_,_,0,aj _ rfl,⟨rfl,rfl,rfl⟩,rfl,rfl,jr}
def IN:TE:=λ_ H Q=>∀ p,H p=none->Q (.ref p) (upd H p<|.dK [])
def OQ:TE:=λ_ H Q=>∀ p,H p=none->Q (.ref p) (upd H p<|.dT [])
section
variable{X:Cx}{pos:Pos}
def Mj:PE X (.Dict [] [] pos) IN:=λAA s σ H Q I h =>
 Ge (x2 (.ref _) _ {I.laid    (λz z q=>ο _ q) (ρ _) (Mh _ I.big),rfl,h _<|I.hok.fresh<|ρ _})
def Ml:PE X (.Dict [] [] pos) OQ:=λAA s σ H Q I h =>
 Ge (x2 (.ref _) _ {I.laid    (λz z q=>ο _ q) (ρ _) (kA _ I.big),rfl,h _<|I.hok.fresh<|ρ _})
end
def LX:List (TE × TE)->St->Hp->(List (V × V)->Hp->Prop)->Prop
 | [],_,H,Q=>Q [] H
 |(tk,tv)::r,σ,H,Q=>tk σ H λx H1=>tv σ H1 λy H2=>LX r σ H2 λps H3=>Q ((x,y)::ps) H3
abbrev VV:List (V × V)->List (Value × Value)->Prop:=Paired λp q=>RelV p.1 q.1/\RelV p.2 q.2
def RY(X:Cx)(pos:Pos)(keys:List (Option Expr))(values:rY)(trs:List (TE × TE)):Prop :=
 ∀ (AA:rN) (s:π) (σ:St) (H:Hp) (Q:List (V × V)->Hp->Prop),Inv X AA σ H s->LX trs σ H Q ->
  wpAny (model X.prog X.w) X.A (evalPairs<|pairTrees keys values X.env pos) (λvs s'=>∃ ps H',Inv X AA σ H' s'/\VV ps vs/\Q ps H') X.xe s
def Mm:RY X pos [] [] []:=λAA s σ H Q I h=>pairTrees_nil_walk<|x2 [] H {I,.nil,h}
def Mp(hk:PE X k tk)(hv:PE X v tv)(hr:RY X pos ks vs trs) :
  RY X pos (some k::ks) (v::vs) ((tk,tv)::trs):=λAA s σ H Q I h =>
 pairTrees_cons_walk (AO (hk _ s σ H _ I h) (by rintro u s1 ⟨x,H1,I1,rx,q1⟩;exact AO (hv _ s1 σ H1 _ I1 q1) (by rintro w2 s2 ⟨y,H2,I2,ry,q2⟩;exact AO (hr _ s2 σ H2 _ I2 q2) (by rintro ws s3 ⟨ps,H3,I3,rel,q3⟩;exact x2 _ H3 {I3,.cons ⟨rx,ry⟩ rel,q3}))))
structure M1(X:Cx)(o:Expr)(m:Str)(CM:Pos)(e:Expr)(DB:Pos):Prop where
 base:uz o m X.env (eval o X.env)=eval o X.env
 few:((jb DB<|ay [e] X.env).all (λx=> !x.1)&&(vb DB<|lq [] X.env).all (λx=>x.1.isSome)
  && decide (([e]:rY).length+([]:List Ae).length+(if([]:List Ae).isEmpty then 0 else 1)<30))=true
 line:(CM.endLine==DB.line)=true
 trees:jb DB (ay [e] X.env)=[(false,eval e X.env)]
structure M2(X:Cx)(o:Expr)(m:Str)(CM:Pos)(e f:Expr)(DB:Pos):Prop where
 base:uz o m X.env (eval o X.env)=eval o X.env
 few:((jb DB<|ay [e,f] X.env).all (λx=> !x.1)&&(vb DB<|lq [] X.env).all (λx=>x.1.isSome)
  && decide (([e,f]:rY).length+([]:List Ae).length+(if([]:List Ae).isEmpty then 0 else 1)<30))=true
 line:(CM.endLine==DB.line)=true
 trees:jb DB (ay [e,f] X.env)=[(false,eval e X.env),(false,eval f X.env)]
def KK(H:Hp)(a:Addr):Prop:=(∃ kvs,Rd H a<|.dK kvs)\/∃ kvs,Rd H a<|.dT kvs
def VT(I:Inv X AA σ H s)(d:KK H a) :
  s.TypeIs (.ref a) "dict"/\(∀ b,ff a=.ref b->∃ ob,s.heap.get? b=some ob/\ob.dict=none)/\(a==ig)=false:=by
 rcases d with⟨kvs,e⟩|⟨kvs,e⟩
 obtain⟨z,hd,vs,z,dd⟩:=JS I.hok e;refine{dd.typeIs,λb q=>?_,hd};cases q;revert dd;apply u3;rintro ob z z ⟨h1,h2,z⟩;exact⟨ob,h1,h2.2.1⟩;obtain⟨z,hd,xs,z,dd⟩:=KJ I.hok e;refine{dd.typeIs,λb q=>?_,hd};cases q;revert dd;apply u3;rintro ob z z ⟨h1,h2,z⟩;exact⟨ob,h1,h2.2.1⟩
section
variable{X:Cx}{AA:rN}{σ:St}{H:Hp}{s:π}{a:Addr}{y d:V}{u r:Value}{o:Option V}{A:dq}{E:xP}
def Mq(hu:A.units+1<cLine)(I:Inv X AA σ H s)(g:DGet H a y o)(ry:RelV y u)(h:∀ w' s',Inv X AA σ H s'->RelV (o.getD .non) w'->Q w' s') :
  wpAny (model X.prog X.w) A (call (.builtin "dict.get") [.ref a,u]) Q E s:=by
 rcases g with⟨kvs,k,e,ey,l⟩|⟨kvs,k,b,e,ey,eb,l⟩
 subst ey;obtain⟨z,hd,vs,rel,dd⟩:=JS I.hok e;refine ph PySem.F.slot_dict_get dd.typeIs PySem.F.entry_dict_get (PySem.F.args_dict_get_2 _ _) (meets_dict_get _ a (JR ry) hd) {_,dd.mapOf,h _ _ (I.tok _) ?_};rw[l];exact(rel.val k).getD rfl;subst ey;obtain⟨z,hd,xs,rel,dd⟩:=KJ I.hok e;cases (ry);refine ph PySem.F.slot_dict_get dd.typeIs PySem.F.entry_dict_get (PySem.F.args_dict_get_2 _ _) (meetsH_dict_get _ a b hd) {ix hu,x2 k xs {KH I.hok eb,dd,h _ _ (I.tok _) ?_}};rw[l];exact(rel.val k).getD rfl
def Mv(hu:A.units+1<cLine)(I:Inv X AA σ H s)(g:DGet H a y o)(ry:RelV y u)(rd:RelV d r)(h:∀ w' s',Inv X AA σ H s'->RelV (o.getD d) w'->Q w' s') :
  wpAny (model X.prog X.w) A (call (.builtin "dict.get") [.ref a,u,r]) Q E s:=by
 rcases g with⟨kvs,k,e,ey,l⟩|⟨kvs,k,b,e,ey,eb,l⟩
 subst ey;obtain⟨z,hd,vs,rel,dd⟩:=JS I.hok e;refine ph PySem.F.slot_dict_get dd.typeIs PySem.F.entry_dict_get (PySem.F.args_dict_get_3 _ _ _) (meets_dict_get_default _ a (JR ry) hd r) {_,dd.mapOf,h _ _ (I.tok _) ?_};rw[l];exact(rel.val k).getD rd;subst ey;obtain⟨z,hd,xs,rel,dd⟩:=KJ I.hok e;cases (ry);refine ph PySem.F.slot_dict_get dd.typeIs PySem.F.entry_dict_get (PySem.F.args_dict_get_3 _ _ _) (meetsH_dict_get_default _ a b hd r) {ix hu,x2 k xs {KH I.hok eb,dd,h _ _ (I.tok _) ?_}};rw[l];exact(rel.val k).getD rd
end
def RZ(td ty:TE):TE:=λσ H Q=>td σ H λx H1=>∃ a,x=.ref a/\KK H1 a/\ty σ H1 λy H2=>∃ o,DGet H2 a y o/\Q (o.getD .non) H2
def VU(td ty tx:TE):TE:=λσ H Q=>td σ H λx H1=>∃ a,x=.ref a/\KK H1 a/\ty σ H1 λy H2=>tx σ H2 λz H3=>∃ o,DGet H3 a y o/\Q (o.getD z) H3
def VW(td ty tx:TE):TE:=λσ H Q=>td σ H λx H1=>∃ a,x=.ref a/\KK H1 a/\ty σ H1 λy H2=>tx σ H2 λz H3=>∃ kvs k,H3 a=some (.dK kvs)/\y=kV k /\
 (∀ v,A5 kvs k=some v->Q v (upd H3 a<|.dK<|JP kvs k))/\(A5 kvs k=none->Q z H3)
section
variable{X:Cx}{o e f:Expr}{CM DB:Pos}{td ty tx:TE}
def Mw(hu:X.A.units+1<cLine)(ho:PE X o td)(he:PE X e ty)(m:M1 X o "get" CM e DB):PE X (.Call (.Attribute o "get" CM) [e] [] DB) (RZ td ty):=by
 refine λAA s σ H Q I h=>xi m.base m.few m.line PySem.F.plainAttrs_dict PySem.F.slot_dict_get PySem.F.type_dict_get<|AO (ho _ s σ H _ I h) λu s1 hzz=>?_;obtain⟨x,H1,I1,rx,a,rfl,d,q1⟩:=hzz;obtain rfl:u=ff a:=rx;obtain⟨t1,t2,z⟩:=VT I1 d;refine{t1,t2,?_};rw[m.trees];exact me rfl (jz (jp (AO (he _ s1 σ H1 _ I1 q1) (by rintro iv s2 ⟨y,H2,I2,ry,ov,g,q2⟩;exact t_<|Mq hu I2 g ry λw' s3 I3 rw'=>x2 _ H2 ⟨I3,rw',q2⟩))))
def Mx(hu:X.A.units+1<cLine)(ho:PE X o td)(he:PE X e ty)(hf:PE X f tx)(m:M2 X o "get" CM e f DB):PE X (.Call (.Attribute o "get" CM) [e,f] [] DB) (VU td ty tx):=by
 refine λAA s σ H Q I h=>xi m.base m.few m.line PySem.F.plainAttrs_dict PySem.F.slot_dict_get PySem.F.type_dict_get<|AO (ho _ s σ H _ I h) λu s1 hzz=>?_;obtain⟨x,H1,I1,rx,a,rfl,d,q1⟩:=hzz;obtain rfl:u=ff a:=rx;obtain⟨t1,t2,v⟩:=VT I1 d;refine{t1,t2,?_};rw[m.trees];exact me rfl (jz (jp (AO (he _ s1 σ H1 _ I1 q1) (by rintro iv s2 ⟨y,H2,I2,ry,q2⟩;exact jp (AO (hf _ s2 σ H2 _ I2 q2) (by rintro fv s3 ⟨z,H3,I3,rz,ov,g,q3⟩;exact t_<|Mv hu I3 g ry rz λw' s4 I4 rw'=>x2 _ H3 ⟨I4,rw',q3⟩))))))
def My(ho:PE X o td)(he:PE X e ty)(hf:PE X f tx)(m:M2 X o "pop" CM e f DB):PE X (.Call (.Attribute o "pop" CM) [e,f] [] DB) (VW td ty tx):=by
 refine λAA s σ H Q I h=>xi m.base m.few m.line PySem.F.plainAttrs_dict PySem.F.slot_dict_pop PySem.F.type_dict_pop<|AO (ho _ s σ H _ I h) λu s1 hzz=>?_;obtain⟨x,H1,I1,rx,a,rfl,d,q1⟩:=hzz;obtain rfl:u=ff a:=rx;obtain⟨t1,t2,t⟩:=VT I1 d;refine{t1,t2,?_};rw[m.trees];refine me rfl (jz (jp (AO (he _ s1 σ H1 _ I1 q1) λiv s2 ⟨y,H2,I2,ry,q2⟩ =>
  jp (AO (hf _ s2 σ H2 _ I2 q2) λfv s3 ⟨z,H3,I3,rz,kvs,k,ea,ey,q3,q4⟩=>t_ ?_))))
 subst ey;cases l:A5 _ k with
 |some v=>exact Lq I3 ea ry l (.inr ⟨fv,rfl⟩) λw' s4 I4 rw'=>x2 v _ {I4,rw',q3 v l}
 |none=>exact Lw I3 ea ry l λs4 I4=>x2 z H3 {I4,rz,q4 l}
end
section
variable{X:Cx}{AA:rN}{σ:St}{H:Hp}{s:π}{a:Addr}{kvs:rR}{A:dq}{E:xP}
def Mz(I:Inv X AA σ H s)(e:Rd H a (.dK kvs))(h:∀ p s',H p=none->Inv X AA σ (upd H p<|.dK kvs) s'->Q (.ref p) s'):wpAny (model X.prog X.w) A (call (.type "dict") [.ref a]) Q E s:=by
 obtain⟨z,hd,vs,rel,dd⟩:=JS I.hok e;exact kt_call_dict hd dd (by rw[<-rel.length];exact z) λh' dd' hs=>(h _ _ (I.hok.fresh<|ρ _) (I.laid    (λb q hq=>((hs.2 b<|bg<|au hq).trans (ο _ hq))) (ρ _) (VS z (beq_eq_false_iff_ne.mpr<|fg<|bg I.big) rel dd')))
end
section
variable{X:Cx}{AA:rN}{σ:St}{H:Hp}{s:π}{a:Addr}{y:V}{u:Value}{A:dq}{E:xP}
end
end L2
namespace Att
open PySem PySem.W PySem.Calls PyProof.Rows
abbrev _root_.r8:=List Int
def Nb:∀ (ns:r8) (vs:qV),WellAll P h vs (ns.map WData.int)->rn vs ns:=by
 intro ns
 induction ns with
 |nil =>
  intro vs w;cases w;exact .nil
 |cons n ns ih =>
  intro vs w;cases w with
  |cons a b =>
   cases a;exact .cons _ _<|ih _ b
def Nd{l:OpenLaw}(hn:l.most=some n){h:Heap}
  (hpre:l.row.toRowW.claim.pre args=true) (hwl:WellAll P h vals args) :
  ∃ a vs ns,vals=[ff a]/\args=[WData.list (ns.map WData.int)]/\h.get? a=some { cls:=.type "list",data:=.seq vs.toArray }/\rn vs ns/\ns.length<=n:=by
 have hc:l.pre.holds [] _=true:=(pre_splitW hpre).2;obtain⟨d,r,rfl,h1,h2⟩:=hasAllW_cons<|(pre_splitW hpre).1;obtain rfl:=hasAllW_nil h2;obtain⟨xs,rfl,h3⟩:=hasW_list h1;obtain⟨ns,rfl⟩:=items_int h3
 have CC:ns.length<=n:=by
  have h4:(WTm.not<|.lt (.lit<|.int n) (.len<|.arg 0)).holds [] { args:=[.list (ns.map .int)] }=true:=by
   have h4:=(holds_andW hc).1;rw[hn]at h4;exact h4
  have h5:=condW_of h4<|w_not<|w_lt w_lit<|w_len_list<|w_arg rfl
  first
   |(exact absurd h5 (by decide))
   |(simp at h5;omega)
 cases hwl with
 |cons w1 w2 =>
  cases w2;cases w1 with
  |list ho hall=>exact{_,_,ns,rfl,rfl,ho,Nb ns _ hall,CC}
def Ng(l:OpenLaw)(args:List WData):l.row.toRowW.claim.post args (.bool true) args=true :=
 postW_of
  (show WShape.has [] _ _=true by first|rfl|decide|simp[WShape.armsAll])
  (w_eq_bool (w_res rfl) w_lit) rfl
def attach_call{l:OpenLaw}{XP:(Str->Option Value)->Heap->Prop}{YP:World->Heap->Prop}{d:DefRec}
  (hn:l.most=some n) (hdf:d.params.defaults=[])
  (call:∀ (w:World) (s₀ s₁:π) (mg mb:ZN) (fa:Addr) (o:Obj) (pm cd doc:Value) (a:Addr) (vs:qV) (ns:r8),
   Ground q loose [] XP w s₀ mg mb s₁.heap->YP w s₁.heap ->
   s₁.heap.get? fa=some o->o.data=.func (docDef d.name d.params d.body d.scope pm cd doc)->s₁.heap.CodeRec cd d.name->mg d.name=some (.ref fa) ->
   s₁.heap.get? a=some { cls:=.type "list",data:=.seq vs.toArray }->rn vs ns->ns.length<=n->s₁.gens= #[] →
   uy (model l.prog w) Iq (.call (.ref fa) {[.ref a],[]}) (λr s'=>r=.ok (.ret<|.bool true)/\OldK s₁.heap s'.heap/\s'.os=s₁.os/\tz s'.gens) s₁) :
  WalkO q loose XP YP l.row.toRowW d [] (λf vs=>PySem.call f vs):=by
 intro w s₀ s₁ mg mb G Y fa o pm cd doc dV kV ho hd GI hD hmg hg args vals as hpre hlay hrd hwl hlo;obtain rfl:dV=.none:=Dflts.none hD hdf;obtain rfl:kV=.none:=Dflts.noKw hD;obtain⟨a,vs,ns,rfl,rfl,hobj,hints,CC⟩:=Nd hn hpre hwl;refine enter_call<|l_ (call w _ _ mg mb fa o pm cd _ a vs ns G Y ho (fd_plain hd) GI hmg hobj hints CC hg) λr s' hq=>?_;obtain⟨rfl,h2,h3,h4⟩:=hq;exact{.inl {_,_,[],rfl,λ_=>rfl,.bool _,Ng l _,λ_=>{De,λ_ hm=>(nomatch hm)}},h2,h3,h4}
section
variable{prog:bu}{w:World}{A:dq}{E:xP}{s:π}{K:Frag}
end
end Att
namespace L2
def VX:∀ {vs:qV} {ns:r8},rn vs ns->Vals (ns.map V.int) vs
 |_,_,.nil=>.nil
 |_,_,.cons n t h=>.cons ⟨t,rfl⟩ (VX h)
def VY(H:Hp):Prop:=∀ b,H b=none\/∃ o xs,H b=some (.frz o<|.lst xs)
def Nh{K:ι}{mg mb:ZN}{sp:Sp}{s₁:π}{vs:qV}{ns:r8}
  (KX:K.In s₁.heap) (hns:s₁.heap.Ns bw mg) (hb:s₁.heap.Ns Iv mb) (hbb:∀ x:Str,x≠"__name__"->mb x=tq x) (hlim:s₁.heap.NoLimit) (hg:s₁.gens= #[])
  (ha:s₁.heap.get? a=some { cls:=.type "list",data:=.seq vs.toArray }) (hi:rn vs ns) (hl:ns.length<=sizeLine) (hr:Room k Iq)
  (F:∀ base:Heap,K.In base->base.Ns bw mg->FnOk P w K mg base CX k fa fd [x] sp) (hbind:∀ (s:π) (u:Value),xf s fd {[u],[]} [(x,u)])
  (hsp:∀ H:Hp,VY H->SqL K H a (ns.map V.int)->sp [.ref a] H (λv y=>v=.bl true) λy y y=>False)
  (hCX:∀ H e s',CX [] H s₁ (λy y y=>False) e s'->False) :
  uy (model P w) Iq (.call (.ref fa) {[.ref a],[]}) (λr s'=>r=.ok (.ret<|.bool true)/\OldK s₁.heap s'.heap/\s'.os=s₁.os/\tz s'.gens) s₁:=by
 have core:∀ H:Hp,VY H->SqL K H a (ns.map V.int)->HOk P w H s₁.heap->(∀ b,H b≠none->b=a)->(H a≠none->K.lookup a=none) ->
   uy (model P w) Iq (.call (.ref fa) {[.ref a],[]}) (λr s'=>r=.ok (.ret<|.bool true)/\OldK s₁.heap s'.heap/\s'.os=s₁.os/\tz s'.gens) s₁:=by
  intro H hO hS hok hA hK
  have noA:∀ {b:Addr} {o:Obj} {es:Array _} {ep:Nat},s₁.heap.get? b=some o->o.data=.dict es ep->H b=none:=λ{b o es ep} e d=>by
   cases q:H b with
   |none=>rfl
   |some u =>
    have e':=hA b (by rw[q];simp);subst e';rw[ha]at e;obtain rfl:=μ e;cases d
  have base_of:∀ {b:Addr} {o:Obj},s₁.heap.get? b=some o->H b=none->(MQ _ H).get? b=some o:=λe n=>Cw e n
  have nsK:∀ {b:Addr} {m:Str->Option _},s₁.heap.Ns b m->(MQ _ H).Ns b m:=λ{b m} ⟨o,es,ep,e,d,r⟩=>x3 o es ep {base_of e<|noA e d,d,r}
  have hKb:=λb o e=>base_of (KX b o e) (by
   cases q:H b with
   |none=>rfl
   |some u =>
    have e':=hA b (by rw[q];simp);subst e';rw[hK (by rw[q];simp)]at e;cases e)
  refine l_ ((F _ hKb<|nsK hns).run _ [] _ H _ [.ref a] [.ref a] _ _ hr ({rfl,({hKb,nsK hns,{mb,nsK hb,hbb},let ⟨mc,h1,h2⟩:=hlim;{mc,nsK h1,h2}}),λb o e=>Cy e,bc<|Cv _ _,trivial,λb hb=>absurd (show b∈([])from hb) (by simp),hok,.of_eq hg}) (hbind _ _) (.cons rfl .nil) (hsp H hO hS)) λr s' h=>?_;cases r with
  |error e=>exact(hCX H e s' h).elim
  | ok fl =>
   cases fl with
   |next=>exact jq h
   |brk=>exact jq h
   |cont=>exact jq h
   |ret u =>
    revert h;apply u2;rintro v H' ⟨os,bare,un,hok',r',rfl⟩;obtain rfl:u=Ir _:=r';refine{rfl,OldK.of_keep λb o e=>?_,os,bare};cases q:H b with
    |none=>exact un.keep b o e q (by intro z;exact absurd (show b∈([])from z) (by simp)) (by simp)
    |some u =>
     rcases hO b with z|⟨ob,xs,z⟩
     rw[q]at z;cases z;obtain⟨e2,y⟩:=hok' b _<|un.frzs b ob _ z;obtain⟨e1,y⟩:=hok b _ z;rw[e]at e1;obtain rfl:=μ e1;exact e2
 have rv:=VX hi;cases hk:K.lookup a with
 |some o =>
  have e:=KX a o hk;rw[ha]at e;obtain rfl:=μ e;refine core (λy=>none) (λy=>.inl rfl) (.inr (x3 _ _ _ {hk,rfl,rfl,rfl,by rw[az,hi.length];exact hl,rv})) (λb u z=>by cases z) (λb z=>absurd rfl z) λz=>absurd rfl z
 |none =>
  refine core (λb=>if b=a then some _ else none) (λb=>?_) (.inl<|.inr {{ cls:=.type "list",data:=.seq vs.toArray },if_pos rfl}) (λb u z=>?_) (λb z=>?_) λy=>hk;by_cases hb:b=a;exact .inr<|x2 _ _<|if_pos hb;exact .inl<|if_neg hb;by_cases hb:b=a
  have z':=(if_pos hb).symm.trans z;cases z';subst hb;exact{ha,by rw[ζ];exact hl,x2 vs _ ⟨rv,ha⟩};cases ((if_neg hb).symm.trans z);by_cases hb:b=a;exact hb;exact absurd (if_neg hb) z
def walk_of{l:W.OpenLaw}{XP:(Str->Option Value)->Heap->Prop}{YP:World->Heap->Prop}{d:DefRec}{K:Params->ι}{CX:World->HN}{sp:World->Sp}
  (hn:l.most=some n) (hn2:n<=sizeLine) (hdf:d.params.defaults=[]) (hr:Room k Iq)
  (hY:∀ (w:World) (h:Heap),YP w h->(K w.params).In h)
  (F:∀ (w:World) (mg:ZN) (fa:Addr) (h:Heap),(K w.params).In h->h.Ns bw mg->mg d.name=some (.ref fa) ->
   ∃ fd:gg,(∀ (s:π) (u:Value),xf s fd {[u],[]} [(x,u)]) /\
    ∀ base:Heap,(K w.params).In base->base.Ns bw mg->FnOk l.prog w (K w.params) mg base (CX w) k fa fd [x] (sp w))
  (hsp:∀ (w:World) (H:Hp) (a:Addr) (ns:r8),ns.length<=n->VY H->SqL (K w.params) H a (ns.map V.int)->sp w [.ref a] H (λv _=>v=.bl true) λ_ _ _=>False)
  (hCX:∀ (w:World) (H:Hp) (s:π) (e:Value) (s':π),CX w [] H s (λ_ _ _=>False) e s'->False) :
  W.WalkO q loose XP YP l.row.toRowW d [] (λf vs=>PySem.call f vs):=by
 refine Att.attach_call hn hdf λw s₀ s₁ mg mb fa o pm cd doc a vs ns G Y ho hd GI hmg hobj hints CC hg=>?_
 have KX:=hY w _ Y;obtain⟨fd,hb,hF⟩:=F w mg fa _ KX G.T.g hmg;exact Nh KX G.T.g G.T.b G.T.builtins G.T.nolimit hg hobj hints (ψ CC hn2) hr hF hb (λH hO hS=>hsp w H a ns CC hO hS) λH e s'=>hCX w H _ e s'
def BK(s:Stmt)(j:Nat):Stmt:=match s with
 |.ClassDef _ _ _ body _ _ _ _ _ _ _=>body.getD j<|.Pass {0,0,0,0}
 |_=>.Pass {0,0,0,0}
def JT(s:Stmt):Arguments:=match s with
 |.FunctionDef _ a _ _ _ _ _ _ _ _=>a
 |_=>{ posonlyargs:=[],args:=[],vararg:=none,kwonlyargs:=[],kw_defaults:=[],kwarg:=none,defaults:=[] }
def G5(s:Stmt):List Stmt:=match s with
 |.FunctionDef _ _ b _ _ _ _ _ _ _=>b
 |_=>[]
def AT(s:Stmt):Scope:=match s with
 |.FunctionDef _ _ _ _ _ _ sc _ _ _=>sc
 |_=>{ kind:=.function,names:=[],isGenerator:=false,isCoroutine:=false }
abbrev E0:XK:=λ_ _ _=>False
structure Fun(K:ι)(x qual:Str)(st:Stmt)(f:Addr)(fd:gg):Prop where
 ex:∃ (oc:Value) (od:Option Addr) (kV doc pm:Value) (an:Option Addr) (B8 ct:Value) (osl:Array (Option Value)),
  fd=xu x qual (JT st) (G5 st) (AT st) .none kV doc pm an B8 ct/\K.lookup f=some {oc,od,.func fd,osl}/\zn K B8 qual=true
 kp:qy K (.ref f)=true
section
variable{P:bu}{w:World}{K:ι}{mg:ZN}{base:Heap}
def Fun.binds{x qual:Str}{st:Stmt}{f:Addr}{fd:gg}{ps:qZ}(F:Fun K x qual st f fd)
  (h:∀ (kV doc pm:Value) (an:Option Addr) (B8 ct:Value) (us:qV),us.length=ps.length->bindArgs (xu x qual (JT st) (G5 st) (AT st) .none kV doc pm an B8 ct) {us,[]}=pure (ps.zip us)):Binds K fd ps []:=by
 refine u9 ?_ F.ex;rintro oc od kV doc pm an B8 ct osl ⟨rfl,lk,GI⟩;exact .all<|h kV _ pm an _ ct
def kB{x qual:Str}{st:Stmt}{f:Addr}{oc:Value}{od an:Option Addr}{osl:Array (Option Value)}{kV doc pm B8 ct:Value}(l:K.lookup f=some {oc,od,.func<|xu x qual (JT st) (G5 st) (AT st) .none kV doc pm an B8 ct,osl})
  (c:zn K B8 qual=true) (k:qy K (.ref f)=true):Fun K x qual st f (xu x qual (JT st) (G5 st) (AT st) .none kV doc pm an B8 ct):={x9 oc od kV _ pm an _ ct _ ⟨rfl,l,c⟩,k}
end
def KL(hr:Room k A):A.units+1<cLine:=cr (Nat.add_le_add_left (by decide) _) hr.units
section
variable{X:Cx}
def pv(i:Nat)(hN:X.N[i]? =some x:=by rfl)(hv:RK X.env.scope x:=by first|exact Gf rfl|exact zr (Gf rfl)|exact zr<|zr rfl)(hd:(x ==("__debug__":Str))=false:=by decide)
  (GI:(x ==("__classdict__":Str))=false:=by decide):PE X (.Name x pos) (RL i):=iV hN hv hd GI
end
def Same(H H':Hp):Prop:=∀ b o,H b=some o->H' b=some o
def Same.refl(H:Hp):Same H H:=λz z h=>h
def Same.trans{H H1 H2:Hp}(a:Same H H1)(b:Same H1 H2):Same H H2:=λc o h=>b c o<|a c o h
def Same.free{H H':Hp}(e:Same H H'){l:Addr}(h:H' l=xj):H l=xj:=by
 cases q:H l with
 |none=>rfl
 |some o =>
  rw[e l o q]at h;cases h
def Same.seq{K:ι}{H H':Hp}{a:Addr}{xs:Oj}(e:Same H H')(h:SqL K H a xs):SqL K H' a xs:=by
 rcases h with(h|⟨o,h⟩)|h
 exact .inl<|.inl<|e _ _ h;exact .inl<|.inr {o,e _ _ h};exact .inr h
section
variable{κ :Type}[DecidableEq κ]
def Nj{kvs:List (κ × V)}(h:A5 kvs k=none):¬ k∈kvs.map (·.1):=by
 intro m;obtain⟨p,hp,e⟩:=av.mp m
 have q:(kvs.any λkv=>decide<|kv.1=k)=true:=c_.mpr {p,hp,decide_eq_true e};rw[JQ,h]at q;exact absurd q (by simp)
def kC:∀ {l:List κ} {k: κ},l.Nodup->¬ k∈l->(l++[k]).Nodup
 | [],k,_,_=>by simp
 |a::r,k,h,hk=>by
  obtain⟨h1,h2⟩:=gy.mp h;refine gy.mpr {λm=>?_,kC h2 λm=>hk<|ax.mpr<|zr m};rcases a_.mp m with q|q
  exact h1 q;exact hk<|ax.mpr<|Gf (aa.mp q).symm
def Nk{kvs:List (κ × V)}(v:V)(hn:(kvs.map (·.1)).Nodup)(h:A5 kvs k=none):((B0 kvs k v).map (·.1)).Nodup:=by
 rw[j4 v h,ak];exact kC hn<|Nj h
end
def VZ:∀ (names:List (Str × yb)) (cs:List (Str × Addr)),
  (∀ x∈names,x.2=.free->∃ c,env.cells.lookup x.1=some c)->(∀ x c,cs.lookup x=some c->env.cells.lookup x=some c) ->
  ∃ cl,(forIn names cs λx r=>(if(x.2==fm)=true then do let a ← cellOf env x.1;pure (jh ((x.1,a)::r))else pure (jh r):Sem (ForInStep<|List<|Str × Addr)))=pure cl /\
   (∀ x c,cl.lookup x=some c->env.cells.lookup x=some c)/\(∀ x,(cs.lookup x).isSome=true->(cl.lookup x).isSome=true) /\
   ∀ x∈names,x.2=.free->(cl.lookup x.1).isSome=true
 | [],cs,_,h=>{cs,rfl,h,λ_ z=>z,λ_ z=>nomatch z}
 |(n,k)::r,cs,hf,h=>by
  by_cases hk:k=.free;subst hk;obtain⟨c,hc⟩:=hf _ ω rfl;obtain⟨cl,e,h1,h2,h3⟩:=VZ r ((n,c)::cs) (λx hx=>hf x<|υ _ hx) (λx c' hx=>by
   by_cases hxn:x=n;subst hxn;simp only[ao,beq_self_eq_true]at hx;obtain rfl:=μ hx;exact hc
   have  :=beq_eq_false_iff_ne.mpr hxn;simp only[ao,this]at hx;exact h x c' hx)
  refine{cl,?_,h1,λx hx=>h2 x ?_,λx hx hxf=>?_};rw[yz]
  show(((match env.cells.lookup n with|some a=>pure a|none=>_)>>=_)>>=_)=_;rw[hc];exact e;by_cases hxn:x=n;subst hxn;simp
  have  :=beq_eq_false_iff_ne.mpr hxn;simp only[ao,this];exact hx;rcases ax.mp hx with rfl|hx
  exact h2 n (by simp);exact h3 x hx hxf;obtain⟨cl,e,h1,h2,h3⟩:=VZ r cs (λx hx=>hf x<|υ _ hx) h;refine{cl,?_,h1,h2,λx hx hxf=>?_};rw[yz,if_neg (by simp[(hk)])];exact e;rcases ax.mp hx with rfl|hx
  exact absurd hxf hk;exact h3 x hx hxf
def kD(hf:∀ x∈scope.names,x.2=.free->∃ c,env.cells.lookup x.1=some c) :
  ∃ cl,closureFor scope env=pure cl/\(∀ x c,cl.lookup x=some c->env.cells.lookup x=some c)/\∀ x∈scope.names,x.2=.free->(cl.lookup x.1).isSome=true:=by
 obtain⟨cl,e,h1,z,h3⟩:=VZ  _ [] hf (λx c h=>by simp at h);refine{cl,?_,h1,h3}
 have:(forIn scope.names ([]) λx r=>(if(x.2==fm)=true then do let a ← cellOf env x.1;pure (jh ((x.1,a)::r))else pure (jh r))) >>=(λr=>(pure r))=(pure cl:Sem _):=by rw[e];rfl
 exact this
def kE{env:Env}:∀ {names:List (Str × yb)} {x:Str},names.lookup x=some .free ->
  (names.map λ(n,k)=>if(k==fm&&env.scope.kind == .function&&env.kindOf n==some .cell)then(n,fq)else(n,k)).lookup x=some .cell ∨
  (names.map λ(n,k)=>if(k==fm&&env.scope.kind == .function&&env.kindOf n==some .cell)then(n,fq)else(n,k)).lookup x=some .free
 | [],_,h=>by simp at h
 |(n,k)::r,x,h=>by
  by_cases hx:x=n;subst hx;simp only[ao,beq_self_eq_true]at h;obtain rfl:=μ h
  show gq x ((if _ then(x,fq)else(x,fm))::_)=_\/gq x ((if _ then(x,fq)else(x,fm))::_)=_;split;exact .inl (by simp);exact .inr (by simp)
  have hb:=beq_eq_false_iff_ne.mpr hx;simp only[ao,hb]at h
  show gq x ((if _ then(n,fq)else(n,k))::_)=_\/gq x ((if _ then(n,fq)else(n,k))::_)=_;split<;>(simp only[ao,hb];exact(kE  h))
def kF{env:Env}:∀ {names:List (Str × yb)} {x:Str},
  ((names.map λ(n,k)=>if(k==fm&&env.scope.kind == .function&&env.kindOf n==some .cell)then(n,fq)else(n,k)).lookup x=some .cell ∨
  (names.map λ(n,k)=>if(k==fm&&env.scope.kind == .function&&env.kindOf n==some .cell)then(n,fq)else(n,k)).lookup x=some .free)->(x,fm)∈names\/(x,fq)∈names
 | [],_,h=>by simp at h
 |(n,k)::r,x,h=>by
  by_cases hx:x=n;subst hx
  have h:gq x ((if(k==fm&&env.scope.kind == .function&&env.kindOf x==some _)=true then(x,fq)else(x,k))::_)=some _\/gq x ((if(k==fm&&env.scope.kind == .function&&env.kindOf x==some _)=true then(x,fq)else(x,k))::_)=some _:=h;split at h;rename_i hc;rw[cj,cj]at hc
  have:k=.free:=by simpa using hc.1.1
  subst this;exact .inl ω;simp only[ao,beq_self_eq_true]at h;rcases h with h|h
  cases h;exact .inr ω;cases h;exact .inl ω
  have h:gq x ((if(k==fm&&env.scope.kind == .function&&env.kindOf n==some _)=true then(n,fq)else(n,k))::_)=some _\/gq x ((if(k==fm&&env.scope.kind == .function&&env.kindOf n==some _)=true then(n,fq)else(n,k))::_)=some _:=h
  have h':=h;split at h'
  all_goals
   simp only[ao,(beq_eq_false_iff_ne.mpr hx)]at h';exact(kF h').imp (υ _) (υ _)
def FA{a b:Addr}{n:Nat}(h:a<n)(h2:n<=b):a≠b:=bg<|χ h h2
def Cx.block(X:Cx)(AA:rN)(s:π)(H:Hp)(Nc:qZ)(scope:Scope)(cl:List (Str × Addr))(C:Addr)(fp:qX):Cx where
 prog:=X.prog
 w:=X.w
 K:=X.K
 mg:=X.mg
 base:=X.base
 A:=X.A
 N:=Nc
 s₀:=s
 H₀:=H
 env:=compEnvC scope cl C X.env
 outer:=X.stack
 stack:=X.stack
 ex:=fp
 fn:=λ_=>false
 calm:=X.calm
 pn:=X.pn++AA
 xe:=λ_ _=>False
abbrev _root_.Oz:=List Nat
structure JU(X:Cx)(scope:Scope)(tn cn:qZ)(A4:Oz):Prop where
 kind:scope.kind=.function
 nocell:∀ y∈scope.names,y.2≠.cell
 names:∀ y∈scope.names,y.2=.local->scope.names.lookup y.1=some .local
 free:∀ y∈scope.names,y.2=.free->X.env.kindOf y.1=some .cell\/X.env.kindOf y.1=some .free
 drawn:∀ x∈cn,scope.names.lookup x=some .free
 caps:A4.map (λi=>X.N[i]?)=cn.map some
def KM(k:Nat)(A4:Oz)(σ:St):St:=bd k none++A4.map λi=>(σ[i]?).join
def HOk.track(x:HOk P w H h)(hn:H a=none)(new:ObjOk P w (upd H a o) h a o):HOk P w (upd H a o) h:=λb u e=>by
 by_cases hb:b=a;subst hb;rw[AD]at e;obtain rfl:=μ e;exact new;rw[AH hb]at e;refine(x b u e).stay (λz z z q=>q) (λc q=>?_) λc xs q=>?_;rw[AH (BE q hn)];exact q;rw[AH (BE q hn)];exact q
section
variable{X:Cx}{AA:rN}{σ:St}{H:Hp}{s:π}
def Inv.pinlt(I:Inv X AA σ H s)(hp:p∈X.pn++AA):p.1<s.heap.objs.size:=au (I.pin p hp).1
def Inv.stkne(I:Inv X AA σ H s)(h1:b≠X.env.locals)(h2:b∉X.fs):b∉D0 X.stack:=λz=>(ax.mp<|I.stkSub b z).elim h1 h2
def Inv.stklt(I:Inv X AA σ H s)(h:b∈D0 X.stack):b<s.heap.objs.size:=by
 obtain⟨z,o,ho,z⟩:=I.stack.mem h;exact au ho
def Inv.block{scope:Scope}{tn cn:qZ}{cl:List (Str × Addr)}{s1:π}(I:Inv X AA σ H s)(S:JU X scope tn cn A4)
  (BC:∀ x c,cl.lookup x=some c->X.env.cells.lookup x=some c) (G1:∀ x∈scope.names,x.2=.free->(cl.lookup x.1).isSome=true)
  (hf:∀ b∈fp,FpOk X AA H b) (hfl:∀ b∈fp,b<s.heap.objs.size) (hC:s.heap.objs.size<=C) (k:∀ b o,s.heap.get? b=some o->s1.heap.get? b=some o)
  (hos:s1.os=s.os) (hg:s1.gens=s.gens) (hns:∃ m,s1.heap.Ns C m)
  (hp:∀ p∈pins',s1.heap.get? p.1=some p.2/\H p.1=none/\p.1≠C/\p.1∉D0 X.stack/\∀ v,p.2.data≠.cell v) :
  Inv (X.block AA s H (tn++cn) scope cl C fp) pins' (KM tn.length A4 σ) H s1:=by
 have ok:(X.block AA s H (tn++cn) scope cl C fp).Ok:=by
  refine{I.ok.mod,S.kind,I.ok.glob,I.ok.blt,hC,λx y c h1 h2=>I.ok.inj x y c (BC x c h1) (BC y c h2),λx hx=>?_,λx c z t=>(by cases z),I.ok.hd,I.ok.frames,.inl rfl,λb hb=>{(bg<|χ (hfl b hb) hC),λx c e=>(hf b hb).2.2.2.2.1 x c (BC x c e)},I.bs,ψ I.ok.bsz I.sz,λb o e hb=>?_,λb hb=>I.stkne (hf b hb).2.1 (hf b hb).2.2.1,I.stack,I.stkFree};rcases kF  hx with z|z
  exact da.mp<|G1 _ z rfl;exact absurd rfl<|S.nocell _ z;rcases(hf b hb).2.2.2.1 with z|z
  exact I.ok.noex b o e z;exact absurd (χ (au e) (ψ I.ok.bsz z)) (jm _)
 refine{ok,hos,by rw[hg];exact I.bare,Un.kept k,?_,λx c e=>?_,I.hok.fresh hC,λx c e=>I.freeC x c<|BC x c e,λp hp'=>?_,I.hok.kept k,?_};obtain⟨m,hm⟩:=hns;refine{m,hm,λi x v h1 h2 h3=>?_}
 have hi:tn.length<=i:=by
  rcases e_ i _ with z|z
  unfold KM at h2;rw[ba (by simpa using z),yc]at h2;split at h2<;>cases h2;exact z
 unfold KM at h2;rw[cf (by simpa using hi),nq,τ]at h2
 have h1':cn[i-tn.length]? =some x:=by
  have:(tn++cn)[i]? =some x:=h1
  rwa [cf hi]at this
 cases hq:A4[i-tn.length]? with
 |none=>rw[hq]at h2;cases h2
 |some j =>
  rw[hq]at h2
  have hj:X.N[j]? =some x:=by
   have:=congrArg (λl=>l[i-tn.length]?) S.caps;simp only[τ,hq,h1']at this;exact μ this
  have hv:σ[j]? =some (some v):=by
   cases hs:σ[j]? with
   |none=>simp[hs]at h2
   |some y=>simp only[rj,hs]at h2;obtain rfl:=μ h2;rfl
  have hxf:=PySem.mem_of_lookup<|S.drawn x<|θ h1';obtain⟨m0,t,hl0⟩:=I.loc
  have hk:=S.free _ hxf rfl;obtain⟨u,r,q⟩:=hl0 j x v hj hv<|hk.elim (λz=>.inr<|.inl z) λz=>.inr<|.inr z;refine{u,r,.inr {kE<|S.drawn x<|θ h1',?_}};rcases q with⟨kl,_⟩|⟨_,c,hc,z⟩
  rcases hk with hk|hk<;>(rw[kl]at hk;cases hk)
  obtain⟨c',hc'⟩:=da.mp<|G1 _ hxf rfl
  have:=BC _ _ hc';rw[hc]at this;obtain rfl:=μ this;exact{c,hc',z.keeps k}
 obtain⟨v,z⟩:=I.cell x c<|BC x c e;exact{v,z.keeps k};rcases a_.mp hp' with z|z
 obtain⟨e,n,ne,nf,d⟩:=I.pin p z;exact{k _ _ e,n,bg<|χ (au e) hC,I.stkne ne nf,d};exact hp p z;unfold KM
 have:=congrArg lu S.caps
 show _=(tn++cn).length;simp only[ζ]at this;simp[this]
end
def CO:TT:=λ_ H Q=>Q true H
def KO(X:Cx)(EI:rY)(t:TT):Prop :=
 ∀ (AA:rN) (s:π) (σ:St) (H:Hp) (Q:qQ),Inv X AA σ H s->t σ H Q ->
  wpAny (model X.prog X.w) X.A (forIn EI true λc r=>if r=true then do let ok ← Le c X.env (eval c X.env);pure (jh ok)else pure (jh r)) (TP X AA σ Q) X.xe s
def Nl:KO X [] CO:=λAA s σ H Q I h=>wpAny_tests_nil ⟨H,I,h⟩
def Nm(h:PT X c t):KO X [c] t:=λAA s σ H Q I q=>wpAny_tests_one<|h _ s σ H Q I q
def Np (Jn:Nat->π->Prop)
    (turn:∀ n s,Jn n s->wpAny (model prog w) A (xr it) (λr s₁=>match r with
      |none=>R (.ok .next) s₁
      | some v=>wpAny (model prog w) A (yx target it v) (λ_ s₂=>wpAny (model prog w) A (Li target env v) (λ_ s₃ =>
          wpAny (model prog w) A (forIn EI true λc r=>if r=true then do let ok ← Le c env (eval c env);pure (jh ok)else pure (jh r)) (λok s₄ =>
            if ok=true then wpAny (model prog w) A (eval EH env) (λx s₅ =>
              wpAny (model prog w) A (call (.builtin "list.append") [BN,x]) (λ_ s₆=>∃ m,m<n/\Jn m s₆) (λ_ _=>False) s₅) (λ_ _=>False) s₄
            else ∃ m,m<n/\Jn m s₄) (λ_ _=>False) s₃) (λ_ _=>False) s₂) (λ_ _=>False) s₁) (λ_ _=>False) s)
    (n:Nat) (h:Jn n s):uy (model prog w) A (.compLoop (.ListComp EH [{target,iter,EI,0}] scope pos) 0 it BN env) R s:=by
  refine codeAny_loop rfl Jn (λn' s' hJ=>(wpAny_noted<|wpAny_noRaise<|δ<|As<|δ<|AO (turn n' s' hJ) λr s₁ h₁=>?_)) n h;cases r with
  |none=>exact ν h₁
  |some v =>
    refine δ<|AO h₁ λ_ s₂ h₂=>(δ<|AO h₂ λ_ s₃ h₃=>δ<|AO h₃ λok s₄ h₄=>?_);cases ok with
    |false=>exact ν ⟨rfl,h₄⟩
    |true=>exact δ<|δ<|AO h₄ λx' s₅ h₅=>δ<|AO h₅ λ_ s₆ h₆=>ν<|ν ⟨rfl,h₆⟩
def BS(wi:TI)(g:TG)(tt:TT)(te:TE)(k:Nat)(A4:Oz):TE:=λσ H Q=>wi σ H λJ H1 =>
 ∃ W:Nat->Nat->St->Oj->Hp->Prop,(∃ m,W 0 m (KM k A4 σ) [] H1)/\∀ i m σ' ys H,W i m σ' ys H ->
  (J.stop i H/\∀ p,H p=none->Q (.ref p) (upd H p<|.lst ys)) ∨
  (J.go i H/\ys.length<sizeLine/\∀ x H',J.yld i H x H'->g x σ' H' λσ2 H2=>tt σ2 H2 λb H3 =>
   if b=true then ∃ N:VK,(∀ y H4,N y H4->∃ m',m'<m/\W (i+1) m' σ2 (ys++[y]) H4)/\te σ2 H3 N else ∃ m',m'<m/\W (i+1) m' σ2 ys H3)
structure CompDone(X:Cx)(fp:qX)(H:Hp)(s:π)(Q:VK)(BN:Value)(C:Addr)(r:Result)(s':π):Prop where
 ok:r=.ok .next
 ex:∃ (D:Addr) (ys:Oj) (AJ:qV) (n:Nat) (H':Hp),BN=.ref D/\Vals ys AJ/\ys.length<=sizeLine/\s'.heap.get? D=some { cls:=.type "list",data:=.seq AJ.toArray n }/\s.heap.objs.size<=D/\D≠C/\H' D=none/\H' C=none ∧
  (∃ m,s'.heap.Ns C m)/\Un (D0 X.stack) fp H H' s.heap s'.heap/\HOk X.prog X.w H' s'.heap/\∀ p,H' p=none->Q (.ref p) (upd H' p<|.lst ys)
 ge:s.heap.objs.size<=C
 os:s'.os=s.os
 bare:tz s'.gens
section
variable{X:Cx}{AA:rN}{σ:St}{H:Hp}{s:π}
def kG {scope:Scope} {tt:TT} {te:TE} {tn cn:qZ} {cl:List (Str × Addr)} {tn':Nat->Heap->Prop} {J:It} {Q:VK} {E:xP}
    (I:Inv X AA σ H s) (S:JU X scope tn cn A4) (hc:X.calm=true)
    (BC:∀ x c,cl.lookup x=some c->X.env.cells.lookup x=some c) (G1:∀ x∈scope.names,x.2=.free->(cl.lookup x.1).isSome=true)
    (T:JM X.prog X.w X.K tg J fp it tn') (st:tn' 0 s.heap) (hf:∀ b∈fp,FpOk X AA H b)
    (hg:∀ C,PG (X.block AA s H (tn++cn) scope cl C fp) tg g) (ht:∀ C,KO (X.block AA s H (tn++cn) scope cl C fp) EI tt) (he:∀ C,PE (X.block AA s H (tn++cn) scope cl C fp) EH te)
    (W:Nat->Nat->St->Oj->Hp->Prop) (w0:W 0 m0 (KM tn.length A4 σ) [] H)
    (step:∀ i m σ' ys H,W i m σ' ys H ->
      (J.stop i H/\∀ p,H p=none->Q (.ref p) (upd H p<|.lst ys)) ∨
      (J.go i H/\ys.length<sizeLine/\∀ x H',J.yld i H x H'->g x σ' H' λσ2 H2=>tt σ2 H2 λb H3 =>
        if b=true then ∃ N:VK,(∀ y H4,N y H4->∃ m',m'<m/\W (i+1) m' σ2 (ys++[y]) H4)/\te σ2 H3 N else ∃ m',m'<m/\W (i+1) m' σ2 ys H3)) :
    wpAny (model X.prog X.w) X.A (newList []) (λBN s₃=>wpAny (model X.prog X.w) X.A (newFunctionEnv scope X.env.globals cl [] X.env.qual none .none (some X.env)) (λcenv s₄ =>
      uy (model X.prog X.w) X.A (.compStart (.ListComp EH [{tg,iter,EI,0}] scope pos) 0 (.ref it) BN { cenv with scope:=relabel scope X.env }) (CompDone X fp H s Q BN cenv.locals) s₄) E s₃) E s:=by
  refine dv (wpAny_newFunctionEnv S.nocell (by intro y hy;simp at hy) (λh₁ hns₁ hsb₁=>?_) S.kind);generalize hH2:s.heap.push _=H2 at hns₁ hsb₁ ⊢;generalize hCe:H2.objs.size=C at hns₁ hsb₁ ⊢
  have hC:=hCe.symm.trans (by rw[<-hH2,zl]);generalize hD:s.heap.objs.size=D at *
  have hDC:D≠C:=by rw[hC];exact bg<|f_ _
  have old:∀ b o,s.heap.get? b=some o->h₁.get? b=some o:=λb o e=>by
    have hb:b<D:=by rw[<-hD];exact au e
    exact hsb₁.extBut b o (FA hb (by rw[hC];exact jc _)) (ο _<|hH2 ▸ ο _ e)
  have hDo:h₁.get? D=some { cls:=.type "list",data:=.seq ([]).toArray }:=by
    refine hsb₁.extBut _ _ hDC<|ο _ ?_;rw[<-hH2,<-hD];exact aj _ rfl
  have hDs:=λz=>FA (I.stklt z) (bc hD) rfl
  have hfl:∀ b∈fp,b<s.heap.objs.size:=λb hb=>by
    obtain⟨o,e,_⟩:=T.obj 0 _ st b hb;exact au e
  have I0:Inv _ [(D,{ cls:=.type _,data:=.seq _ 0 })] _ H { s with heap:=h₁,toks:=s.toks+([]:rK).length } :=
    I.block S BC G1 hf hfl (by lia) old rfl rfl ⟨_,hns₁⟩ λp hp=>by
      rw[aa]at hp;subst hp;exact{hDo,(by rw[<-hD];exact I.hok.fresh<|ρ _),hDC,hDs,λv z=>nomatch z}
  have st1:=T.keep _ _ _ st λb _ o e=>old b o e
  have fpok:∀ {H':Hp} {o:Obj},(∀ b∈fp,H' b=none)->∀ b∈fp,FpOk (X.block AA s H (tn++cn) scope cl C fp) [(D,o)] H' b:=λ{H' o} hn b hb=>by
    obtain⟨_,f1,f2,f3,f4,f5⟩:=hf b hb
    have hbl:=hfl b hb;refine{hn b hb,?_,I.stkne f1 f2,.inl hb,λx c e=>f4 x c<|BC x c e,λp hp=>?_}
    ·exact FA hbl (by rw[hD,hC];exact jc _)
    · rcases a_.mp hp with z|z
      ·exact f5 p z
      ·rw[aa]at z;subst z;exact fg<|FA hbl<|bc hD
  have loop:∀ s₃:π,s₃={ s with heap:=h₁,toks:=s.toks+([]:rK).length } ->
      uy (model X.prog X.w) X.A (.compLoop (.ListComp EH [{tg,iter,EI,0}] scope pos) 0 (.ref it) (.ref D) (compEnvC scope cl C X.env)) (CompDone X fp H s Q (.ref D) C) s₃:=by
    rintro s₃ rfl;refine Np (λn s'=>∃ i σ' ys AJ nn H',Inv (X.block AA s H (tn++cn) scope cl C fp) [(D,{ cls:=.type "list",data:=.seq (AJ:qV).toArray nn })] σ' H' s'/\tn' i s'.heap/\(∀ b∈fp,H' b=none)/\Vals ys AJ/\ys.length<=sizeLine/\W i n σ' ys H') ?_ m0
      {0,_,[],[],0,H,I0,st1,λb hb=>(hf b hb).1,.nil,bh _,w0}
    rintro n s4 ⟨i,σ4,ys,AJ,nn,H4,I4,st4,fr4,r4,l4,w4⟩;rcases step i n σ4 ys H4 w4 with⟨stop,qn⟩|⟨go,AY,next⟩
    · refine AO (T.done (X.block AA s H (tn++cn) scope cl C fp) rfl rfl rfl hc i _ s4 σ4 H4 _ I4 (fpok fr4) st4 stop) λr s5 hzz=>?_
      obtain⟨hr,I5⟩:=hzz;subst hr
      have hp:=I5.pin (D,_) (bv _ ω);obtain⟨m5,hm5,_⟩:=I5.loc;exact{rfl,x5 D ys AJ nn H4 {rfl,r4,l4,hp.1,bc hD,hDC,hp.2.1,I5.free,⟨m5,hm5⟩,I5.base,I5.hok,qn},by omega,I5.os,I5.bare}
    · refine AO (T.item (X.block AA s H (tn++cn) scope cl C fp) rfl rfl rfl hc i _ s4 σ4 H4 _ I4 (fpok fr4) st4 go) λr s5 hzz=> ?_
      obtain⟨u,hr,h5⟩:=hzz;subst hr;refine AO h5 λ_ s6 hzz=>?_;obtain⟨x,H6,I6,r6,y6,st6,fr6⟩:=hzz
      have I6':=I6.pinned (fpok fr6) (T.obj _ _ st6);refine AO (hg C _ s6 σ4 H6 x u _ I6' r6<|next x H6 y6) λ_ s7 hzz=>?_;obtain⟨σ7,H7,I7,q7⟩:=hzz;refine AO (ht C _ s7 σ7 H7 _ I7 q7) λok s8 hzz=>?_;obtain⟨H8,I8,q8⟩:=hzz
      have keepst:∀ {σ9:St} {H9:Hp} {s9:π},Inv (X.block AA s H (tn++cn) scope cl C fp) ([(D,{ cls:=.type "list",data:=.seq AJ.toArray nn })]++N9 fp s6.heap) σ9 H9 s9->(∀ b∈fp,∀ o,s6.heap.get? b=some o->s9.heap.get? b=some o)/\∀ b∈fp,H9 b=none:=λ{σ9 H9 s9} I9=>by
        refine{λb hb o e=>(I9.pin (b,o) (bv _<|bv _<|MU hb e)).1,λb hb=>?_};obtain⟨o,e,_⟩:=T.obj _ _ st6 b hb;exact(I9.pin (b,o) (bv _<|bv _<|MU hb e)).2.1
      cases ok with
      |false =>
        obtain⟨m',hm',w'⟩:=q8;obtain⟨k1,k2⟩:=keepst I8;exact{m',hm',x6 (i+1) σ7 ys AJ nn H8 {I8.unpinned,T.keep _ _ _ st6 k1,k2,r4,l4,w'}}
      | true =>
        obtain⟨Nw,hN,q8⟩:=q8;refine AO (he C _ s8 σ7 H8 Nw I8 q8) λv s9 hzz=>?_;obtain⟨y,H9,I9,r9,n9⟩:=hzz;obtain⟨m',hm',w'⟩:=hN y H9 n9;obtain⟨k1,k2⟩:=keepst I9
        have hp:=I9.pin (D,_) (bv _<|ja _ ω)
        have e:=hp.1
        have CC:=r4.length;refine ss Br ⟨_,e,rfl⟩ An (zq _ _) (PySem.list_append D AJ.toArray nn v (by rw[az];exact oB (cr (bc CC.symm) AY) rfl)) {e,?_}
        have q:=PySem.IsL.update e<|λxs=>xs.push v
        have Ia:Inv (X.block AA s H (tn++cn) scope cl C fp) [] σ7 H9 s9:=I9.pins_of λp hp=>nomatch hp
        have Ib:=Ia.turned (h':=s9.heap.update D (ma (·.push v))) (t':=s9.toks) (it:=D) (λb o hb eb=>(de _ _<|fg hb).trans eb) hp.2.1 hDC (.inr (by show s.heap.objs.size<=D;exact bc hD))
          (λx c ec z=>by
            obtain⟨vv,zc⟩:=I.cell x c<|BC x c ec;exact FA zc.lt (bc hD) z)
          (λp hp'=>by
            rw[jg]at hp';exact FA (I.pinlt hp') (bc hD))
        have q':(s9.heap.update D (ma (·.push v))).get? D=some { cls:=.type "list",data:=.seq (AJ++[v]).toArray (nn+1) }:=by
          rw[if_neg (by simp)]at q;rw[<-List.push_toArray];exact q
        refine{m',hm',x6 (i+1) σ7 (ys++[y]) (AJ++[v]) (nn+1) H9 {Ib.pins_of<|λp hp'=>?_,T.keep _ _ _ st6 λb hb o eb=>?_,k2,r4.append<|.cons r9 .nil,?_,w'}}
        · rw[aa]at hp'
          subst hp';exact{q',hp.2.1,hDC,hDs,λv' z=>nomatch z}
        · have hbl:=hfl b hb
          exact(de _ _<|fg<|FA hbl<|bc hD).trans (k1 b hb o eb)
        · rw[af,iw]
          exact AY
  exact codeAny_compStart_list (loop _ rfl) (T.self _ 0 _ _ _ st1<|loop _ rfl)
def CompDone.inv{Q:VK}{s':π}(I:Inv X AA σ H s)(hf:∀ b∈fp,FpOk X AA H b)(h:CompDone X fp H s Q BN C r s') :
  ∃ D H',BN=.ref D/\Inv X AA σ H' s'/\Q (.ref D) H'/\H' C=none/\∃ m,s'.heap.Ns C m:=by
 obtain⟨z,⟨D,ys,AJ,n,H',rfl,r4,l4,e,hD,hDC,hDn,hCn,hm,u,ok,q⟩,hC,os,bare⟩:=h
 have ltH:∀ b o,H b=some o->b≠D:=λb o eb=>FA (I.hok.lt eb) hD;refine x2 D (upd H' D<|.lst ys) {rfl,I.call'  os {u.keep,u.slot,λb o eb n' hx=>?_,u.there,λb xs eb=>?_,λb o x eb=>?_,λb ps eb=>?_} (ok.track hDn {l4,x2 _ n ⟨r4,e⟩}) bare (λb hb=>?_),q D hDn,?_,hm};rw[AH ((λb o eb=>FA (au eb) hD) b o eb)];exact u.free b o eb n' hx;rw[AH (ltH b _ eb)];exact u.tups b xs eb;rw[AH (ltH b _ eb)];exact u.frzs b o x eb;rw[AH (ltH b _ eb)];exact u.tbls b ps eb;obtain⟨z,f1,f2,f3,f4,f5⟩:=hf b hb;exact⟨f3,f1,f4,f5⟩;rw[AH (fg hDC)];exact hCn
def Inv.letgo{s1:π}(I:Inv X AA σ H s)(hC:s.heap.objs.size<=C)(I1:Inv X AA σ1 H1 s1)(hn:H1 C=none)(hs:fu C s1.heap h'):Inv X AA σ1 H1 { s1 with heap:=h' }:=by
 refine I1.turned   (λb o hb e=>(hs.2 b hb).trans e) hn (λz=>(FA I.lt hC z.symm)) (.inr<|ψ I.sz hC) (λx c e z=>?_) λp hp z=>(FA (I.pinlt hp) hC z)
 obtain⟨v,zc⟩:=I.cell x c e;exact FA zc.lt hC z
variable{tg iter EH:Expr}{EI:rY}{scope:Scope}{pos:Pos}{wi:TI}{g:TG}{tt:TT}{te:TE}{tn cn:qZ}{A4:Oz}
def Nq(S:JU X scope tn cn A4)(hc:X.calm=true)(hi:PI X tg iter wi)
  (hg:∀ AA s H cl C fp,PG (X.block AA s H (tn++cn) scope cl C fp) tg g) (ht:∀ AA s H cl C fp,KO (X.block AA s H (tn++cn) scope cl C fp) EI tt) (he:∀ AA s H cl C fp,PE (X.block AA s H (tn++cn) scope cl C fp) EH te)
  (hs:∀ x,jy iter X.env x=pure x:=by intro z;rfl):PE X (.ListComp EH [{tg,iter,EI,0}] scope pos) (BS wi g tt te tn.length A4):=by
 intro AA s σ H Q I h;obtain⟨cl,ecl,BC,G1⟩:=kD   λx hx hxf=>I.ok.has _<|S.free x hx hxf;refine xv  rfl hs ecl S.kind S.names (AO (hi _ s σ H _ I h) λv s1 h1=>AO h1 λitv s2 h2=>?_);revert h2;apply u5;rintro it fp tn' J H2 ⟨rfl,I2,T,st2,f2,W,⟨m0,w0⟩,turn⟩;refine AO (kG I2 S hc BC G1 T st2 f2 (λC=>hg _ _ _ _ C _) (λC=>ht _ _ _ _ C _) (λC=>he _ _ _ _ C _) W w0 turn) λBN s3 h3=>AO h3 λcenv s4 h4=>l_ h4 λr s5 h5=>?_
 have hr:=h5.ok;subst hr;refine u2 ?_<|h5.inv I2 f2;rintro D H' ⟨rfl,I5,q5,hCn,m,hm⟩;exact{m,hm,λh' hs'=>x2 (.ref D) H' {I2.letgo h5.ge I5 hCn hs',rfl,q5}}
def Nv{x:Str}{px spos:Pos}(S:JU X scope tn cn A4)(hc:X.calm=true)(hN:X.N.Nodup)(hi':X.N[i]? =some x)(hx:X.env.scope.names.lookup x=some .local)(hi:PI X tg iter wi)
  (hg:∀ AA s H cl C fp,PG (X.block AA s H (tn++cn) scope cl C fp) tg g) (ht:∀ AA s H cl C fp,KO (X.block AA s H (tn++cn) scope cl C fp) EI tt) (he:∀ AA s H cl C fp,PE (X.block AA s H (tn++cn) scope cl C fp) EH te)
  (hsw:vz (.ListComp EH [{tg,iter,EI,0}] scope pos) (some<|.Name x px) spos.line X.env=pure true:=by rfl)
  (hs:∀ x,jy iter X.env x=pure x:=by intro y;rfl):PS X (.Assign [.Name x px] (.ListComp EH [{tg,iter,EI,0}] scope pos) spos) (AS (BS wi g tt te tn.length A4) (AE i)):=by
 intro AA s σ H D I h;obtain⟨cl,ecl,BC,G1⟩:=kD   λx hx hxf=>I.ok.has _<|S.free x hx hxf;rw[exec_Assign_Name_used _ _ _ _ hsw];refine δ<|As<|δ<|δ<|xv  rfl hs ecl S.kind S.names (AO (hi _ s σ H _ I h) λv s1 h1=>AO h1 λitv s2 h2=>?_);revert h2;apply u5;rintro it fp tn' J H2 ⟨rfl,I2,T,st2,f2,W,⟨m0,w0⟩,turn⟩;refine AO (kG (Q:=λx' H1=>AE i x' σ H1 _) I2 S hc BC G1 T st2 f2 (λC=>hg _ _ _ _ C _) (λC=>ht _ _ _ _ C _) (λC=>he _ _ _ _ C _) W w0 turn) λBN s3 h3=>AO h3 λcenv s4 h4=>l_ h4 λr s5 h5=>?_
 have hr:=h5.ok;subst hr;refine u2 ?_<|h5.inv I2 f2;rintro Da H' ⟨rfl,I5,q5,hCn,m,hm⟩;refine Ci<|iT I5 hN hi' (.inl hx) (show RelV (.ref Da) _ from rfl) (λs6 I6 ⟨a,hsb,ha⟩=>{m,hm.sameBut hsb ?_,λh' hs'=>(ν<|ν<|x2 _ H' {I2.letgo h5.ge I6 hCn hs',q5})}) (.inr hx);rcases ha with z|z
 exact fg<|z ▸ FA I2.lt h5.ge;obtain⟨vv,zc⟩:=I2.cell x a z;exact fg<|FA zc.lt h5.ge
end
def ObjOk.there(x:ObjOk P w H h a o):∃ ob,h.get? a=some ob:=by
 cases o with
 |lst xs=>obtain⟨z,z,z,z,e⟩:=x;exact⟨_,e⟩
 |tup xs=>obtain⟨z,z,z,ob,e,z⟩:=x;exact⟨_,e⟩
 |dK kvs=>obtain⟨z,z,z,z,ob,z,z,e,z⟩:=x;exact⟨_,e⟩
 |dT kvs=>obtain⟨z,z,z,z,ob,z,z,e,z⟩:=x;exact⟨_,e⟩
 |set S n=>revert x;apply u4;rintro ob z z z ⟨e,z⟩;exact⟨_,e⟩
 |ins C dx fs=>obtain⟨z,z,z,e,z⟩:=x;exact⟨_,e⟩
 |own y=>exact x
 |xd fs=>obtain⟨z,⟨ob,z,z,e,z⟩,z⟩:=x;exact⟨_,e⟩
 |rng lo hi=>revert x;apply u3;rintro z z z e;exact⟨_,e⟩
 |frz ob u=>obtain⟨e,z⟩:=x;exact⟨_,e⟩
 |tbl ps=>exact⟨_,x⟩
 |met f y=>exact⟨_,x⟩
 |ext φ =>exact x.2.1
def HOk.nh(x:HOk P w H h)(e:h.get? a=none):H a=none:=by
 cases q:H a with
 |none=>rfl
 |some o =>
  obtain⟨ob,e'⟩:=(x a o q).there;rw[e]at e';cases e'
section
variable{X:Cx}{AA:rN}{σ:St}{H H':Hp}{s:π}{h':Heap}
def Inv.stepN{g':Array Cf}{t':Nat}{d':Drawn}{ch:qX}(I:Inv X AA σ H s)
  (DI:∀ b∈ch,(b∈X.ex\/X.s₀.heap.get? b=none)/\b≠X.env.locals/\(∀ x c,X.env.cells.lookup x=some c->c≠b)/\∀ p∈X.pn++AA,p.1≠b)
  (keep:∀ b o,b≠X.env.locals->b∉X.fs->b∉ch->s.heap.get? b=some o->H b=none->h'.get? b=some o)
  (slot:∀ b o,b≠X.env.locals->b∈X.fs->b∉ch->s.heap.get? b=some o->H b=none->∃ sl,h'.get? b=some { o with slots:=sl }) (free:∀ b o,b∉ch->s.heap.get? b=some o->H b=none->H' b=none)
  (there:∀ b o,b∉ch->s.heap.get? b=some o->∃ o',h'.get? b=some o')
  (tups:∀ b xs,H b=some (.tup xs)->H' b=some (.tup xs)) (frzs:∀ b o u,H b=some (.frz o u)->H' b=some (.frz o u)) (tbls:∀ b ps,H b=some (.tbl ps)->∃ more,H' b=some (.tbl<|ps++more))
  (ns:∀ m,s.heap.Ns X.env.locals m->h'.Ns X.env.locals m) (hok:HOk X.prog X.w H' h') (hg:tz g') :
  Inv X AA σ H' { s with heap:=h',gens:=g',drawn:=d',toks:=t' }:=by
 have neL:∀ b o,X.s₀.heap.get? b=some o->b≠X.env.locals:=λb o e=>bg<|χ (au e) I.ok.above
 have neC:∀ b o,X.s₀.heap.get? b=some o->b∉X.ex->b∉ch:=λb o e hx hb=>by
  rcases(DI b hb).1 with z|z
  exact hx z;rw[e]at z;cases z
 have cellK:∀ x c,X.env.cells.lookup x=some c->∀ v,s.heap.IsCell c v->h'.IsCell c v:=λx c e v ⟨o,ho,hd⟩=>by
  have nch:=λz=>(DI c z).2.2.1 x c e rfl;by_cases hc:c∈X.fs;obtain⟨sl,q⟩:=slot c o (I.cne x c e) hc nch ho (I.freeC x c e);exact⟨_,q,hd⟩;exact{o,keep c o (I.cne x c e) hc nch ho (I.freeC x c e),hd}
 refine{I.ok,I.os,hg,{λb o e n hb hx=>(keep b o (neL b o e) hb (neC b o e hx) (I.base.keep b o e n hb hx) (I.base.free b o e n hx)),λb o e n hb hx=>?_,λb o e n hx=>?_,λb o e hx=>?_,λb xs e=>tups b xs<|I.base.tups b xs e,λb o xs e=>frzs b o xs<|I.base.frzs b o xs e,λb ps e=>?_},?_,λx c e=>?_,?_,λx c e=>?_,λp hp=>?_,hok,I.len};obtain⟨sl,e1⟩:=I.base.slot b o e n hb hx;obtain⟨sl',e2⟩:=slot b _ (neL b o e) hb (neC b o e hx) e1 (I.base.free b o e n hx);exact⟨_,e2⟩;obtain⟨o',e1⟩:=I.base.there b o e hx;exact free b o' (neC b o e hx) e1 (I.base.free b o e n hx);obtain⟨o',e1⟩:=I.base.there b o e hx;exact there b o' (neC b o e hx) e1;obtain⟨m1,e1⟩:=I.base.tbls b ps e;obtain⟨m2,e2⟩:=tbls b _ e1;exact{_,by rw[e2,Bo]};obtain⟨m,hn,hl⟩:=I.loc;refine{m,ns m hn,λi x v e1 e2 e3=>?_};obtain⟨u,r,l⟩:=hl i x v e1 e2 e3;refine{u,r,?_};rcases l with l|⟨k,c,e,z⟩
 exact .inl l;exact .inr {k,c,e,cellK x c e _ z};obtain⟨v,z⟩:=I.cell x c e;exact{v,cellK x c e v z};obtain⟨m,⟨o,y,y,ho,y⟩,y⟩:=I.loc;exact free _ o (λz=>(DI _ z).2.1 rfl) ho I.free;obtain⟨v,o,ho,hd⟩:=I.cell x c e;exact free c o (λz=>(DI c z).2.2.1 x c e rfl) ho (I.freeC x c e)
 have nch:=λz=>(DI _ z).2.2.2 p hp rfl;obtain⟨e,n,ne,nf,d⟩:=I.pin p hp;exact{keep _ _ ne nf nch e n,free _ _ nch e n,ne,nf,d}
end
structure Fly(bad:Addr->Prop)(H:Hp)(h:Heap)(e:Addr)(cls:Value):Prop where
 nb:¬ bad e
 free:H e=none
 ex:∃ (oe:Obj) (vs:Array Value),h.get? e=some oe/\oe.cls=cls/\oe.dict=none/\oe.data=.fields vs/\(vs[1]? =some .none ∨
  ∃ (T:Addr) (oT:Obj) (ts:Array Value),vs[1]? =some (.ref T)/\¬ bad T/\H T=none/\T≠e/\h.get? T=some oT/\oT.data=.fields ts/\ts[3]? =some .none)
def Fly.mono(F:Fly bad H h e cls)(k:∀ a,bad' a->bad a):Fly bad' H h e cls:=by
 obtain⟨nb,fr,oe,vs,h1,h2,h3,h4,h5⟩:=F;refine{λz=>nb<|k _ z,fr,x2 oe vs {h1,h2,h3,h4,?_}};rcases h5 with z|⟨T,oT,ts,a,b,c⟩
 exact .inl z;exact .inr<|x3 T oT ts {a,λz=>b<|k _ z,c}
section
variable{M:Model}{A:dq}{E:xP}{s:π}
def kH
  (N1:A.frames=some (env::outer)) (hl:s.heap.FunFrames base (env::outer)) (hf:env.frame=some L) (he:s.heap.get? e=some oe) (hdt:oe.data=.fields vs) (hsz:1<vs.size)
  (h:∀ h' T oT ts,(∀ b o,s.heap.get? b=some o->b≠e->b∉D0 (env::outer)->h'.get? b=some o)->(∀ b o,s.heap.get? b=some o->b≠e->∃ sl,h'.get? b=some { o with slots:=sl }) ->
   h'.get? e=some (oe.mapFields (·.setIfInBounds 1 (.ref T)))->s.heap.objs.size<=T->h'.get? T=some oT->oT.data=.fields ts->ts[3]? =some (kg L)->Q () { s with heap:=h' }) :
  wpAny M A (do let a ← frameOf env;let pl ← entryPlaceOf L nx;let b ← EntryCells.newEntry hd a .none (kg L) .none pl;setField (.ref e) 1 b) Q E s:=by
 have hne:e∉(env::outer).filterMap _:=λz=>by
  obtain⟨y,o,ho,hn⟩:=hl.mem z;rw[he]at ho;obtain rfl:=μ ho;exact hn vs hdt
 refine δ<|wpAny_frameOf_fun N1 hl hf λh1 hs1=>(δ<|wpAny_entryPlaceOf λpl CD=>(δ<|dv ?_<|CD.sizeOk5 _ _ _ _ _))
 have he1:=(hs1.2.1 e hne).trans he
 have keep:∀ b o,b≠e->h1.get? b=some o->((h1.push { cls:=.type "traceback",dict:=none,data:=.fields ([hd,.ref L,.none,kg L,.none]++(if pl.isEmpty then bd 6 ke else pl)).toArray }).update e (va (·.setIfInBounds 1 (ff h1.objs.size)))).get? b=some o:=λb o hb e1=>by
  rw[de _ _ (fg hb)];exact ο _ e1
 refine lb (ο _ he1) hdt hsz ?_;refine h _ _ _ _ (λb o e1 hb hnf=>keep b o hb<|(hs1.2.1 b hnf).trans e1) (λb o e1 hb=>?_) (dw _ (ο _ he1) (nr<|g_ hdt _)) (by rw[hs1.1];exact ρ _)
  ((de _ _<|fg<|iy<|au he1).trans (aj _ rfl)) rfl ?_
 obtain⟨sl,e2⟩:=hs1.2.2 b o e1;exact{sl,keep b _ hb e2}
 first|(done)|(rcases CD with rfl|⟨_,_,_,_,_,_,_,rfl⟩<;>simp)
structure V0(fr:qX)(bad:Addr->Prop)(H:Hp)(e:Addr)(cls:Value)(h h':Heap):Prop where
 ch:∃ ch:qX,(∀ b∈ch,¬ bad b/\H b=none/\∃ o vs,h.get? b=some o/\o.data=.fields vs)/\(∀ b o,h.get? b=some o->b∉ch->b∉fr->h'.get? b=some o) /\
  (∀ b o,h.get? b=some o->b∉ch->∃ sl,h'.get? b=some { o with slots:=sl })
 fly:Fly bad H h' e cls
def kI
  (N1:A.frames=some (env::outer)) (hl:s.heap.FunFrames base (env::outer)) (hf:env.frame=some L) (F:Fly bad H s.heap e cls) (hb:∀ a,s.heap.objs.size<=a->¬ bad a) (hH:∀ a,s.heap.objs.size<=a->H a=none)
  (h:∀ h',V0 (D0 (env::outer)) bad H e cls s.heap h'->Q () { s with heap:=h' }) :
  wpAny M A (K_ (.ref e) env) (λy s2=>wpAny M A2 (Gi (.ref e) none) Q E2 s2) E s:=by
 obtain⟨nb,fr,oe,vs,he,U4,U2,hd,htb⟩:=F
 have CN:∀ (s1:π) (ch:List _) (h':Heap) (T:Addr) (oT:Obj) (ts:Array _) (oe1:Obj),(∀ b o,s.heap.get? b=some o->s1.heap.get? b=some o\/b∈ch)->s1.heap.objs.size=s.heap.objs.size->e∈ch->(∀ b∈ch,¬ bad b/\H b=none/\∃ o vs,s.heap.get? b=some o/\o.data=.fields vs) ->
   oe1.cls=cls->oe1.dict=none->oe1.data=.fields vs->1<vs.size ->
   (∀ b o,s1.heap.get? b=some o->b≠e->b∉D0 (env::outer)->h'.get? b=some o)->(∀ b o,s1.heap.get? b=some o->b≠e->∃ sl,h'.get? b=some { o with slots:=sl }) ->
   h'.get? e=some (oe1.mapFields (·.setIfInBounds 1 (.ref T)))->s1.heap.objs.size<=T->h'.get? T=some oT->oT.data=.fields ts->ts[3]? =some (kg L)->wpAny M A2 (Gi (.ref e) none) Q E2 { s with heap:=h' }:=by
  intro s1 ch h' T oT ts oe1 hk1 hsz hech DI hcls1 hdict1 hd1 hv k1 k2 e1 hT e2 hdT h3
  have hT':=hsz ▸ hT
  have hTe:=fg<|FA (au he) hT'
  have hde:=g_ hd1 (·.setIfInBounds 1 (ff T))
  have hs3:=(ik.mp h3).1;refine δ (jd e1 hde (x:=.ref T) (by simp[hv]) (lb e2 hdT hs3<|h _ ?_))
  have oth:∀ b,b≠T->(h'.update T (va (·.setIfInBounds 3 ((none:Option Addr).elim ke λf=>kg f)))).get? b=h'.get? b:=λb hb'=>de _ _<|fg hb'
  have ltT:∀ b o,s.heap.get? b=some o->b≠T:=λb o eb=>FA (au eb) hT';refine{{ch,DI,λb o eb hbc hbf=>?_,λb o eb hbc=>?_},nb,fr,y2 {(oth e<|fg hTe).trans e1,(Df _ _).trans hcls1,?_,hde,.inr (x3 T _ _ {by simp[hv],hb T hT',hH T hT',hTe,dw _ e2<|nr<|g_ hdT _,g_ hdT _,by simp[hs3]})}};rw[oth b (ltT b o eb)];rcases hk1 b o eb with z|z
  exact k1 b o z (λz'=>hbc<|z' ▸ hech) hbf;exact absurd z hbc;rw[oth b (ltT b o eb)];rcases hk1 b o eb with z|z
  exact k2 b o z<|λz'=>hbc<|z' ▸ hech;exact absurd z hbc;obtain⟨c1,c2,c3,c4⟩:=oe1;subst hd1;exact hdict1
 unfold K_;simp only[hf];rcases htb with h1|⟨T0,oT0,ts0,h1,nbT,frT,neT,eT,dT,h3⟩
 have hv:=(ik.mp h1).1;refine δ<|jd he hd h1 ?_;exact kH N1 hl hf he hd hv λh' T oT ts k1 k2 e1 hT e2 hdT h3=>(CN s [e] h' T oT ts oe (λb o eb=>.inl eb) rfl (by simp) (λb hb'=>by rw[aa]at hb';subst hb';exact{nb,fr,x2 oe vs ⟨he,hd⟩}) U4 U2 hd hv k1 k2 e1 hT e2 hdT h3)
 have hv:=(ik.mp h1).1;refine δ<|jd he hd h1 ?_;refine δ<|jd eT dT h3 ?_;refine δ<|lb eT dT (ik.mp h3).1 ?_
 have oth:∀ b,b≠T0->(s.heap.update T0 (va (·.setIfInBounds 3 ke))).get? b=s.heap.get? b:=λb hb'=>de _ _<|fg hb';refine kH N1 (hl.of_keeps λb o eb hn=>{o,(oth b ((λb o eb hn z=>by rw[z,eT]at eb;obtain rfl:=μ eb;exact hn _ dT) b o eb hn)).trans eb,rfl}) hf ((oth e<|fg neT).trans he) hd hv λh' T oT ts k1 k2 e1 hT e2 hdT h3'=>?_;exact CN _ [e,T0] h' T oT ts oe
  (λb o eb=>by
   by_cases z:b=T0;exact .inr (by simp[z]);exact .inl<|(oth b z).trans eb)
  (Heap.size_after_update ..) (by simp)
  (λb hb'=>by
   rcases ax.mp hb' with z|z
   subst z;exact{nb,fr,x2 oe vs ⟨he,hd⟩}
   ·rw[aa]at z;subst z;exact{nbT,frT,x2 oT0 ts0 ⟨eT,dT⟩})
  U4 U2 hd hv k1 k2 e1 hT e2 hdT h3'
end
def Cx.bad(X:Cx)(AA:rN):Addr->Prop:=λa=>X.s₀.heap.get? a≠none\/∃ p∈X.pn++AA,p.1=a
structure XOk(X:Cx)(E:St->XK):Prop where
 po:Ff (model X.prog X.w) X.A X.env X.xe
 ex:X.ex=[]
 calm:X.calm=true
 go:∀ (AA:rN) (σ:St) (H:Hp) (s:π) (e:Addr) (cls:Value),Inv X AA σ H s->Fly (X.bad AA) H s.heap e cls->E σ cls none H->X.xe (.ref e) s
section
variable{X:Cx}{AA:rN}{σ:St}{H:Hp}{s:π}
def Inv.notbad(I:Inv X AA σ H s)(hx:X.ex=[])(h:s.heap.get? a=none):¬ X.bad AA a:=λz=>by
 rcases z with z|⟨p,hp,rfl⟩
 cases q:X.s₀.heap.get? a with
 |none=>exact z q
 |some o =>
  obtain⟨o',e⟩:=I.base.there a o q (by rw[hx];simp);rw[h]at e;cases e
 have:=(I.pin p hp).1;rw[h]at this;cases this
def kJ{h:Heap}(z:h.objs.size<=a):h.get? a=none:=by
 cases q:h.get? a with
 |none=>rfl
 |some o=>exact absurd (χ (au q) z) (jm _)
def Inv.noted{e:Addr}{cls:Value}{h':Heap}(I:Inv X AA σ H s)(N:V0 (D0 X.stack) (X.bad AA) H e cls s.heap h'):Inv X AA σ H { s with heap:=h' }:=by
 obtain⟨⟨ch,DI,k1,k2⟩,y⟩:=N;obtain⟨mL,⟨oL,esL,epL,hoL,dL,rL⟩,y⟩:=id I.loc
 have chne:∀ b∈ch,∀ o,s.heap.get? b=some o->∃ vs,o.data=.fields vs:=λb hb o eb=>by
  obtain⟨y,y,o',vs,e',d⟩:=DI b hb;rw[eb]at e';obtain rfl:=μ e';exact⟨vs,d⟩
 have hL:X.env.locals∉ch:=λz=>by
  obtain⟨vs,d⟩:=chne _ z _ hoL;rw[dL]at d;cases d
 refine I.stepN     (λb hb=>{.inr ?_,λz=>hL<|z ▸ hb,λx c ec z=>?_,λp hp z=>(DI b hb).1 (.inr ⟨p,hp,z⟩)})
  (λb o hbL hbf hbc eb y=>k1 b o eb hbc λz=>(ax.mp<|I.stkSub b z).elim hbL hbf) (λb o y y hbc eb y=>k2 b o eb hbc) (λy y y y n=>n) (λb o hbc eb=>?_) (λy y q=>q) (λy y y q=>q) (λb ps q=>{#[],by rw[q];simp}) (λm hm=>?_) (λb o eb=>?_) I.bare
 cases q:X.s₀.heap.get? b with
 |none=>rfl
 |some o=>exact absurd (.inl (by rw[q];simp)) (DI b hb).1
 obtain⟨v,oc,hoc,hd⟩:=I.cell x c ec;obtain⟨vs,d⟩:=chne c (z ▸ hb) oc hoc;rw[hd]at d;cases d;obtain⟨sl,q⟩:=k2 b o eb hbc;exact⟨_,q⟩;revert hm;apply u3;rintro o' es' ep' ⟨ho',r'⟩;rw[hoL]at ho';obtain rfl:=μ ho';obtain⟨sl,q⟩:=k2 _ _ hoL hL;exact x3 _ _ _ ⟨q,r'⟩;refine(I.hok b o eb).stay (λc u hc q=>k1 c u q ?_ ?_) (λy q=>q) λy y q=>q;intro z
 have fr:=(DI c z).2.1;rcases hc with rfl|hc
 rw[eb]at fr;cases fr;rw[hc]at fr;cases fr;intro z
 have fr:=I.stkFree c z;rcases hc with rfl|hc
 rw[eb]at fr;cases fr;rw[hc]at fr;cases fr
def D1(P:bu)(w:World):HN:=λouter H s E e s'=>∃ (ea:Addr) (cls:Value) (H':Hp),e=.ref ea/\s'.os=s.os/\tz s'.gens/\Un (D0 outer) [] H H' s.heap s'.heap/\HOk P w H' s'.heap/\Fly (λa=>s.heap.get? a≠none) H' s'.heap ea cls/\E cls none H'
def kK(h:D1 P w outer H s (λ_ _ _=>False) e s'):False:=by
 revert h;apply u3;rintro z z z ⟨z,z,z,z,z,z,f⟩;exact f
def XOk.passes(x:XOk X E):G4 (D1 X.prog X.w) X E:=λAA σ H s e s' I h=>by
 revert h;apply u3;rintro ea cls H' ⟨rfl,os,bare,un,hok,F,q⟩;refine x.go _ σ H' s' ea _ (I.call'  os un hok bare λb z=>absurd z (by simp)) (F.mono λa z=>?_) q;rcases z with z|⟨p,hp,rfl⟩
 cases q0:X.s₀.heap.get? a with
 |none=>exact absurd q0 z
 |some o =>
  obtain⟨o',e⟩:=I.base.there a o q0 (by rw[x.ex];simp);rw[e];simp
 rw[(I.pin p hp).1];simp
def kL:G4 (D1 P w) X (λ_=>E0):=λz z z z z z z h=>(kK h).elim
end
def Nx{P:bu}{w:World}{K:ι}{mg:ZN}{base:Heap}{N:qZ}{qual:Str}{scope:Scope}{f:Addr}{cd:Value}{A:dq}{outer:YZ}{s:π}{H:Hp}{E:XK} :
  XOk (IL (D1 P w) P w K mg base N qual scope f cd A outer s H E) (λ_=>E) where
 po:=PassesOwn.leaving
 ex:=rfl
 calm:=rfl
 go:=λAA σ H' s' e cls I F q=>by
  refine δ<|kI I.ok.frames I.stack rfl F (λa z=>I.notbad rfl<|kJ z) (λa z=>I.hok.fresh z) λh' N=>?_
  have I':=I.noted N;exact x3 e _ H' {rfl,I'.os,I'.bare,I'.base,I'.hok,N.fly.mono λa z=>.inl z,q}
structure Exc(K:ι)(C:Addr):Prop where
 ex:W.excIn K C [.type "ValueError",.type "Exception",.type "BaseException",.type "object"] "ValueError.__new__"=true
set_option tactic.hygienic true in
def Exc.obj{K:ι}{h:Heap}(x:Exc K C)(X:K.In h):∃ (tl:qV) (N:Addr) (nm q:Str) (bs:qV) (hdct:Bool) (sn:qZ) (sub:qV) (ab:Bool) (col:Option Bool) (dd:Option Addr) (k0 k1 k2 k3 k5:Option Value) (mN:ZN),
  h.get? C=some (excClassObj nm q C N bs tl hdct sn sub ab col dd k0 k1 k2 k3 k5 "ValueError.__new__")/\h.Ns N mN/\mN "__init__"=none/\OwnTail h [.type "ValueError",.type "Exception",.type "BaseException",.type "object"] tl:=by
 have q:=x.ex;unfold W.excIn at q;split at q
 ·rename_i dd cd sl ho;split at q
  ·rename_i C' bm k0 k1 k2 k3 n k5 hm hs;simp only[cj,beq_iff_eq,xk]at q;obtain⟨⟨⟨⟨⟨rfl,rfl⟩,hdel⟩,ht⟩,hok⟩,hni⟩:=q;obtain⟨nm,bs,mro,ns,qn,hd,sn,sub,ab,col,del⟩:=cd;subst hm hdel;obtain⟨l⟩:=sl;subst hs;exact By bm ns nm qn bs hd sn sub ab col dd k0 k1 k2 {k3,k5,_,X _ _ ho,.of_isNs<|W.isNs_of_in X hok,W.nsMap_none_of_in X hok hni,W.tail_of_in X ht}
  ·cases q
 ·cases q
def F9(C:Addr)(E:St->XK)(t:TA):TS:=λ_ σ H=>t σ H λvs H1=>vs.length<=sizeLine/\E σ (.ref C) none H1
section
variable{X:Cx}{E:St->XK}{C:Addr}{x:Str}{np DB pos:Pos}{e:Expr}{es:rY}{t:TA}
def LY(hx:XOk X E)(c:Exc X.K C)(hg:Gl X x)(hm:X.mg x=some (.ref C))(ha:PA X (e::es) t)(hdb:(x ==("__debug__":Str))=false:=by decide)
  (he:ay (e::es) X.env=(false,eval e X.env)::ay es X.env:=by rfl) (CD:(jb DB<|ay es X.env).any (·.1)=false:=by rfl) :
  PS X (.Raise (some<|.Call (.Name x np) (e::es) [] DB) none pos) (F9 C E t):=by
 refine λAA s σ H D I h=>Bz ?_<|c.obj I.mod.kin;rintro tl N nm q bs hdct sn sub ab col dd k0 k1 k2 ⟨k3,k5,mN,hC,hN,hni,T⟩
 have hpl2:(jb DB<|ay (e::es) X.env).any (·.1)=false:=by
  rw[he]
  show(false||(jb _ _).any _)=false;rw[CD];rfl
 have hq:=ha DB _ s σ H _ I h;refine wpAny_Raise_call_subT  (nm:=nm) (q:=q) (N:=N) (bs:=bs)  (hdct:=hdct) (sn:=sn) (sub:=sub) (ab:=ab) (col:=col) (dd:=dd) (k0:=k0) (k1:=k1) (k2:=k2) (k3:=k3) (k5:=k5)
  PySem.F.excBase_ValueError  (T.hasType PySem.F.excBase_ValueError.hasBase) (I.ok.hd hx.calm) hpl2 hni (N5 I hg hm {rfl,?_} hdb)
 rw[he]at hq ⊢;refine jz<|AO hq λus s1 ⟨vs,H1,I1,r,hz,q1⟩=>{rfl,?_,I1.bk _ _ hC,hN.keeps I1.bk,T.keeps I1.bk,λh' ea hM=>?_};rw[<-r.length];exact hz
 have I2:Inv X _ σ H1 { s1 with heap:=h' }:=I1.kept  hM.keeps;obtain⟨tt,h1,h2,h3⟩:=hM.there;refine hx.go _ σ H1 _ ea _ I2 {λz=>I1.notbad hx.ex hM.new z,I1.hok.nh hM.new,y2 {h1,rfl,rfl,rfl,.inl rfl}} q1
end
section
variable(P:bu)(w:World)(K:ι)(mg:ZN)(base:Heap)
structure R0(k:Nat)(x:Str)(ps:qZ)(sp:Sp):Prop where
 ex:∃ (f:Addr) (fd:gg),FnOk P w K mg base (D1 P w) k f fd ps sp/\mg x=some (.ref f)/\qy K (.ref f)=true/\Binds K fd ps []
structure M3(C:Addr)(k:Nat)(m:Str)(ps:qZ)(sp:Sp):Prop where
 ex:∃ (f:Addr) (fd:gg),FnOk P w K mg base (D1 P w) k f fd ps sp/\RP K C m f/\Binds K fd ps []
structure WA(C:Addr)(k:Nat)(x:Str)(ps:qZ)(sp:Sp):Prop where
 ex:∃ (f:Addr) (fd:gg),FnOk P w K mg base (D1 P w) k f fd ps sp/\Mk K C f/\mg x=some (.ref C)/\Binds K fd ps []
end
section
variable{X:Cx}{E:St->XK}{k:Nat}{x m:Str}{ps:qZ}{sp:Sp}{C:Addr}{p pos CM:Pos}{e o:Expr}{es:rY}{ta:TE}{t:TA}
def WB(c:R0 X.prog X.w X.K X.mg X.base k x ps sp)(hr:Room k X.A)(hp:G4 (D1 X.prog X.w) X E)(hg:Gl X x)(ha:PA X (e::es) t)(hdb:(x ==("__debug__":Str))=false:=by decide)
  (he:ay (e::es) X.env=(false,eval e X.env)::ay es X.env:=by rfl) (CD:(jb pos<|ay es X.env).any (·.1)=false:=by rfl):PE X (.Call (.Name x p) (e::es) [] pos) (LU sp [] E t):=by
 refine u2 ?_ c.ex;rintro f fd ⟨F,hm,hk,hb⟩;exact Jc F hr hg hm hk hb .nil hp ha hdb he CD
def WC(he:PE X o ta)(cl:Cls X.K C)(c:M3 X.prog X.w X.K X.mg X.base C k m ps sp)(hr:Room k X.A)(hp:G4 (D1 X.prog X.w) X E)(ha:PA X (e::es) t)
  (hst:ay (e::es) X.env=(false,eval e X.env)::ay es X.env:=by rfl) (CD:(jb pos<|ay es X.env).any (·.1)=false:=by rfl)
  (ht:eval (.Call (.Attribute o m CM) (e::es) [] pos) X.env=(do
   let ov ← eval o X.env
   yi CM.atName
   let (f,first) ← t9 [ov] (uk ov m pl)
   zm pos f first (jb pos<|ay (e::es) X.env) (vb pos<|lq [] X.env)):=by rfl):PE X (.Call (.Attribute o m CM) (e::es) [] pos) (IK C m sp [] E ta t):=by
 refine u2 ?_ c.ex;rintro f fd ⟨F,hm,hb⟩;exact Jd he cl hm F hr hb .nil hp ha hst CD ht
def Ny(he:PE X o ta)(cl:Cls X.K C)(c:M3 X.prog X.w X.K X.mg X.base C k m ps sp)(hr:Room k X.A)(hp:G4 (D1 X.prog X.w) X E)
  (ht:eval (.Call (.Attribute o m CM) [] [] pos) X.env=(do
   let ov ← eval o X.env
   yi CM.atName
   let (f,first) ← t9 [ov] (uk ov m pl)
   zm pos f first (jb pos<|ay [] X.env) (vb pos<|lq [] X.env)):=by rfl):PE X (.Call (.Attribute o m CM) [] [] pos) (IK C m sp [] E ta BF):=by
 refine u2 ?_ c.ex;rintro f fd ⟨F,hm,hb⟩;exact Jg he cl hm F hr hb .nil hp ht
def Nz(c:WA X.prog X.w X.K X.mg X.base C k x ps sp)(hr:Room (k+1) X.A)(hp:G4 (D1 X.prog X.w) X E)(hg:Gl X x)(ha:PA X (e::es) t)(hdb:(x ==("__debug__":Str))=false:=by decide)
  (he:ay (e::es) X.env=(false,eval e X.env)::ay es X.env:=by rfl) (CD:(jb pos<|ay es X.env).any (·.1)=false:=by rfl):PE X (.Call (.Name x p) (e::es) [] pos) (MW C sp [] E t):=by
 refine u2 ?_ c.ex;rintro f fd ⟨F,M,hm,hb⟩;exact Jj M F hr hg hm hb .nil hp ha hdb he CD
end
def Fun.okE{P:bu}{w:World}{K:ι}{mg:ZN}{base:Heap}{x qual:Str}{st:Stmt}{f:Addr}{fd:gg}{N ps:qZ}{k:Nat}{sp:Sp}(F:Fun K x qual st f fd)(S:FnScope N ps (AT st))(len:∀ vs H Q E,sp vs H Q E->vs.length=ps.length)
  (iP:∀ (B8:Value) (A:dq) (outer:YZ) (s:π) (H:Hp) (vs:Oj) (Q:VK) (E:XK),Room k (A.deeper<|xt qual (AT st) s.heap.objs.size f B8)->sp vs H Q E ->
   ∃ t,EU (IL (D1 P w) P w K mg base N qual (AT st) f B8 A outer s H E) (G5 st) t/\t { nx:=λz H'=>Q .non H',rt:=Q } (AV N vs) H):FnOk P w K mg base (D1 P w) (k+1) f fd ps sp:=by
 refine u9 ?_ F.ex;rintro oc od kV doc pm an B8 ct osl ⟨rfl,l,c⟩;exact Jl l c S len λA outer s H vs Q E hr h=>iP _ A _ s H vs Q E hr h
def GV(mg:ZN)(x:Str)(v:V):Prop:=∃ u,mg x=some u/\RelV v u
def WD(g:GV X.mg x v)(hg:Gl X x)(hd:(x ==("__debug__":Str))=false:=by decide):PE X (.Name x pos) (tC v):=by
 obtain⟨u,hm,r⟩:=g;exact Dj hg hm r hd
abbrev Cx.tri(X:Cx)(pn:rN)(xe:xP):Cx:={ X with pn:=pn,xe:=xe }
abbrev Cx.hand(X:Cx)(e:Addr):Cx:={ X with A:=X.A.mark<|some<|.ref e,calm:=false,xe:=λ_ _=>False }
section
variable{X:Cx}{AA:rN}{σ:St}{H:Hp}{s:π}
def Cx.Ok.tri{pn:rN}{xe:xP}(ok:X.Ok):(X.tri pn xe).Ok :=
 ⟨ok.mod,ok.kind,ok.glob,ok.blt,ok.above,ok.inj,ok.has,ok.cab,ok.hd,ok.frames,ok.stk,ok.exf,ok.bs,ok.bsz,ok.noex,ok.exfs,ok.funs,ok.frf⟩
def Inv.tri(I:Inv X AA σ H s):Inv (X.tri (X.pn++AA) xe) [] σ H s :=
 {I.ok.tri,I.os,I.bare,I.base,I.loc,I.cell,I.free,I.freeC,λp hp=>I.pin p (by simpa using hp),I.hok,I.len}
def Cx.Ok.untri{pn:rN}{xe:xP}(ok:(X.tri pn xe).Ok):X.Ok :=
 ⟨ok.mod,ok.kind,ok.glob,ok.blt,ok.above,ok.inj,ok.has,ok.cab,ok.hd,ok.frames,ok.stk,ok.exf,ok.bs,ok.bsz,ok.noex,ok.exfs,ok.funs,ok.frf⟩
def Inv.untri(I:Inv (X.tri (X.pn++AA) xe) pl σ H s):Inv X AA σ H s :=
 {I.ok.untri,I.os,I.bare,I.base,I.loc,I.cell,I.free,I.freeC,λp hp=>I.pin p<|ja _ hp,I.hok,I.len}
def Cx.Ok.hand(ok:X.Ok):(X.hand e).Ok :=
 {ok.mod,ok.kind,ok.glob,ok.blt,ok.above,ok.inj,ok.has,ok.cab,(λz=>nomatch z),ok.frames,ok.stk,ok.exf,ok.bs,ok.bsz,ok.noex,ok.exfs,ok.funs,ok.frf}
def Inv.hand(I:Inv X AA σ H s):Inv (X.hand e) AA σ H s:=⟨I.ok.hand,I.os,I.bare,I.base,I.loc,I.cell,I.free,I.freeC,I.pin,I.hok,I.len⟩
def Inv.unhand(ok:X.Ok)(I:Inv (X.hand e) AA σ H s):Inv X AA σ H s:=⟨ok,I.os,I.bare,I.base,I.loc,I.cell,I.free,I.freeC,I.pin,I.hok,I.len⟩
end
abbrev TH:=Value->Ends->St->Hp->Prop
def WE:TH:=λ_ _ _ _=>False
def WF(p:Value->Option Bool)(ts:TS)(CN:TH):TH:=λcls D σ H=>(p cls=some true/\ts D σ H)\/(p cls=some false/\CN cls D σ H)
def Ends.drop(D:Ends)(i:Nat):Ends:={ nx:=λσ H=>D.nx (σ.set i none) H,rt:=D.rt,bk:=λσ H=>D.bk (σ.set i none) H,ct:=λσ H=>D.ct (σ.set i none) H }
def PH(X:Cx)(hs:List xw)(th:TH):Prop :=
 ∀ (AA:rN) (s:π) (σ:St) (H:Hp) (D:Ends) (e:Addr) (cls:Value),X.ex=[]->Inv X AA σ H s->Fly (X.bad AA) H s.heap e cls->th cls D σ H ->
  wpAny (model X.prog X.w) X.A (handleBy (.ref e) X.env hs) (SP X AA D) X.xe s
def PX(X:Cx)(t:Expr)(p:Value->Option Bool):Prop :=
 ∀ (AA:rN) (s:π) (σ:St) (H:Hp) (e:Addr) (cls:Value) (b:Bool) (Q:Bool->π->Prop) (E:xP),Inv X AA σ H s->Fly (X.bad AA) H s.heap e cls->p cls=some b ->
  (∀ s',Inv X AA σ H s'->Fly (X.bad AA) H s'.heap e cls->Q b s')->wpAny (model X.prog X.w) (X.A.mark<|some<|.ref e) (eval t X.env) (λc s1=>wpAny (model X.prog X.w) (X.A.mark<|some<|.ref e) (excMatches (.ref e) c) Q E s1) E s
def WG(tb:(St->XK)->TS)(th:TH):TS:=λD σ H=>tb (λσ' cls _ H'=>th cls D σ' H') D σ H
section
variable{X:Cx}{hs:List xw}{h₀:xw}{th:TH}{body:List Stmt}{tb:(St->XK)->TS}{pos:Pos}
def Pb:PH X [] WE:=λz z z z z z z z z z h=>h.elim
def Pc(F:Fly bad H h e cls):W.Looks M h (typeOf<|.ref e) cls:=by
 obtain⟨z,z,oe,vs,h1,rfl,z⟩:=F;exact(W.Looks.ld h1).andThen .now
def Pd(hg:Gl X x)(hm:X.mg x=some C)(hd:(x ==("__debug__":Str))=false:=by decide):PX X (.Name x np) (λcls=>wf X.K cls C):=λAA s σ H e cls b Q E I F hp h=>N5  I.hand hg hm (W.exm_one I.kIn (Pc F) hp _ _ _ s (λy y z=>z) (h s I F)) hd
def Pg(F:Fly bad H s.heap e cls)
  (h:∀ h',V0 fr bad H e cls s.heap h'->Q () { s with heap:=h' }):wpAny M A (Gi (.ref e) none) Q E s:=by
 have F0:=F;obtain⟨nb,frr,oe,vs,he,U4,U2,hd,htb⟩:=F;rcases htb with h1|⟨T,oT,ts,h1,nbT,frT,neT,eT,dT,h3⟩
 exact δ (jd he hd h1 (ν (h _ {{[],(λb hb=>nomatch hb),λb o eb _ _=>eb,λb o eb _=>⟨_,eb⟩},F0})));refine δ<|jd he hd h1 ?_
 have hs3:=(ik.mp h3).1
 have oth:∀ b,b≠T->(s.heap.update T (va (·.setIfInBounds 3 (none.elim ke λf=>kg f)))).get? b=s.heap.get? b:=λb hb'=>de _ _<|fg hb';refine lb eT dT hs3 (h _ ({{[T],λb hb=>?_,λb o eb hb _=>(oth b λz=>hb (by simp[z])).trans eb,λb o eb hb=>{_,(oth b λz=>hb (by simp[z])).trans eb}},nb,frr,x2 oe vs {(oth e<|fg neT).trans he,U4,U2,hd,.inr (x3 T _ _ {h1,nbT,frT,neT,dw _ eT<|nr<|g_ dT _,g_ dT _,by simp[hs3]})}}));rw[aa]at hb;subst hb;exact{nbT,frT,x2 oT ts ⟨eT,dT⟩}
def SP.unhand(ok:X.Ok)(h:SP (X.hand e) AA D f s):SP X AA D f s:=by
 cases f with
 |next=>revert h;apply u2;rintro σ1 H1 ⟨I1,q⟩;exact x2 _ H1 {I1.unhand ok,q}
 |brk=>revert h;apply u2;rintro σ1 H1 ⟨I1,q⟩;exact x2 _ H1 {I1.unhand ok,q}
 |cont=>revert h;apply u2;rintro σ1 H1 ⟨I1,q⟩;exact x2 _ H1 {I1.unhand ok,q}
 |ret u=>revert h;apply u3;rintro v σ1 H1 ⟨I1,r,q⟩;exact x3 v _ H1 {I1.unhand ok,r,q}
def Ph{t:Expr}{b₀:Stmt}{suite:List Stmt}{hp:Pos}{p:Value->Option Bool}{ts:TS}{CN:List xw}{tr:TH}(ht:PX X t p)(hsu:∀ e,EU (X.hand e) (b₀::suite) ts)(hr:PH X CN tr) :
  PH X (.ExceptHandler (some t) none (b₀::suite) hp::CN) (WF p ts tr):=by
 intro AA s σ H D e cls hx I F h
 have hmain:∃ b,p cls=some b/\(b=true->ts D σ H)/\(b=false->tr cls D σ H):=by
  rcases h with⟨h1,h2⟩|⟨h1,h2⟩
  exact{_,h1,λ_=>h2,λz=>nomatch z};exact{_,h1,(λz=>nomatch z),λ_=>h2}
 obtain⟨b,hp',hT,hF⟩:=hmain;refine wpAny_handleBy_cons (codeAny_handlers_test<|ht _ s σ H e _ b _ _ I F hp' λs' I' F'=>?_) (by intro z;cases z);cases b with
 |false=>exact hr _ s' σ H D e _ hx I' F'<|hF rfl
 |true =>
  refine codeAny_handlers_suite<|Pg (fr:=D0 X.stack) F' λh' N=>?_
  have I2:Inv (X.hand e) _ σ H _:=(I'.noted N).hand;refine om (hsu e _ _ σ H D I2<|hT rfl) (λf s2 h2=>h2.unhand I.ok) λ_ _ z=>z.elim
def Pj(hx:X.ex=[])(hcalm:X.calm=true)(hst:X.stack=X.env::X.outer)(N1:X.env.frame=some X.env.locals)(hb:∀ (E:St->XK) (pn:rN) (xe:xP),XOk (X.tri pn xe) E->EU (X.tri pn xe) body (tb E))(hh:PH X (h₀::hs) th) :
  PS X (.Try body (h₀::hs) [] [] pos) (WG tb th):=by
 refine λAA s σ H D I h=>wpAny_Try_except ?_
 let xe:Value->π->Prop:=λe s₁=>wpAny (model X.prog X.w) X.A (K_ e X.env) (λy s₂=>wpAny (model X.prog X.w) X.A (Gi e none) (λy s₃=>wpAny (model X.prog X.w) X.A (handleBy e X.env (h₀::hs)) (SP X AA D) X.xe s₃) X.xe s₂) X.xe s₁
 have xok:XOk (X.tri (X.pn++AA) xe) (λσ' cls y H'=>th cls D σ' H'):=by
  refine{PassesOwn.looking,hx,hcalm,λpl σ' H' s' e cls I' F' q=>?_}
  have Iu:=I'.untri;refine kI (hst ▸ Iu.ok.frames) (hst ▸ Iu.stack) N1 F' (λa z=>I'.notbad hx<|kJ z) (λa z=>I'.hok.fresh z) λh' N=>?_;rw[<-hst]at N
  have I2:Inv _ pl _ H' _:=I'.noted N;exact hh _ _ _ H' D e _ hx I2.untri (N.fly.mono λa z=>by
   rcases z with z|⟨p,hp,z⟩
   exact .inl z;exact .inr {p,ja _ hp,z}) q
 refine om (hb _ _ xe xok [] s σ H D I.tri h) (λf s1 hs1=>?_) λy y z=>z;cases f with
 |next =>
  revert hs1;apply u2;rintro σ1 H1 ⟨I1,q⟩;exact mx<|x2 _ H1 ⟨I1.untri,q⟩
 |brk=>revert hs1;apply u2;rintro σ1 H1 ⟨I1,q⟩;exact x2 _ H1 ⟨I1.untri,q⟩
 |cont=>revert hs1;apply u2;rintro σ1 H1 ⟨I1,q⟩;exact x2 _ H1 ⟨I1.untri,q⟩
 |ret u=>revert hs1;apply u3;rintro v σ1 H1 ⟨I1,r,q⟩;exact x3 v _ H1 ⟨I1.untri,r,q⟩
end
mutual
inductive Rep(K:ι)(H:Hp):V->um->Prop
 |non:Rep K H .non .none
 |bl (b:Bool):Rep K H (.bl b) (.bool b)
 |int (i:Int):Rep K H (.int i) (.int i)
 |str (x:Str):Rep K H (.str x) (.str x)
 |lst {a:Addr} {xs:Oj} {ds:List um}:SqL K H a xs->RepAll K H xs ds->Rep K H (.ref a) (.list ds)
 |tup {a:Addr} {xs:Oj} {ds:List um}:SqT K H a xs->RepAll K H xs ds->Rep K H (.ref a) (.tuple ds)
inductive RepAll(K:ι)(H:Hp):Oj->List um->Prop
 |nil:RepAll K H [] []
 |cons {v:V} {d:um} {vs:Oj} {ds:List um}:Rep K H v d->RepAll K H vs ds->RepAll K H (v::vs) (d::ds)
end
section
variable{X:Cx}{AA:rN}{σ:St}{H:Hp}{s:π}
mutual
def Rep.reads(I:Inv X AA σ H s):∀ {v:V} {d:um} {u:Value},Rep X.K H v d->RelV v u->∃ as,Reads s.heap u d as
 |_,_,_,.non,r=>by cases (show _=ke from r);exact{_,.none}
 |_,_,_,.bl b,r=>by cases (show _=Ir b from r);exact{_,.bool b}
 |_,_,_,.int i,r=>by obtain⟨t,e⟩:=(show ∃ t,_=ui i t from r);cases e;exact{_,.int i t}
 |_,_,_,.str x,r=>by obtain⟨t,e⟩:=(show ∃ t,_=Ko x t from r);cases e;exact{_,.str x t}
 |_,_,_,.lst (a:=a) h hr,r=>by
  cases (show _=ff a from r);obtain⟨AJ,rv,p,z⟩:=I.list h;obtain⟨as,q⟩:=RepAll.reads I hr rv;obtain⟨o,e1,e2,n,e3⟩:=p.isList;exact{_,.list e1 e2 e3 q}
 |_,_,_,.tup (a:=a) h hr,r=>by
  cases (show _=ff a from r);obtain⟨AJ,rv,p,z⟩:=I.tuple h;obtain⟨as,q⟩:=RepAll.reads I hr rv;obtain⟨o,e1,e2,n,e3⟩:=p;exact{_,.tuple e1 e2 e3 q}
def RepAll.reads(I:Inv X AA σ H s):∀ {vs:Oj} {ds:List um} {us:qV},RepAll X.K H vs ds->Vals vs us->∃ as,ReadsAll s.heap us ds as
 |_,_,_,.nil,.nil=>{_,.nil}
 |_,_,_,.cons h hr,.cons r rr=>by
  obtain⟨as,q⟩:=Rep.reads I h r;obtain⟨bs,q2⟩:=RepAll.reads I hr rr;exact{_,.cons q q2}
end
end
abbrev shp(d:um):Prop:=PySem.SeqAt.shaped d=true
def rD(K:ι)(x y:V)(H:Hp)(R:qQ):Prop:=∃ d e,Rep K H x d/\Rep K H y e/\shp d/\shp e/\R (h_ d e) H
def KP(K:ι):R2:=λx y H Q=>rD K x y H λb=>Q<|.bl b
def KQ(K:ι):R2:=λx y H Q=>rD K x y H λb=>Q<|.bl<|!b
section
variable{X:Cx}
def Pk(hu:X.A.units+64<cLine):BW X (dt .Eq) (KP X.K):=by
 intro AA s σ H x y v u Q I rx ry;apply u2;rintro d e ⟨rd,re,sd,se,q⟩;obtain⟨as,ra⟩:=rd.reads I rx;obtain⟨bs,rb⟩:=re.reads I ry;exact eq_dataH ra rb sd se hu<|x2 (.bl _) H ⟨I,rfl,q⟩
def Pl(hu:X.A.units+64<cLine):BW X (dt .NotEq) (KQ X.K):=by
 intro AA s σ H x y v u Q I rx ry;apply u2;rintro d e ⟨rd,re,sd,se,q⟩;obtain⟨as,ra⟩:=rd.reads I rx;obtain⟨bs,rb⟩:=re.reads I ry;exact ne_dataH ra rb sd se hu<|x2 (.bl _) H ⟨I,rfl,q⟩
def WH(K:ι):R2:=λx y H Q=>∃ a b ys,x=.ref a/\y=.ref b/\SqT K H a []/\SqT K H b ys/\Q (.ref b) H
def Pm:BW X (iu .Add) (WH X.K):=by
 intro AA s σ H x y v u Q I rx ry h;revert h;apply u3;rintro a b ys ⟨rfl,rfl,ha,hb,q⟩;subst rx;obtain⟨AJ,r1,⟨⟨c1,c2,c3,c4⟩,e1,e2,n1,e3⟩,z⟩:=I.tuple ha;subst ry;obtain rfl:c1=_:=e2;obtain rfl:c3=_:=e3;obtain⟨LP,r2,⟨⟨d1,d2,d3,d4⟩,f1,f2,n2,f3⟩,z⟩:=I.tuple hb;obtain rfl:d1=_:=f2;cases r1;obtain rfl:d3=_:=f3;exact Cr ⟨_,e1,rfl⟩ ⟨_,f1,rfl⟩ yd Au PySem.F.slot_tuple_add PySem.F.entry_tuple_add (PySem.F.args_tuple_add_2 _ _) (tuple_addW0 a b _ _ n1 n2 c2 d2 c4 d4 rfl) {e1,f1,x2 (.ref b) H ⟨I,rfl,q⟩}
def BL(K:ι):R2:=λx y H Q=>match x,y with
 |.int i,.int j=>Q (.int<|i+j) H
 |.str i,.str j=>i.length+j.length<=sizeLine/\Q (.str<|i++j) H
 |.ref _,.ref _=>VO x y H Q\/VJ K x y H Q\/WH K x y H Q
 |_,_=>False
def Pp:BW X (iu .Add) (BL X.K):=by
 intro AA s σ H x y v u Q I rx ry h;cases x<;>cases y<;>simp only[BL]at h;exact Fw _ s σ H _ _ v u Q I rx ry<|y2 ⟨rfl,rfl,h⟩;exact Gy _ s σ H _ _ v u Q I rx ry<|y2 ⟨rfl,rfl,h⟩;rcases h with h|h
 exact Lg _ s σ H _ _ v u Q I rx ry h;rcases h with h|h
 exact Kb _ s σ H _ _ v u Q I rx ry h;exact Pm _ s σ H _ _ v u Q I rx ry h
def FB:R2:=λx y H Q=>match x,y with
 |.int i,.int j=>Q (.bl<|decide<|i<j) H
 |.str i,.str j=>Q (.bl<|decide<|i.cps.toList<j.cps.toList) H
 |_,_=>False
def EK:R2:=λx y H Q=>match x,y with
 |.int i,.int j=>Q (.bl<|decide<|i<=j) H
 |.str i,.str j=>Q (.bl<|!decide (j.cps.toList<i.cps.toList)) H
 |_,_=>False
end
def Pq:fillsNumberSlot (.type "tuple") "mul"=pure false :=
 PySem.fillsNumberSlot_seq   uo.lookup (by decide) Di.lookup (by decide)
def Pw:seqRepeat? (.type "tuple")=pure (some<|.builtin "tuple.__mul__"):=by
 unfold seqRepeat?;rw[PySem.seqSlot_of  (name:="__mul__")  uo.lookup (by decide),PySem.seqSlot_of  (name:="__rmul__")  Di.lookup (by decide)]
 rfl
def Px(a:Int)(t:Tok)(l:Addr)(BR:Array Value)(dd:Option Addr)(n:Nat)(sl:Array (Option Value)) :
  Meets (vq.«int.__rmul__» {[.int a t,.ref l],[]}) (λ_ R s=>s.heap.get? l=some {.type "tuple",dd,.seq BR n,sl}/\R (.ok<|.ret Value.notImplemented) s) :=
 .of_wp λprog w A R s h=>by obtain⟨hl,h⟩:=h;wp_walk;exact⟨_,rfl,h⟩
def Py(l:Addr)(BR:Array Value)(dd:Option Addr)(n:Nat)(sl:Array (Option Value))(x:Int)(u:Tok)(h1:1<x)(h2:x<2 ^ 63)(hne:BR.isEmpty=false)(hz:BR.size * x.toNat<=sizeLine) :
  Meets (vq.«tuple.__mul__» {[.ref l,.int x u],[]}) (λ_ R s=>s.heap.get? l=some {.type "tuple",dd,.seq BR n,sl} ∧
   R (.ok<|.ret<|ff s.heap.objs.size) { s with heap:=s.heap.push { cls:=og "tuple",data:=Data.seq (yo (λx1 x2=>x1++x2) #[] (bd x.toNat BR)) } }) :=
 .of_wp λprog w A R s h=>by
  obtain⟨hl,h⟩:=h
  have hsl:sizeLine<=(2^63-1)/8:=by decide
  have hx:∃ N:Nat,BR.size*x=N/\N<=sizeLine:={_,by rw[Int.natCast_mul,gi (by lia)],hz}
  obtain⟨N,hx,hN⟩:=hx
  have CC:(yo (λx1 x2=>x1++x2) #[] (bd x.toNat BR)).size<=sizeLine:=by
   have:=RW BR.toList x.toNat [];simp only[rg,Array.toArray_toList]at this;rw[this];simp only[az,List.length_flatten,List.map_replicate,List.sum_replicate_nat,ca];rw[dh];exact hz
  refine rq (by simp;omega) ?_
  wp_walk
  refine rq (by simp only[hne,xx];simp;omega) (rq (by simp only[hne,qz];simp;omega) (rq (by rw[hx];exact decide_eq_false (by omega)) (rq (by rw[hx];unfold Jr;simp;exact hN) ?_)))
  wp_walk
  exact⟨_,rfl,h⟩
def Pz(l:Addr)(BR:Array Value)(dd:Option Addr)(n:Nat)(sl:Array (Option Value))(u:Tok) :
  Meets (vq.«tuple.__mul__» {[.ref l,.int 1 u],[]}) (λ_ R s=>s.heap.get? l=some {.type "tuple",dd,.seq BR n,sl}/\R (.ok<|.ret<|ff l) s) :=
 .of_wp λprog w A R s h=>by
  obtain⟨hl,h⟩:=h
  wp_walk
  exact⟨_,rfl,h⟩
def WI(K:ι):R2:=λx y H Q=>∃ a k xs,x=.ref a/\y=.int k/\SqT K H a xs/\xs≠[]/\1<=k/\k<2^63/\xs.length*k.toNat<=sizeLine /\
 (k=1->Q (.ref a) H)/\(k≠1->∀ p,H p=none->Q (.ref p) (upd H p<|.tup (bd k.toNat xs).flatten))
section
variable{X:Cx}
def Inv.tnew(I:Inv X AA σ H s)(hv:Vals ys AJ)(hz:ys.length<=sizeLine) :
  Inv X AA σ (upd H s.heap.objs.size<|.tup ys) { s with heap:=s.heap.push { cls:=.type "tuple",data:=.seq AJ.toArray } } :=
 I.laid  (λz z q=>ο _ q) (ρ _) {hz,_,hv,_,aj _ rfl,rfl,0,rfl}
def Qb:BW X (iu .Mult) (WI X.K):=by
 intro AA s σ H x y v u Q I rx ry h;revert h;apply u3;rintro a k xs ⟨rfl,rfl,hx,hne,h1,h2,hz,q1,q2⟩;subst rx;obtain⟨AJ,r,⟨⟨c1,c2,c3,c4⟩,e1,e2,n,e3⟩,z⟩:=I.tuple hx;obtain rfl:c1=_:=e2;obtain rfl:c3=_:=e3;obtain⟨t,rfl⟩:=ry
 have hl:=r.length
 have he:AJ.toArray.isEmpty=false:=by
  cases AJ with
  |nil=>exact absurd (fb.mp hl) hne
  |cons b t=>rfl
 refine wv   (by decide) ⟨_,e1,rfl⟩ (λs'=>yn s' k t) Pq Ii vh Pw Fu.lookup
  (ss vh (yn s k t) F_ (Cu _ _) (Px k t a _ c2 n c4) {e1,rfl,⟨_,e1,rfl⟩,?_})
 by_cases hk:k=1;subst hk;exact ss uo ⟨_,e1,rfl⟩ Dn (Bs _ _) (Pz a _ c2 n c4 t) {e1,x2 (.ref a) H {I,rfl,q1 rfl}};refine ss uo ⟨_,e1,rfl⟩ Dn (Bs _ _) (Py a _ c2 n c4 k t (by lia) h2 he (by rw[az,<-hl];exact hz)) {e1,?_};rw[(RW _ _ [])];exact x2 (.ref _) _ {I.tnew (r.rep _) (by rw[jZ,dh];exact hz),rfl,q2 hk _ I.fresh}
abbrev Qc:iX:=Ew λi j=>i+j
def JV(z:Str)(k:Int):Str:=if k<1 then Fn else if(k==1||z.length==0)=true then z else{(bd k.toNat z.cps).foldl (· ++·) #[]}
def Qd(z:Str)(k:Nat):(Str.mk ((bd k z.cps).foldl (· ++·) #[])).length=k*z.length:=by
 have e:∀ (m:Nat) (BN:Array _),((bd m z.cps).foldl (· ++·) BN).size=BN.size+m*z.cps.size:=λm=>by
  induction m with
  |zero=>simp
  |succ m ih=>intro BN;rw[kz,fj,ih,Do,mf];lia
 simpa [Ji]using (e k #[])
def Qg:R2:=λx y H Q=>∃ z k,x=.str z/\y=.int k/\0<=k/\k<=1000/\z.length<=1000/\Q (.str<|JV z k) H
def Qh:BW X (iu .Mult) Qg:=by
 intro AA s σ H x y v u Q I rx ry h;revert h;apply u2;rintro z k ⟨rfl,rfl,h1,h2,h3,q⟩;obtain⟨t,rfl⟩:=rx;obtain⟨t',rfl⟩:=ry;refine PySem.P.mul_str (by simp;omega) (λa _=>?_) (λa _=>?_) ?_
 have:1000<=(2^63-1)/k:=(Int.le_ediv_iff_mul_le (by omega)).mpr (by lia)
 lia
 have h4:z.length*k.toNat<=1000*1000:=lg h3 (by omega)
 have h5:(1000*1000)<=sizeLine:=by decide
 exact decide_eq_false (by lia);unfold JV at q;split;rename_i c;rw[if_pos c]at q;exact{by decide,x2 (.str _) H {I.tok _,⟨_,rfl⟩,q}};rename_i c;rw[if_neg c]at q;split;rename_i d;rw[if_pos d]at q;exact x2 (.str _) H {I,⟨_,rfl⟩,q};rename_i d;rw[if_neg d]at q;exact⟨by rw[Qd];have:=lg (show k.toNat<=1000 by omega) h3;show _<=2^24;exact oA this rfl,x2 (.str _) H {I.tok _,⟨_,rfl⟩,q}⟩
def EV(K:ι):R2:=λx y H Q=>match x,y with
 |.int i,.int j=>CMul i j/\Q (.int<|i*j) H
 |.str z,.int k=>0<=k/\k<=1000/\z.length<=1000/\Q (.str<|JV z k) H
 |.ref _,.int _=>VP x y H Q\/WI K x y H Q
 |_,_=>False
def Qj:BW X (iu .Mult) (EV X.K):=by
 intro AA s σ H x y v u Q I rx ry h;cases x<;>cases y<;>simp only[EV]at h;exact Fy _ s σ H _ _ v u Q I rx ry<|y2 ⟨rfl,rfl,h⟩;exact Qh _ s σ H _ _ v u Q I rx ry<|y2 ⟨rfl,rfl,h⟩;rcases h with h|h
 exact Lh _ s σ H _ _ v u Q I rx ry h;exact Qb _ s σ H _ _ v u Q I rx ry h
def G6:R2:=λx y H Q=>match x,y with
 |.int i,.int j=>Q (.bl<|decide<|j<i) H
 |_,_=>False
def kM:BW X (dt .Lt) FB:=by
 intro AA s σ H x y v u Q I rx ry h;cases x<;>cases y<;>simp only[FB]at h;exact Gg AA s σ H _ _ v u Q I rx ry<|y2 ⟨rfl,rfl,h⟩
 ·obtain⟨t,rfl⟩:=rx;obtain⟨t',rfl⟩:=ry;exact PySem.P.lt_str<|x2 (.bl _) H ⟨I,rfl,h⟩
def WJ:BW X (dt .LtE) EK:=by
 intro AA s σ H x y v u Q I rx ry h;cases x<;>cases y<;>simp only[EK]at h
 ·exact Gh AA s σ H _ _ v u Q I rx ry<|y2 ⟨rfl,rfl,h⟩
 ·obtain⟨t,rfl⟩:=rx;obtain⟨t',rfl⟩:=ry;exact PySem.P.le_str<|x2 (.bl _) H ⟨I,rfl,h⟩
def Qk:BW X (dt .Gt) G6:=by
 intro AA s σ H x y v u Q I rx ry h;cases x<;>cases y<;>simp only[G6]at h;exact Gj AA s σ H _ _ v u Q I rx ry<|y2 ⟨rfl,rfl,h⟩
abbrev kN:R2:=λx y H Q=>y=.non/\Q (.bl<|decide<|x=.non) H
abbrev kO:R2:=λx y H Q=>y=.non/\Q (.bl<|!decide (x=.non)) H
variable{a:Expr}{ta:TE}{tA:TT}{pos:Pos}
abbrev kP(K:ι)(ta:TE):TT:=λσ H Q=>ta σ H λx H'=>∃ k,KG K x H' k/\Q k H'
def BX(K:ι):R2:=jT K
def kQ:IxR X (BX X.K):=Kj
def Ql:V->Option Int->Option Int->Hp->VK->Prop:=λx lo hi H Q=>∃ z,x=.str z/\z.length<=sizeLine/\Q (.str<|Txt.slice z lo hi) H
def kR{v:Value}{lo:Option Int}(p:zo v lo):∃ l:Option (Int × Tok),v=partValue l/\l.map (·.1)=lo:=by
 cases p with
 |none=>exact⟨none,rfl,rfl⟩
 |int i t=>exact{some (i,t),rfl,rfl}
def Qm:SlR X Ql:=by
 intro AA s σ H x v vl vu lo hi sl Q I rx hs pl pu h;obtain⟨z,rfl,hz,q⟩:=h;obtain⟨t,rfl⟩:=rx;obtain⟨l,rfl,rfl⟩:=kR pl;obtain⟨u,rfl,rfl⟩:=kR pu;exact x2 "str" _ {PySem.F.slot_str_getitem.lookup,Jo _ _ _,(wpAny_getItem_str_slice   (st:=none) hs rfl (post_val_or_str {ψ (Txt.slice_le z _ _) hz,λt' k=>x2 (.str _) H {I.tok k,⟨t',rfl⟩,q}}))}
def M4(K:ι):V->Option Int->Option Int->Hp->VK->Prop:=λx lo hi H Q=>match x with
 |.str z=>z.length<=sizeLine/\Q (.str<|Txt.slice z lo hi) H
 |_=>jV K x lo hi H Q\/jM K x lo hi H Q
def Qp:SlR X (M4 X.K):=by
 intro AA s σ H x v vl vu lo hi sl Q I rx hs pl pu h;cases x<;>first
  |exact Qm AA s σ H _ v vl vu lo hi sl Q I rx hs pl pu ⟨_,rfl,h⟩
  |exact(SlR.or Kv Jz) AA s σ H _ v vl vu lo hi sl Q I rx hs pl pu h
abbrev OR:V->V->V->Hp->(Hp->Prop)->Prop:=jU
def kS:U8 X OR:=Kl
def OS(K:ι)(tl:TE):TI:=λσ H R=>tl σ H λx H1=>∃ a,x=.ref a/\(((∃ xs,SqL K H1 a xs)/\R (FX K a) H1)\/((∃ xs,SqT K H1 a xs)/\R (IJ K a) H1))
def WK(K:ι):Oj->Hp->VK->Prop:=λxs H Q=>∃ x n,xs=[x]/\RO K x H n/\Q (.int n) H
def Qq:D7 X (.builtin "len") (WK X.K):=Hc
def kT(K:ι):Oj->Hp->VK->Prop:=λxs H Q=>∃ p ys,xs=[.ref p]/\(SqL K H p ys\/SqT K H p ys)/\∀ l,H l=none->Q (.ref l) (upd H l<|.lst ys)
def Qv:D7 X (.type "list") (kT X.K):=Kz
def kU(K:ι):Oj->Hp->VK->Prop:=λxs H Q=>∃ p ys,xs=[.ref p]/\((SqL K H p ys/\∀ l,H l=none->Q (.ref l) (upd H l<|.tup ys))\/(SqT K H p ys/\Q (.ref p) H))
def Qw:D7 X (.type "tuple") (kU X.K):=Lb
def R1(K:ι):Oj->Hp->VK->Prop:=λxs H Q=>(∃ i,xs=[.int i]/\Q (.int i) H)\/∃ k,xs=[.bl k]/\Q (.int<|if k then 1 else 0) H
end
section
variable{X:Cx}{tg a:Expr}{ta:TE}{pos:Pos}
def Qx(hl:PE X l tl):PI X tg l (OS X.K tl):=by
 refine λAA s σ H R I h=>AO (hl _ s σ H _ I h) λv s1 hzz=>?_;obtain⟨x,H1,I1,r1,⟨a,e,q1⟩⟩:=hzz;subst e
 have fp1:∀ b∈[s1.heap.objs.size],FpOk X _ H1 b:=λb hb=>by
  have e:b=s1.heap.objs.size:=by simpa using hb
  subst e;exact I1.fpOk (ρ _) (I1.hok.fresh<|ρ _)
 subst r1;rcases q1 with⟨⟨xs,hq⟩,q⟩|⟨⟨xs,hq⟩,q⟩
 obtain⟨AJ,rv,p,hz⟩:=I1.list hq;exact xl p.isList<|x5 _ _ _ _ H1 {rfl,I1.kept  λb o e=>ο _ e,Ey a _,{_,aj _ rfl,rfl,rfl},fp1,q};obtain⟨AJ,rv,p,hz⟩:=I1.tuple hq;exact wpAny_pyIter_tuple (p) (x5 _ _ _ _ H1 {rfl,I1.kept  λb o e=>ο _ e,Ez a _,{_,aj _ rfl,rfl,rfl},fp1,q})
end
def R3(scope outer:Scope)(N cn:qZ)(A4:Oz):Bool :=
 scope.kind == .function&&scope.names.all (λy=>y.2 != .cell)&&scope.names.all (λy=>y.2 != .local||scope.names.lookup y.1==some .local) &&
 scope.names.all (λy=>y.2 != .free||outer.names.lookup y.1==some .cell||outer.names.lookup y.1==some .free)&&cn.all (λx=>scope.names.lookup x==some .free)&&(A4.map (λi=>N[i]?)==cn.map some)
def kW(h1:X.env.scope=outer)(h2:X.N=N)(h:R3 scope outer N cn A4=true):JU X scope tn cn A4:=by
 unfold R3 at h;simp only[cj,lh,vk,bne_iff_ne,beq_iff_eq]at h;obtain⟨⟨⟨⟨⟨k1,k2⟩,k3⟩,k4⟩,k5⟩,k6⟩:=h;refine{k1,k2,λy hy hl=>(k3 y hy).resolve_left λz=>z hl,λy hy hf=>?_,k5,by rw[h2];exact k6}
 have z:=k4 y hy
 show X.env.scope.names.lookup _=_\/X.env.scope.names.lookup _=_;rw[h1];rcases z with(z|z)|z
 exact absurd hf z;exact .inl z;exact .inr z
structure zy3(K:ι)(C:Addr):Prop where
 ga:ci K (.ref C) "__getattribute__"=some (some<|.builtin "BaseException.__getattribute__")
 gt:ci K (.ref C) "__getattr__"=some none
 be:W.mroIn K C (.type "BaseException")=some true
 cl:W.isClsIn K C=true
 ha:ci K (.ref C) "__class__"=some (some<|.builtin "object.__class__")
 hn:H_ K (.builtin "object.__class__") "__get__"=some (some<|.builtin "getset_descriptor.__get__")
 tk:W.takesIn K (.builtin "object.__class__")=some true
 mr:W.mroIn K C (.type "object")=some true
set_option tactic.hygienic true in
inductive kX:V->Value->Prop
 |own (C:Addr):kX (.ref C) (.ref C)
 |ty (n:String):kX (.ty n) (.type n)
section
variable{X:Cx}
end
def D2(J:It)(g:TG)(tt:TT)(te:TE)(k:Nat)(A4:Oz)(σ:St)(H1:Hp)(Q:VK):Prop :=
 ∃ W:Nat->Nat->St->Oj->Hp->Prop,(∃ m,W 0 m (KM k A4 σ) [] H1)/\∀ i m σ' ys H,W i m σ' ys H ->
  (J.stop i H/\∀ p,H p=none->Q (.ref p) (upd H p<|.lst ys)) ∨
  (J.go i H/\ys.length<sizeLine/\∀ x H',J.yld i H x H'->g x σ' H' λσ2 H2=>tt σ2 H2 λb H3 =>
   if b=true then ∃ N:VK,(∀ y H4,N y H4->∃ m',m'<m/\W (i+1) m' σ2 (ys++[y]) H4)/\te σ2 H3 N else ∃ m',m'<m/\W (i+1) m' σ2 ys H3)
def GA(J:It)(g:TG)(tb:TS)(D:Ends)(σ:St)(H1:Hp):Prop :=
 ∃ W:Nat->Nat->St->Hp->Prop,(∃ m,W 0 m σ H1)/\∀ i m σ H,W i m σ H ->
  (J.stop i H/\D.nx σ H)\/(J.go i H/\∃ N:St->Hp->Prop,(∀ σ' H',N σ' H'->∃ m',m'<m/\W (i+1) m' σ' H')/\∀ x H',J.yld i H x H'->g x σ H' λσ2 H2=>tb { D with nx:=N,ct:=N,bk:=D.nx } σ2 H2)
section
variable{K:ι}{ta tb tc to ti tv tl:TE}{tt tA tB' tu:TT}{s1 s2:TS}{r r':R2}{σ:St}{H:Hp}{Q:VK}{D:Ends}{QB:qQ}{as:TA}{g:TG}{gs:G3}{te:TE}{k i:Nat}{A4:Oz}{f m:Str}{C:Addr}{sp:Sp}{EA:Oj}{E:St->XK}{v:V}{vs:Oj}{QA:Oj->Hp->Prop}{QG:St->Hp->Prop}{QO:Option Int->Hp->Prop}
def Qy:AI s1 s2 D σ H=(s1 { D with nx:=s2 D } σ H):=rfl
def Qz:B2 D σ H=(D.nx σ H):=rfl
def Rb:AS ta g D σ H=(ta σ H λx H1=>g x σ H1 D.nx):=rfl
def Rc:B9 ta D σ H=(ta σ H λ_ H1=>D.nx σ H1):=rfl
def Rg:AZ ta D σ H=(ta σ H D.rt):=rfl
def Rh:BQ tt s1 s2 D σ H=(tt σ H λb H1=>if b=true then s1 D σ H1 else s2 D σ H1):=rfl
def Rj:tC v σ H Q=(Q v H):=rfl
def Rk:AF r ta tb σ H Q=(ta σ H λx H1=>tb σ H1 λy H2=>r x y H2 Q):=rfl
def Rl:G2 tt σ H QB=(tt σ H λc H1=>QB (!c) H1):=rfl
def Rm:JL tt tu σ H QB=(tt σ H λc H1=>if c=true then tu σ H1 QB else QB false H1):=rfl
def Rp:MS tt tu σ H QB=(tt σ H λc H1=>if c=true then QB true H1 else tu σ H1 QB):=rfl
def Rq:BF σ H QA=(QA [] H):=rfl
def Rv:DT ta as σ H QA=(ta σ H λx H1=>as σ H1 λxs H2=>QA (x::xs) H2):=rfl
def Rw:CU as σ H Q=(as σ H λxs H1=>xs.length<=sizeLine/\∀ p,H1 p=none->Q (.ref p) (upd H1 p<|.tup xs)):=rfl
def Rx:BZ as σ H Q=(as σ H λxs H1=>xs.length<=sizeLine/\∀ p,H1 p=none->Q (.ref p) (upd H1 p<|.lst xs)):=rfl
def Ry:OA ru ta σ H Q=ta σ H λx H1=>ru x H1 Q:=rfl
def Rz:C2 rc as σ H Q=as σ H λvs H1=>rc vs H1 Q:=rfl
def Sb:F9 C E as D σ H=(as σ H λvs H1=>vs.length<=sizeLine/\E σ (.ref C) none H1):=rfl
def Sc:WG sb th D σ H=sb (λσ' cls _ H'=>th cls D σ' H') D σ H:=rfl
def Sd:AE i v σ H QG=(QG (σ.set i<|some v) H):=rfl
def Sg:N8 to ti rs v σ H QG=to σ H λo H1=>ti σ H1 λi H2=>rs o i v H2 λH3=>QG σ H3:=rfl
def Sh:E8 K k gs v σ H QG=(∃ a xs,v=.ref a/\SqT K H a xs/\xs.length=k/\gs xs σ H QG):=rfl
def Sj:E7 vs σ H QG=((vs=[]/\QG σ H)):=rfl
def Sk:DJ g gs vs σ H QG=(∃ v r,vs=v::r/\g v σ H λσ' H'=>gs r σ' H' QG):=rfl
def Sl:MZ rs ta ol oh σ H Q=ta σ H λx H1=>ol σ H1 λl H2=>oh σ H2 λu H3=>rs x l u H3 Q:=rfl
def Sm:MY σ H QO=(QO none H):=rfl
def Sq:EB K T rm ta as σ H Q=ta σ H λx H1=>VN K T x H1/\as σ H1 λxs H2=>rm x xs H2 Q:=rfl
def Sv:CO σ H QB=(QB true H):=rfl
def Sw:RQ K ta tv rd f D σ H=(ta σ H λx H1=>∃ a C dx fs v,x=.ref a/\H1 a=some (.ins C dx fs)/\Cls K C/\NoAttr K C f/\fs.lookup f=some v/\tv σ H1 λy H2=>rd v y H2 λz H3=>∃ dx' fs',H3 a=some (.ins C dx' fs')/\fs'.length<1000/\D.nx σ (upd H3 a<|.ins C dx'<|BO f z fs')):=rfl
end
section
variable{K:ι}{σ:St}{H:Hp}{Q:VK}{P:Bool->Prop}{PI':Int->Prop}{PV:V->Prop}{QB:qQ}{v:V}{x:Option V}{i j:Int}{n:Nat}{b b':Bool}{s s':Str}{p q:Addr}{f:Int->Int->V}{C:Int->Int->Prop}
def DP(i:Nat):TE:=λσ H Q=>match σ[i]? with
 |some (some v)=>Q v H
 |_=>False
def Sx:DP 0 (some v::σ) H Q=Q v H:=rfl
def Sy:DP (n+1) (x::σ) H Q=DP n σ H Q:=rfl
def Sz(i:Nat):DP i=RL i:=by
 funext σ H Q;unfold DP RL;cases σ[i]? with
 |none=>simp
 |some o=>cases o<;>simp
def Tb:BL K (.int i) (.int j) H Q=Q (.int<|i+j) H:=rfl
def Tc:BL K (.str s) (.str s') H Q=(s.length+s'.length<=sizeLine/\Q (.str<|s++s') H):=rfl
def Td:BL K (.ref p) (.ref q) H Q=(VO (.ref p) (.ref q) H Q\/VJ K (.ref p) (.ref q) H Q\/WH K (.ref p) (.ref q) H Q):=rfl
def Tg{x y:Str}:EK (.str x) (.str y) H Q=Q (.bl<|!decide (y.cps.toList<x.cps.toList)) H:=rfl
def Th{x y:Str}:FB (.str x) (.str y) H Q=Q (.bl<|decide<|x.cps.toList<y.cps.toList) H:=rfl
def Tj{x:Str}{lo hi:Option Int}:M4 K (.str x) lo hi H Q=(x.length<=sizeLine/\Q (.str<|Txt.slice x lo hi) H):=rfl
def Tk:EV K (.int i) (.int j) H Q=(CMul i j/\Q (.int<|i*j) H):=rfl
def Tl:EV K (.str z) (.int j) H Q=(0<=j/\j<=1000/\z.length<=1000/\Q (.str<|JV z j) H):=rfl
def Tm:EV K (.ref p) (.int j) H Q=(VP (.ref p) (.int j) H Q\/WI K (.ref p) (.int j) H Q):=rfl
def Tp:FB (.int i) (.int j) H Q=Q (.bl<|decide<|i<j) H:=rfl
def Tq:EK (.int i) (.int j) H Q=Q (.bl<|decide<|i<=j) H:=rfl
def Tv:G6 (.int i) (.int j) H Q=Q (.bl<|decide<|j<i) H:=rfl
def Tw:OG (.int i) (.int j) H Q=Q (.int<|i+j) H:=by simp[OG]
def Tx:R1 K [.bl b] H Q=Q (.int<|if b then 1 else 0) H:=by simp[R1]
end
def Ty(i:Nat)(hN:X.N[i]? =some x:=by rfl)(hv:RK X.env.scope x:=by first|exact Gf rfl|exact zr (Gf rfl)|exact zr<|zr rfl)(hd:(x ==("__debug__":Str))=false:=by decide)
  (GI:(x ==("__classdict__":Str))=false:=by decide):PE X (.Name x pos) (DP i):=by
 rw[Sz];exact iV hN hv hd GI
abbrev AW(Q:VK):Ends:={ nx:=λ_ H'=>Q .non H',rt:=Q }
abbrev CH(A4:Oz)(σ:St):St:=A4.map λi=>(σ[i]?).join
section
variable{K:ι}{te:TE}{A4:Oz}{σ:St}{H:Hp}{Q:VK}
def KR{lo:Int}{n:Nat}(hn:n<=sizeLine)(Pv:Nat->Oj->Hp->Prop)(h0:Pv 0 [] H)(hs:∀ i ys H,i<n->ys.length=i->Pv i ys H->te (some (.int<|lo+i)::CH A4 σ) H λy H2=>Pv (i+1) (ys++[y]) H2)
  (hd:∀ ys H,ys.length=n->Pv n ys H->∀ p,H p=none->Q (.ref p) (upd H p<|.lst ys)) :
  D2 (E9 lo n) (AE 0) CO te 1 A4 σ H Q:=by
 refine{λi m σ' ys H=>m=n-i/\i<=n/\ys.length=i/\(∃ x0,σ'=x0::CH _ σ)/\Pv i ys H,{n,rfl,bh _,rfl,⟨_,rfl⟩,h0},?_};rintro i m σ' ys H ⟨rfl,hi,hl,⟨x0,rfl⟩,p⟩;by_cases AY:i<n;refine .inr {AY,by omega,λx H' y=>?_};obtain⟨e,y⟩:=y;subst e y;refine{_,λy H4 q=>{_,by omega,rfl,AY,?_,⟨_,rfl⟩,q},hs i ys _ AY hl p};rw[af,iw,hl]
 have e:i=n:=by lia
 subst e;exact .inl {ρ _,hd ys H hl p}
def kY(hn:xs.length<=sizeLine)(Pv:Nat->Oj->Hp->Prop)(h0:Pv 0 [] H)(hq:∀ i ys H,i<=xs.length->Pv i ys H->SqL K H b xs)
  (hs:∀ i x ys H,xs[i]? =some x->ys.length=i->Pv i ys H->te (some x::CH A4 σ) H λy H2=>Pv (i+1) (ys++[y]) H2)
  (hd:∀ ys H,ys.length=xs.length->Pv xs.length ys H->∀ p,H p=none->Q (.ref p) (upd H p<|.lst ys)) :
  D2 (FX K b) (AE 0) CO te 1 A4 σ H Q:=by
 refine{λi m σ' ys H=>m=xs.length-i/\i<=xs.length/\ys.length=i/\(∃ x0,σ'=x0::CH _ σ)/\Pv i ys H,{xs.length,rfl,bh _,rfl,⟨_,rfl⟩,h0},?_};rintro i m σ' ys H ⟨rfl,hi,hl,⟨x0,rfl⟩,p⟩
 have q:=hq i ys H hi p;by_cases AY:i<xs.length;refine .inr {x2 xs (xs[i]) {q,by simp[AY]},by omega,λx H' y=>?_};obtain⟨rfl,y⟩:=y;refine{_,λy H4 q=>{_,by omega,rfl,AY,?_,⟨_,rfl⟩,q},hs i x ys _ (y xs q) hl p};rw[af,iw,hl]
 have e:i=xs.length:=by lia
 subst e;exact .inl {{xs,q,ρ _},hd ys H hl p}
def Tz{lo:Int}{n:Nat}(hn:n<=sizeLine)(f:Nat->V)(hs:∀ i,i<n->∀ Q':VK,Q' (f i) H->te (some (.int<|lo+i)::CH A4 σ) H Q')
  (hd:∀ p,H p=none->Q (.ref p) (upd H p<|.lst<|(ξ n).map f)) :
  D2 (E9 lo n) (AE 0) CO te 1 A4 σ H Q:=by
 refine KR hn (λi ys H'=>H'=H/\ys=(ξ i).map f) ⟨rfl,rfl⟩ (λi ys H' hi hl hzz=>?_) (λys H' hl hzz=>?_);obtain⟨rfl,e2⟩:=hzz;refine hs i hi _ {rfl,?_};rw[e2,bt,ak];rfl;obtain⟨rfl,rfl⟩:=hzz;exact hd
def FN(Pv:qO)(h0:Pv 0 σ H)(hl:∀ i σ H,i<=xs.length->Pv i σ H->SqL K H b xs)
  (hs:∀ i x σ H,xs[i]? =some x->Pv i σ H->g x σ H λσ2 H2=>tb { D with nx:=Pv<|i+1,ct:=Pv<|i+1,bk:=D.nx } σ2 H2) (hd:∀ σ H,Pv xs.length σ H->D.nx σ H):GA (FX K b) g tb D σ H:=Fk Pv h0 hl hs hd
def kZ(Pv:qO)(h0:Pv 0 σ H)(hl:∀ i σ H,i<=xs.length->Pv i σ H->SqT K H b xs)
  (hs:∀ i x σ H,xs[i]? =some x->Pv i σ H->g x σ H λσ2 H2=>tb { D with nx:=Pv<|i+1,ct:=Pv<|i+1,bk:=D.nx } σ2 H2) (hd:∀ σ H,Pv xs.length σ H->D.nx σ H):GA (IJ K b) g tb D σ H:=Fl Pv h0 hl hs hd
def R4{lo:Int}{n:Nat}{g:TG}{tb:TS}{D:Ends}(Pv:qO)(h0:Pv 0 σ H)
  (hs:∀ i σ H,i<n->Pv i σ H->g (.int<|lo+i) σ H λσ2 H2=>tb { D with nx:=Pv<|i+1,ct:=Pv<|i+1,bk:=D.nx } σ2 H2) (hd:∀ σ H,Pv n σ H->D.nx σ H):GA (E9 lo n) g tb D σ H:=Fm Pv h0 hs hd
end
def AK(h:H p=none):Same H (upd H p o):=λb u e=>by rw[AH (BE e h)];exact e
def G7{α β :Type}{F: α -> β ->Prop}:∀ {l:List α} {m:List β} {i:Nat} {y: β},Paired F l m->m[i]? =some y->∃ x,l[i]? =some x/\F x y
 |_,_,_,_,.nil,e=>by simp at e
 |_,_,0,_,.cons r _,e=>by simp at e;subst e;exact⟨_,rfl,r⟩
 |_,_,i+1,y,.cons _ t,e=>by
  obtain⟨u,h1,h2⟩:=G7   t (e);exact⟨u,h1,h2⟩
def k7{α β :Type}{F: α -> β ->Prop}{x: α}{y: β}(r:F x y):∀ {l:List α} {m:List β} (i:Nat),Paired F l m->Paired F (l.set i x) (m.set i y)
 |_,_,_,.nil=>.nil
 |_,_,0,.cons _ t=>.cons r t
 |_,_,i+1,.cons q t=>.cons q<|k7 r i t
def DC{K:ι}{H:Hp}{p:Addr}{xs:Oj}{i:Int}{n:Nat}{v:V}{Q:VK}(h:SqL K H p xs)(hi:i=n)(hx:xs[n]? =some v)(q:Q v H):BX K (.ref p) (.int i) H Q :=
 .inl (x4 p xs i v {rfl,rfl,h,hi ▸ VM hx,q})
def CF(n:Nat)(h:n<=100000):n<=sizeLine:=ψ h (by decide)
def k8{α :Type}(x: α):∀ w:Nat,(bd w [x]).flatten=bd w x
 |0=>rfl
 |w+1=>by rw[kz,ii,k8 x w];rfl
def JW(h:fs.length+1<n):(BO f v fs).length<n:=cr (OD f v fs) h
def Ub(h:shp d):h_ d d=true:=PySem.SeqAt.eqv_refl d<|PySem.SeqAt.canLay_of_shaped h
def ItK(k:Bool)(h:Heap)(j a:Addr)(i:Nat):Prop:=if k then h.IsListIter j a i else h.IsTupleIter j a i
def k9(k:Bool)(h:Heap)(a:Addr)(xs:Array Value):Prop:=if k then h.IsList a xs else h.IsTuple a xs
def ItK.up(x:ItK k h j a i)(q:∀ o,h.get? j=some o->h'.get? j=some o):ItK k h' j a i:=by
 cases k<;>exact(let ⟨o,e,r⟩:=x;{o,q o e,r})
def ItK.ob(x:ItK k h j a i):∃ o,h.get? j=some o/\o.data=.fields #[.ref a,.int i 0]:=by
 cases k<;>exact(let ⟨o,e,_,r⟩:=x;⟨o,e,r⟩)
section
variable{P:bu}{w:World}{A:dq}{E:xP}{s:π}
def Uc(z:A.handled=none)(c:s.heap.IsTupleIter j t i)(d:s.heap.IsTuple t AJ)(e:AJ[i]? =none)
  (q:∀ h' x,lw j s.heap h'->(∃ o,h'.get? x=some o/\o.cls=.type "StopIteration")->E (.ref x) { s with heap:=h' }):wpAny (model P w) A (ww<|.ref j) Q E s:=by
 obtain⟨oj,e1,e2,e3⟩:=id c;obtain⟨ot,f1,y,n,f2⟩:=d;refine δ<|df  c.typeIs wg (du wg c.typeIs F.entry_tuple_iterator_next ?_<|F.args_tuple_iterator_next_1 _)
 show wpAny _ _ (field _ 0>>=_) _ _ s;refine δ<|jd e1 e3  rfl (δ<|jd e1 e3  rfl (δ<|zt f1 f2 ?_));simp only[cb,e];refine δ (sv (δ (lb e1 e3 (by simp) (δ (δ (dv (δ  (zu  (by first|rfl|(rfl)) (dv (δ<|A_ ?_) (by size_fits)))) (by size_fits)))))));rw[z];exact δ<|ν<|Ie<|q _ _ (((d_ ..).extBut.push _).push _) {_,aj _ rfl,rfl}
def Ud(z:A.handled=none)(c:ItK k s.heap j t i)(d:k9 k s.heap t AJ)(e:AJ[i]? =none)
  (q:∀ h' x,lw j s.heap h'->(∃ o,h'.get? x=some o/\o.cls=.type "StopIteration")->E (.ref x) { s with heap:=h' }):wpAny (model P w) A (ww<|.ref j) Q E s:=by
 cases k;exact Uc z c d e q;exact wpAny_nextOf_list_end z c d e q
end
section
variable{P:bu}{w:World}{A:dq}{E:xP}{s:π}
end
def Inv.turnedS{X:Cx}{AA:rN}{σ:St}{H:Hp}{s:π}{h':Heap}{t':Nat}{fp:qX}(I:Inv X AA σ H s)(k:∀ b o,b∉fp->s.heap.get? b=some o->h'.get? b=some o)(hf:∀ b∈fp,FpOk X AA H b):Inv X AA σ H { s with heap:=h',toks:=t' }:=by
 have nit:∀ b u,H b=some u->b∉fp:=λb u e z=>by rw[(hf b z).1]at e;cases e
 refine I.step    (λb hb=>?_) (λb o y y hc e y=>k b o hc e) (λb o y y hc e y=>{_,k b o hc e}) (λy y y y n=>n)
  (λb o hc e=>{o,k b o hc e}) (λy y e=>e) (λy y y e=>e) (λb ps e=>{#[],by rw[e];simp}) (λm hm=>?_) (λb u e=>?_) I.bare
 obtain⟨y,f1,y,f3,f4,f5⟩:=hf b hb;exact⟨f3,f1,f4,f5⟩;revert hm;apply u3;rintro o es ep ⟨ho,r⟩;exact x3 o es ep {k _ o (λz=>(hf _ z).2.1 rfl) ho,r};refine(I.hok b u e).stay (λc v hc q=>k c v ?_ q) (λy q=>q) λy y q=>q;rcases hc with z|z
 rw[z];exact nit b u e;exact nit c _ z
def WL(K:ι)(k:Bool)(H:Hp)(a:Addr)(xs:Oj):Prop:=if k then SqL K H a xs else SqT K H a xs
def Inv.seqK(I:Inv X AA σ H s)(q:WL X.K k H a xs):∃ AJ,Vals xs AJ/\k9 k s.heap a AJ.toArray:=by
 cases k;obtain⟨AJ,rv,p,z⟩:=I.tuple q;exact⟨_,rv,p⟩;obtain⟨AJ,rv,p,z⟩:=I.list q;exact⟨_,rv,p.isList⟩
def Inv.seqK_inj(I:Inv X AA σ H s)(p:WL X.K k H a xs)(q:WL X.K k H a ys):xs=ys:=by
 cases k;exact I.tuple_inj p q;exact I.list_inj p q
structure zy4(z T U j j':Addr):Prop where
 a1:T≠z
 a2:U≠z
 a3:j≠z
 a4:j'≠z
 a5:T≠U
 a6:T≠j
 a7:T≠j'
 a8:U≠j
 a9:U≠j'
 a10:j≠j'
def FpOk.upd(f:FpOk X AA H b)(n:b≠a):FpOk X AA (upd H a o) b:={(AH n).trans f.1,f.2}
section
variable{X:Cx}{tg:Expr}
end
def OT(z:Str):It:={λi _=>i<z.cps.size,λi H x H'=>H'=H/\∃ c,z.cps[i]? =some c/\x=.str {#[c]},λi _=>z.cps.size<=i}
def lA{P:bu}{w:World}{K:PySem.W.Frag}{tg:Expr}{it:Addr}{z:Str}{t:Tok}{nm:String}(hn:["enumerate","zip","dict_itemiterator","dict_reverseitemiterator","odict_iterator","itertools.zip_longest","itertools.pairwise"].contains nm=false)
  (W:∀ A:dq,A.handled=none->Walks P w A it [it] [it] z.cps.size (SignAt z) (λi h=>h.IsStrIter it nm z t i)) (sf:∀ (A:dq) (i:Nat) (s:π) (Q:xP) (E:xP),s.heap.IsStrIter it nm z t i->Q (.ref it) s->wpAny (model P w) A (zi<|.ref it) Q E s) :
  JM P w K tg (OT z) [it] it (λi h=>i<=z.cps.size/\h.IsStrIter it nm z t i) where
 mem:=by simp
 obj:=λi h ⟨_,o,e,c,d⟩ b hb=>by
  have e':b=it:=by simpa using hb
  subst e';exact{o,e,λv q=>by rw[d]at q;cases q}
 keep:=λi h h' ⟨l,o,e,r⟩ k=>{l,o,k it (by simp) o e,r}
 item:=by
  intro X hP hw hK hc i AA s σ H E I hf ⟨y,st⟩ hg;obtain⟨f0,f1,f2,f3,f4,f5⟩:=hf it (by simp);refine(W _<|I.ok.hd hc).item i s _ _ hg st λv h' tk hv st' kk=>?_;revert hv;apply u2;have I1:Inv X _ σ H { s with heap:=h',toks:=tk }:=I.turned (λb o hb e=>kk b o (by simpa using hb) e) f0 f1 f3 f4 f5;rintro c u ⟨hx,rfl⟩;obtain⟨o,e,c1,d⟩:=id st';exact{_,rfl,MT  e c1 d hn (x2 (.str _) H {I1,⟨u,rfl⟩,⟨rfl,c,hx,rfl⟩,⟨hg,st'⟩,λb hb=>(hf b hb).1})}
 done:=by
  intro X hP hw hK hc i AA s σ H E I hf ⟨l,st⟩ hg;obtain⟨f0,f1,f2,f3,f4,f5⟩:=hf it (by simp)
  have e:=jx l hg;subst e;exact(W _<|I.ok.hd hc).done s _ _ st λh' tk kk=>{rfl,I.turned (λb o hb e=>kk b o (by simpa using hb) e) f0 f1 f3 f4 f5}
 self:=λA i s Q E st h=>sf A i s Q E st.2 h
def lB:∀ bs:List Bool,(ξ bs.length).all (λi=>bs.getD i false)=bs.all id
 | []=>rfl
 |b::t=>by
  rw[cv,yq,u_,Dr,u_,<-(lB t)]
  rfl
def OU(tl:TE):TI:=λσ H R=>tl σ H λx H1=>∃ z,x=.str z/\R (OT z) H1
section
variable{X:Cx}{tg:Expr}
def Ug{l:Expr}{tl:TE}(hl:PE X l tl):PI X tg l (OU tl):=by
 refine λAA s σ H R I h=>AO (hl _ s σ H _ I h) λv s1 hzz=>?_;obtain⟨x,H1,I1,r1,⟨z,rfl,q⟩⟩:=hzz;obtain⟨t,rfl⟩:=r1
 have fp1:∀ b∈[s1.heap.objs.size],FpOk X _ H1 b:=λb hb=>by
  have e:b=s1.heap.objs.size:=by simpa using hb
  subst e;exact I1.fpOk (ρ _) (I1.hok.fresh<|ρ _)
 cases ha:z.cps.all _;refine wpAny_pyIter_wide ha (x5 _ _ _ _ H1 {rfl,I1.kept  λb o e=>ο _ e,lA   (by decide) (λA hA=>Walks.strWide hA _ z t) (λA i s Q E st h=>wpAny_pyIter_striter_wide st h),{bh _,_,aj _ rfl,rfl,rfl},fp1,q});refine wpAny_pyIter_ascii ha (x5 _ _ _ _ H1 {rfl,I1.kept  λb o e=>ο _ e,lA   (by decide) (λA hA=>Walks.strAscii hA _ z t) (λA i s Q E st h=>wpAny_pyIter_striter_ascii st h),{bh _,_,aj _ rfl,rfl,rfl},fp1,q})
def OV(K:ι):Oj->Hp->VK->Prop:=λxs H Q=>∃ x,xs=[.str x]/\x.length=1/\Q (.int (x.cps.getD 0 0:Nat)) H
def Uh:D7 X (.builtin "ord") (OV X.K):=Hb
def M5(K:ι):Oj->Hp->VK->Prop:=λxs H Q=>∃ (p:Addr) (bs:List Bool),xs=[.ref p]/\SqL K H p (bs.map V.bl)/\Q (.bl<|bs.all id) H
def Uj(hc:X.calm=true):D7 X (.builtin "all") (M5 X.K):=by
 intro AA s σ H xs us Q I r h;revert h;apply u2;rintro p bs ⟨rfl,hp,q⟩;obtain⟨AJ,rv,pl,hz⟩:=I.list hp;obtain⟨u,rfl,rfl⟩:=FZ r
 have hl:=rv.length
 have hne:p≠s.heap.objs.size:=by
  obtain⟨o,e,z⟩:=pl.isList;exact bg<|au e
 refine call_all_walk<|xl pl.isList<|x7 _ _ _ _ _ _ (λi=>bs.getD i false) {rfl,Mo (show X.A.in1.handled=none from I.ok.hd hc) _ p hne _,{{_,aj _ rfl,rfl,rfl},pl.isList.push _},?_,?_};intro i v s' Q' E' hv hq
 have hv:AJ[i]? =some v:=by simpa using hv
 rw[ζ]at hl;obtain⟨b,hb⟩:∃ b,bs[i]? =some b:={_,η<|hl ▸ ((ε.mp hv).1)}
 obtain⟨u,hu,ru⟩:=rv.get   (by rw[τ,hb];rfl);rw[hv]at hu;cases (ru)
 have e:bs.getD i false=b:=by rw[wj,hb];rfl
 cases hu
 have hq:Q' (bs.getD i _) s':=hq;rw[e]at hq;exact ν hq;intro h' tk kk
 have e:(ξ AJ.toArray.size).all (λi=>bs.getD i false)=bs.all id:=by
  rw[ζ]at hl;rw[az,<-hl];exact lB bs
 rw[e];exact x2 (.bl _) H {I.kept  λb o eb=>kk b o (by simpa using bg (au eb)) (ο _ eb),rfl,q}
end
def Uk{K:ι}{x:Str}{H:Hp}{Q:VK}:OV K [.str x] H Q=(x.length=1/\Q (.int (x.cps.getD 0 0:Nat)) H):=by simp[OV]
section
variable{P:bu}{w:World}{A:dq}{E:xP}{s:π}
end
section
variable{X:Cx}
end
def Ul:BS (OU tl) g tt te k A4 σ H Q=(tl σ H λx H1=>∃ z,x=.str z/\D2 (OT z) g tt te k A4 σ H1 Q):=rfl
def Um(hn:z.cps.size<=sizeLine)(Pv:Nat->Oj->Hp->Prop)(h0:Pv 0 [] H)(hs:∀ i c ys H,z.cps[i]? =some c->ys.length=i->Pv i ys H->te (some (.str {#[c]})::CH A4 σ) H λy H2=>Pv (i+1) (ys++[y]) H2)
  (hd:∀ ys H,ys.length=z.cps.size->Pv z.cps.size ys H->∀ p,H p=none->Q (.ref p) (upd H p<|.lst ys)):D2 (OT z) (AE 0) CO te 1 A4 σ H Q:=by
 refine{λi m σ' ys H=>m=z.cps.size-i/\i<=z.cps.size/\ys.length=i/\(∃ x0,σ'=x0::CH _ σ)/\Pv i ys H,{z.cps.size,rfl,bh _,rfl,⟨_,rfl⟩,h0},?_};rintro i m σ' ys H ⟨rfl,hi,hl,⟨x0,rfl⟩,p⟩;by_cases AY:i<z.cps.size;refine .inr {AY,by omega,λx H' y=>?_};obtain⟨e,c,hc,y⟩:=y;subst e y;refine{_,λy H4 q=>{_,by omega,rfl,AY,?_,⟨_,rfl⟩,q},hs i c ys _ hc hl p};rw[af,iw,hl]
 have e:i=z.cps.size:=by lia
 subst e;exact .inl {ρ _,hd ys H hl p}
open PySem
abbrev IP(l:Oz):Prop:=l.Pairwise (· <·)
def OW{l:Oz}(R:IP l){i k a b:Nat}(h:i<k)(ha:l[i]? =some a)(hb:l[k]? =some b):a<b:=by
 obtain⟨h2,rfl⟩:=ε.mp hb;obtain⟨h1,rfl⟩:=ε.mp ha;exact p_.mp R i k h1 h2 h
structure Below(xs:Array Nat)(j r:Nat):Prop where
 le:r<=xs.size
 lo:∀ i v,i<r->xs.toList[i]? =some v->v<j
 hi:∀ i v,r<=i->xs.toList[i]? =some v->j<=v
def WM{xs:Array Nat}(R:IP xs.toList):∀ (fuel lo hi:Nat),lo<=hi->hi<=xs.size->hi-lo<=fuel->(∀ i v,i<lo->xs.toList[i]? =some v->v<j)->(∀ i v,hi<=i->xs.toList[i]? =some v->j<=v) ->
  Below xs j (Ds xs j fuel lo hi)
 |0,lo,hi,h1,h2,h3,a,b=>by
  have e:lo=hi:=by lia
  subst e;exact⟨h2,a,b⟩
 |fuel+1,lo,hi,h1,h2,h3,a,b=>by
  unfold Ds;by_cases AY:lo<hi;rw[if_pos AY]
  have hm:(lo+hi)/2<xs.size:=by omega
  have ed:xs.getD ((lo+hi)/2) j=xs[(lo+hi)/2]:=by simp[hm]
  have em:xs.toList[(lo+hi)/2]? =some (xs[(lo+hi)/2]):=by simp[hm]
  simp only[ed];split;rename_i hv;refine WM R _ _ _ (by omega) h2 (by omega) (λi v hi' e=>?_) b;by_cases q:i=(lo+hi)/2;subst q;rw[em]at e;cases e;exact hv;exact yp (OW R (show i<(lo+hi)/2 by exact mh (fe hi') q) e em) hv;rename_i hv;refine WM R _ _ _ (by omega) (l8 hm) (by omega) a λi v hi' e=>?_;by_cases q:i=(lo+hi)/2;subst q;rw[em]at e;cases e;exact ck hv
  have:=OW R (show(lo+hi)/2<i by lia) em e
  lia
  rw[if_neg AY]
  have e:lo=hi:=by lia
  subst e;exact⟨h2,a,b⟩
def WN(R:IP xs.toList):Below xs j (js xs j) :=
 WM R _ _ _ (bh _) (ρ _) (ρ _) (λz z h=>absurd h<|mw _) λi v h e=>by
  rw[bq (h)]at e;cases e
def Below.uniq(a:Below xs j r)(b:Below xs j r'):r=r':=by
 rcases Nat.lt_trichotomy r r' with h|h|h
 have hs:=χ h b.le
 have e:xs.toList[r]? =some (xs[r]):=by simp[hs]
 have:=b.lo _ _ h e
 have:=a.hi _ _ (ρ _) e;omega;exact h
 have hs:=χ h a.le
 have e:xs.toList[r']? =some (xs[r']):=by simp[hs]
 have:=a.lo _ _ h e
 have:=b.hi _ _ (ρ _) e;omega
def NotIn(t:SetTable)(j:Nat):Prop:=t.place[js t.place j]? ≠some j
def Up(h:t.slot j=.empty):NotIn t j:=λe=>by
 unfold Ki at h;simp only[e,beq_self_eq_true]at h;cases h
def Uq(h:t.slot j=.dummy):NotIn t j:=λe=>by
 unfold Ki at h;simp only[e,beq_self_eq_true]at h;cases h
def lC(t:SetTable)(p:Js):(t.advance p).dummy=p.dummy:=by
 unfold SetTable.advance;split<;>rfl
def WO:∀ (fuel:Nat) (p:Js) (j:Nat) (d:Option Nat),Dt t f h fuel p=some (.empty j d)->(∀ x,p.dummy=some x->NotIn t x)->NotIn t (d.getD j)
 |0,p,j,d,e,_=>by cases e
 |fuel+1,p,j,d,e,hd=>by
  unfold Dt at e;split at e;rename_i hs;cases e;cases q:p.dummy with
  |none=>exact Up hs
  |some x=>exact hd x q
  rename_i hs;refine WO _ _ j d e λx hx=>?_;rw[lC]at hx;obtain rfl:=μ hx;exact Uq hs;split at e;cases e;exact WO _ _ j d e λx hx=>by rw[lC]at hx;exact hd x hx
set_option tactic.hygienic true in
def Uv(e:t.freeSlot h=some (s,b)):NotIn t s:=by
 unfold SetTable.freeSlot at e;split at e
 ·rename_i j d hp;cases e;refine WO _ _ _ _ hp λx hx=>?_;cases hx
 ·cases e
def Uw(n:Nat):IP (Array.range n).toList:=by
 rw[Array.toList_range];exact il
def Ux{t:SetTable}(R:IP t.place.toList)(h:NotIn t j):IP (t.put j).1.place.toList:=by
 have b:=WN (j:=j) R
 show IP (SetTable.insertAt _ _ j).toList;rw[SetTable.toList_insertAt]
 have hlo:∀ v∈t.place.toList.take (js t.place j),v<j:=λv hv=>by
  obtain⟨i,hi,e⟩:=jj hv;refine b.lo i v (by rw[cz]at hi;omega) ?_;rw[<-e];simp only[Du];exact η _
 have hhi:∀ v∈t.place.toList.drop _,j<v:=λv hv=>by
  obtain⟨i,hi,e⟩:=jj hv
  have e2:t.place.toList[js t.place j+i]? =some v:=by
   rw[<-Bt,η hi,e]
  by_cases q:j=v;subst q
  have z:i=0:=by
   by_cases z:i=0;exact z
   have hl:js t.place j<t.place.toList.length:=by
    rw[jn]at hi;omega
   have e3:=η hl
   have:=b.hi _ _ (ρ _) e3
   have:=OW R (show js _ j<js _ j+i by lia) e3 e2
   lia
  subst z;rw[gu]at e2;exact absurd e2 h;exact mh (b.hi _ _ (uq _ _) e2) q
 refine zv.mpr {R.sublist<|Co ..,mj.mpr {hhi,R.sublist<|List.drop_sublist ..},λx hx y hy=>?_};rcases ax.mp hy with rfl|hy
 exact hlo x hx;exact yp (hlo x hx) (hhi y hy)
structure Led(led:Bool)(t:SetTable):Prop where
 rise:IP t.place.toList
 led:t.led=led
def Led.standIn{led:Bool}{t:SetTable}(h:t.led=led)(n:Nat):Led led (t.standIn n):={Uw n,h}
def Led.or{led:Bool}{t:SetTable}(h:Led led t)(n:Nat):Led led (t.orStandIn n):=by
 unfold SetTable.orStandIn;split;exact h;exact .standIn h.led n
set_option tactic.hygienic true in
def Led.layNew{led:Bool}{t:SetTable}(L:Led led t)(es:Array (Int × Value))(h:Int)(x:Value):Led led (layNew t es h x).2.1:=by
 unfold PySem.layNew;split
 ·rename_i slot b e;exact Led.or {Ux L.rise<|Uv e,L.led} _
 ·exact .standIn L.led _
def Uy(owner:Array (Option Nat))(m:Nat):IP (((ξ m).filterMap λj=>(owner.getD j none).map (j,·)).map (·.1)):=by
 rw[List.map_filterMap];refine(il ).filterMap _ λa b hab x hx y hy=>?_;simp only[zw,ae]at hx hy;obtain⟨z,z,rfl⟩:=hy;obtain⟨z,z,rfl⟩:=hx;exact hab
set_option tactic.hygienic true in
def Led.relayAll{led:Bool}{t:SetTable}(h:t.led=led)(L:Led led t)(es:Array (Int × Value))(wanted:Nat):Led led (D_ t es wanted).2.1:=by
 unfold PySem.relayAll;split
 ·rename_i t' order e;dsimp only;split
  ·unfold SetTable.relaid SetTable.laid at e;simp only[Option.bind_eq_bind,ye,Option.pure_def,xm,Prod.mk.injEq]at e;obtain⟨owner,_,rfl,_⟩:=e;exact{by simpa using Uy owner _,h}
  ·exact .standIn h _
 ·exact .standIn h _
def Led.plainOff{led:Bool}{t:SetTable}(L:Led led t):Led led { t with plain:=false }:=⟨L.rise,L.led⟩
def Led.fresh(led:Bool):Led led (.fresh 0 0 led):=⟨De,rfl⟩
def OX(xs:Array Nat):Nat->Nat
 |0=>0
 |i+1=>xs.getD i 0+1
def Uz{xs:Array Nat}(R:IP xs.toList):∀ {i:Nat},i<=xs.size->js xs (OX xs i)=i
 |0,_=>(WN R).uniq {bh _,λ_ _ h=>absurd h<|mw _,λ_ _ _ _=>bh _}
 |i+1,hi=>(WN R).uniq ⟨hi,λk v hk e=>by
   have hi':i<xs.size:=hi
   have ed:xs.getD i 0=xs[i]:=by simp[hi']
   have ei:xs.toList[i]? =some xs[i]:=by simp[hi']
   show v<xs.getD i 0+1;rw[ed];by_cases q:k=i;subst q;rw[ei]at e;obtain rfl:=μ e;exact f_ _;exact bz (OW R (show k<i by exact mh (fe hk) q) e ei),λk v hk e=>by
   have hi':i<xs.size:=hi;exact OW R (show i<k by exact hk) (by simp[hi']) e⟩
def lD{α :Type}(next:Nat->Nat):∀ (fuel k:Nat) (left:List α) (out:Array α),left.length=fuel->pi (Ea next fuel k left out).toList (out.toList++left)
 |0,k,left,out,h=>by
  rw[fb.mp h];unfold Ea;simp
 |fuel+1,k,left,out,h=>by
  have hl:next k%left.length<left.length:=sx _ (by lia);unfold Ea;rw[η hl];refine(lD _ _ _ _ _ (by rw[wk hl];lia)).trans ?_;rw[Ee,gr];refine List.Perm.append_left _ ?_;rw[ku]
  show pi (left[next k%left.length]::(left.take _++left.drop _)) _;refine Gn.symm.trans ?_;rw[<-iq hl,jv]
def Vb{α :Type}(next:Nat->Nat)(xs:Array α):pi (La next xs).toList xs.toList:=(lD _ _ 0 _ _<|rfl)
end L2
namespace L2
open PySem PyProof.Rows
def leads(w:World):Bool:= !w.params.followText "set-order"
def iv:Value->Int
 |.int n _=>n
 |_=>0
def IntSet(P:bu)(w:World)(h:Heap)(a:Addr)(ms:r8):Prop :=
 ∃ (o:Obj) (es:Array (Int × Value)) (ep:Nat) (t:SetTable),h.get? a=some o/\o.ExactSet/\o.data=.set es ep t/\Af (ky P w) es.toList /\
  pi (es.toList.map λe=>iv e.2) ms/\es.size<v_/\t.fits es.size=true/\Led (leads w) t
section
variable{P:bu}{w:World}{A:dq}{E:xP}{s:π}
def WP(h:Af (ky P w) es)(he:e∈es):∃ t,e.2=.int (iv e.2) t:=by
 obtain⟨⟨k,hk,y⟩,y⟩:=h e he;obtain⟨t,z⟩:=tm hk;exact{t,by rw[z];rfl}
def lE(h:Af (ky P w) es)(he:e∈es):(ky P w).is k e.2=true↔iv e.2=k:=by
 obtain⟨t,z⟩:=WP h he;rw[z];refine{λq=>?_,λq=>?_}
 have q':Ht k (.int _ t)=true:=q;obtain⟨t',z'⟩:=tm q';cases z';rfl;rw[<-q];exact Jt ..
def lF(h:Af (ky P w) es)(p:pi (es.map λe=>iv e.2) ms)(k:Int):k∈ms↔∃ e∈es,(ky P w).is k e.2=true:=by
 rw[<-p.mem_iff,av];exact{λ⟨e,he,q⟩=>{e,he,(lE h he).mpr q},(by rintro ⟨e,he,q⟩;exact{e,he,(lE h he).mp q})}
def lG{h:Heap}{o:Obj}{es es':Array (Int × Value)}{t t':SetTable}(ho:h.get? a=some o)(hex:o.ExactSet)(hd:o.data=.set es ep t)
  (hel:Af (ky P w) es'.toList) (hp:pi (es'.toList.map λe=>iv e.2) ms) (hb:es'.size<v_) (hf:t'.fits es'.size=true) (L:Led (leads w) t') :
  (h.update a<|Ju es' t').get? a=some { o with data:=.set es' (ep+1) t' }/\IntSet P w (h.update a<|Ju es' t') a ms:=by
 have g:=(SetOf_store   ho hex hd hel (λk=>by rw[c_]) hb hf).1;exact{g,x4 _ _ _ t' ⟨g,hex,rfl,hel,hp,hb,hf,L⟩}
def lH{g:Bool->Sem Unit}(hg:∀ (b:Bool) (s1:π) (R:Unit->π->Prop),R () s1->wpAny (model P w) A (g b) R E s1){o:Obj}{es e1:Array (Int × Value)}{t t1:SetTable}
  (ho:s.heap.get? a=some o) (hex:o.ExactSet) (hd:o.data=.set es ep t) (hel:Af (ky P w) e1.toList) (hp:pi (e1.toList.map λe=>iv e.2) ms) (hb:e1.size<v_) (hf:t1.fits e1.size=true) (L:Led (leads w) t1)
  {R:Option Bool->π->Prop} (h:∀ h',fu a s.heap h'->IntSet P w h' a ms->R (some true) { s with heap:=h' }) :
  wpAny (model P w) A (do
   storeSet a e1 t1
   if(!wd&&t1.tooFull)=true then do
    g (D_ t1 e1<|oy e1.size).2.2
    storeSet a (D_ t1 e1<|oy e1.size).1 (D_ t1 e1<|oy e1.size).2.1
    pure (some true)
   else pure (some true)) R E s:=by
 refine δ<|Ef ho hd ?_<|xn hb
 have sb1:=d_ s.heap a<|Ju e1 t1;obtain⟨g1,S1⟩:=lG ho hex hd hel hp hb hf L;split
 have p2:=relayAll_perm t1 e1<|oy e1.size
 have f2:=relayAll_fits t1 e1<|oy e1.size
 have L2:=Led.relayAll L.led L e1<|oy e1.size;revert p2 f2 L2;generalize D_ t1 e1 _=r;obtain⟨e2,t2,gv⟩:=r;intro p2 f2 L2
 have z2:e2.size=e1.size:=by rw[<-ca,p2.length_eq,ca]
 have b2:=z2 ▸ hb;refine δ<|hg _ _ _<|δ<|Ef g1 rfl ?_<|xn b2;obtain⟨z,S2⟩:=lG   g1 hex rfl (hel.perm p2) ((p2.map _).trans hp) b2 f2 L2;exact ν<|h _ (sb1.trans<|d_ ..) S2;exact ν<|h _ sb1 S1
def lI{ms:r8}(h:k∈ms):wm ms k=ms:=by
 unfold wm
 have e:(ms.any λx=>x==k)=true:=c_.mpr {k,h,beq_self_eq_true k};rw[if_pos e]
def lJ{ms:r8}{k:Int}(h:¬ k∈ms):wm ms k=ms++[k]:=by
 unfold wm;rw[if_neg λz=>?_];obtain⟨x,hx,q⟩:=c_.mp z;rw[beq_iff_eq]at q;exact h<|q ▸ hx
def Vc{ms:r8}{Q:Bool->π->Prop}(hS:IntSet P w s.heap a ms)(hr:ms.length+1<v_)
    (h:∀ (b:Bool) h',fu a s.heap h'->IntSet P w h' a (wm ms k)->Q b { s with heap:=h' }):wpAny (model P w) A (setAddHashed a (.int k tk) ((ky P w).hash k)) Q E s:=by
  have hk:(ky P w).is k (.int k tk)=true:=Jt ..
  have hsc:(ui k tk).scannable=true:=rfl;generalize ui k tk=x at hk hsc;revert hS;apply u4;rintro o es ep t ⟨ho,hex,hd,hel,hp,hb,hf,L⟩
  have CC:es.size=ms.length:=by rw[<-hp.length_eq,ζ,ca]
  have hivx:iv x=k:=by obtain⟨_,z⟩:=tm hk;rw[z];rfl
  refine gx<|δ<|j_ ho hd hf ?_;dsimp only;rw[byScan_of hsc hb hel];refine δ<|δ<|sv<|δ<|wpAny_setScan_of hk ho hd hf hel ?_;cases hx:es.toList.findIdx? (λe=>(ky P w).is k _)with
  |some j =>
    obtain⟨hj,pj,_⟩:=List.findIdx?_eq_some_iff_getElem.mp hx;refine ν<|ν ?_;exact(h _ _ (xo a _) (x4 o es ep t {ho,hex,hd,hel,by rw[lI ((lF hel hp k).mpr {_,pq hj,pj})];exact hp,hb,hf,L}))
  | none =>
    have hm:¬ k∈ms:=λz=>by
      obtain⟨e,he,q⟩:=(lF hel hp k).mp z
      have:=List.findIdx?_eq_none_iff.mp hx e he;rw[q]at this;cases this
    have p1:=layNew_perm t es ((ky P w).hash k) x
    have f1:=layNew_fits t es ((ky P w).hash k) x
    have L1:=L.layNew es ((ky P w).hash k) x;revert p1 f1 L1;generalize layNew t es _ x=r;obtain⟨e1,t1,wd,gv⟩:=r;intro p1 f1 L1;dsimp only at p1 f1 L1 ⊢;rw[Ee]at p1
    have hel1:=(hel.push hk hsc).perm p1
    have LQ:pi (e1.toList.map λe=>iv e.2) (wm ms k):=by
      rw[lJ hm];refine(p1.map _).trans ?_;rw[ak,dk,yr,hivx];exact List.Perm.append_right _ hp
    have hb1:e1.size<v_:=by
      rw[<-ca,p1.length_eq,af,ca,CC];exact hr
    have gw:∀ (b:Bool) (s1:π) (R:Unit->π->Prop),R () s1 ->
        wpAny (model P w) A (match b with
          |true=>rule "set.scan.the-table-gave-way"
          |false=>pure ()) R E s1:=λb s1 R q=>by
      cases b
      ·exact ν q
      ·exact sv q
    refine δ<|gw _ _ _ ?_;split;refine δ ?_;rw[hashByValue_scannable 8 hsc];refine ν<|lH ?_ ho hex hd hel1 LQ hb1 ?_ ?_ λh' sb S'=>?_;intro b s1 R q;cases b;exact ν q;exact sv q;split;exact f1;exact SetTable.fits_plain_off f1;split;exact L1;exact L1.plainOff;exact ν<|h _ h' sb S';refine lH ?_ ho hex hd hel1 LQ hb1 f1 L1 λh' sb S'=>?_;intro b s1 R q;cases b;exact ν q;exact sv q;exact ν<|h _ h' sb S'
def IntSet.at(x:IntSet P w h a ms)(k:∀ o,h.get? a=some o->h'.get? a=some o):IntSet P w h' a ms:=by
 revert x;apply u4;rintro o es ep t ⟨ho,r⟩;exact x4 o es ep t {k _ ho,r}
end
section
variable{P:bu}{w:World}{A:dq}{R:Result->π->Prop}{I:Addr}{fp wr:qX}{G:Array Cf->Array Cf->Prop}{n:Nat}{T:Nat->Value->Prop}{St:Nat->π->Prop}
def Vd(W:WalksS P w A.in1 I fp wr G n T St)(a:Addr)(ha:a∉fp)(val:Nat->Int)(hv:∀ i v,T i v->∃ t,v=.int (val i) t)(hb:n+1<v_):∀ (k i:Nat) (s:π),n-i=k->i<=n->St i s ->
  IntSet P w s.heap a (wn val i)->(∀ s',Moved (a::wr) G s s'->IntSet P w s'.heap a (wn val n)->R (.ok<|.ret .none) s') ->
  uy (model P w) A (.builtin "set.update.loop" {[.ref a,.ref I],[]}) R s:=by
 have up:∀ b∈wr,b∈a::wr:=λb q=>υ _ q
 have haw:=λz=>ha<|W.sub _ z;intro k
 induction k with
 |zero =>
  intro i s e1 e2 st S q;obtain rfl:i=n:=by lia
  exact my qw<|δ<|W.done s _ _ st λs' m=>(ν<|q s' (m.mono up) (S.at λo e=>m.heap a o haw e))
 |succ k ih =>
  intro i s e1 e2 st S q
  have hi:i<n:=by omega
  refine my qw ?_;refine δ<|W.item i s _ _ hi st λv s1 tv st1 m=>?_;obtain⟨t,rfl⟩:=hv i v tv
  show wpAny _ A.in1 (t9 [ui (val i) t] (setAdd a<|.int (val i) t)>>=_) _ _ s1;refine δ<|gx ?_;refine gx (δ ((ky P w).pyHash (k:=val i) (Jt ..) (Vc (s:={ s1 with toks:=s1.toks+1 }) (S.at λo e=>m.heap a o haw e) (by have:=wo val i;omega) λb h' sb S2=>?_)));rw[<-firstMet_succ]at S2;refine ν {xy Ao _,ih (i+1) _ (by omega) hi (W.frame _ s1 _ _ st1 (jc _) λb hb o e=>?_) S2 λs2 m2 S3=>?_};rw[sb.2 b λz:b=a=>ha<|z ▸ hb];exact e
  ·refine q s2 (Moved.trans W.gtrans ((m.mono up).then_heap (jc _) λb o hb e=>?_) m2) S3;rw[sb.2 b λz:b=a=>hb<|z ▸ ω];exact e
end
section
variable{P:bu}{w:World}{A:dq}{E:xP}{s:π}
def Vg(h:Q (.ref s.heap.objs.size) { s with heap:=s.heap.push { cls:=.type "set",dict:=none,data:=.set #[] 0 (.fresh 0 0<|leads w) } }) :
  uy (model P w) A (.call (.builtin "set.__new__") {[.type "set",x],[]}) (wants Q E) s:=by
 refine codeAny_of_tree<|δ<|zu (PySem.F.newCall_set_1 x) (ν {xy PySem.F.plain_set_new _,my PySem.F.entry_set_new ?_})
 have e:=sub_set_self
 wp_walk
 refine li<|ν ?_;exact δ<|wpAny_alloc<|ν<|ν h
end
end L2
namespace L2
open PySem PyProof.Rows
abbrev JX(f:Value)(i:Nat)(a:Addr)(n ep:Nat):Obj:={ cls:=.type "set_iterator",dict:=none,data:=.fields #[f,kg i,.ref a,kg n,kg ep],slots:= #[] }
def HV:Slot "set_iterator" "__next__" "set_iterator.__next__" :=
 .of (owner:="set_iterator") (n:="__next__") (by kernel_rfl) (by decide) (by decide) (by decide)
  (by first|exact .inl (by decide)|exact .inr (by decide))
  (by kernel_rfl)
def R5:entryFor table "set_iterator.__next__"=some vq.«set_iterator.__next__» :=entryFor_of_fast (by kernel_rfl)
def R6(a:Value):argsOk "set_iterator.__next__" {[a],[]}:=by
 kernel_rfl
def lK:Slot "set_iterator" "__iter__" "set_iterator.__iter__" :=
 .of (owner:="set_iterator") (n:="__iter__") (by kernel_rfl) (by decide) (by decide) (by decide)
  (by first|exact .inl (by decide)|exact .inr (by decide))
  (by kernel_rfl)
section
variable{P:bu}{w:World}{A:dq}{E:xP}{s:π}
def Vh{it a:Addr}{sl i n ep nx:Nat}{x:Value}{o:Obj}{es:Array (Int × Value)}{ep':Nat}{t:SetTable}{Q:Option Value->π->Prop}(hit:s.heap.get? it=some (JX (kg sl) i a n ep))
  (ho:s.heap.get? a=some o) (hd:o.data=.set es ep' t) (hf:t.fits es.size=true) (hn:es.size=n)
  (hs:∀ (A':dq) (E':xP) (Q':Option (Value × Nat)->π->Prop),Q' (some (x,nx)) s->wpAny (model P w) A' (Ei a sl i ep) Q' E' s)
  (q:∀ h',h'.get? it=some (JX (kg nx) (i+1) a n ep)->fu it s.heap h'->Q (some x) { s with heap:=h' }):wpAny (model P w) A (xr<|.ref it) Q E s:=by
 have T:s.TypeIs (.ref it) _:=⟨_,hit,rfl⟩
 refine δ<|kh<|df  T HV (du HV T R5 (δ<|ν<|δ<|oz hit rfl<|δ<|k_ ho hd hf ?_) (R6 _));rw[if_neg (by rw[hn];simp)];exact δ (hs _ _ _ (δ (jt hit (by simp) λh1 g1 b1=>(δ (jt g1 (by simp) λh2 g2 b2=>(ν {_,rfl,ν<|q h2 g2<|b1.trans b2}))))))
def lL{Q:Except Value (Option Value)->π->Prop}(hh:A.handled=none)(hx:lw it s.heap h1)
  (q:∀ h' e,lw it s.heap h'->({ s with heap:=h' }:π).TypeIs e "StopIteration"->Q (.error e) { s with heap:=h' }) :
  wpAny (model P w) A (newExc (.type "StopIteration") []>>=raiseNew (α :=Fin)) (λz z=>False) (λe=>Q<|.error e) { s with heap:=h1 }:=by
 refine δ (δ (dv (δ  (zu  (by first|rfl|(rfl)) (dv (δ<|A_ ?_) (by size_fits)))) (by size_fits)));rw[hh];refine δ<|ν<|Ie ?_;exact q _ _ ((hx.push _).push _) {_,aj _ rfl,rfl}
def Vj{it a:Addr}{sl i n ep:Nat}{o:Obj}{es:Array (Int × Value)}{ep':Nat}{t:SetTable}{Q:Option Value->π->Prop}(hh:A.handled=none)(hit:s.heap.get? it=some (JX (kg sl) i a n ep))
  (ho:s.heap.get? a=some o) (hd:o.data=.set es ep' t) (hf:t.fits es.size=true) (hn:es.size=n)
  (hs:∀ (A':dq) (E':xP) (Q':Option (Value × Nat)->π->Prop),Q' none s->wpAny (model P w) A' (Ei a sl i ep) Q' E' s)
  (q:∀ h',lw it s.heap h'->Q none { s with heap:=h' }):wpAny (model P w) A (xr<|.ref it) Q E s:=by
 have T:s.TypeIs (.ref it) _:=⟨_,hit,rfl⟩
 refine δ<|kh<|df  T HV (du HV T R5 (δ<|ν<|δ<|oz hit rfl<|δ<|k_ ho hd hf ?_) (R6 _));rw[if_neg (by rw[hn];simp)];refine δ (hs _ _ _ (δ (jt hit (by simp) λh1 g1 b1=>?_)));exact om (lL    (Q:=λr s'=>match r with
  |.error e=>wpAny _ A (isInstance e _>>=λb=>if b=true then pure _ else throw e) Q E s'
  |_=>False) (hh) b1.extBut λh' e hx te=>(δ<|lj   te wp (ν<|q _ hx))) (λ_ _ z=>z.elim) (λe s' z=>z)
def Vk{it a tp:Addr}{i n ep pl:Nat}{ot:Obj}{ps:Array Value}{k:Nat}{x:Int × Value}{o:Obj}{es:Array (Int × Value)}{t:SetTable}{Q:Option Value->π->Prop}(hit:s.heap.get? it=some (JX (.ref tp) i a n ep))
  (ho:s.heap.get? a=some o) (hd:o.data=.set es ep t) (hf:t.fits es.size=true) (hn:es.size=n) (ht:s.heap.get? tp=some ot) (hdt:ot.data=.seq ps k) (hp:ps[i]? =some (kg pl)) (hx:es[pl]? =some x)
  (q:∀ h',h'.get? it=some (JX (.ref tp) (i+1) a n ep)->fu it s.heap h'->Q (some x.2) { s with heap:=h' }):wpAny (model P w) A (xr<|.ref it) Q E s:=by
 have T:s.TypeIs (.ref it) _:=⟨_,hit,rfl⟩
 refine δ<|kh<|df  T HV (du HV T R5 (δ<|ν<|δ<|oz hit rfl<|δ<|k_ ho hd hf ?_) (R6 _));rw[if_neg (by rw[hn];simp)];refine δ<|zt ht hdt ?_;dsimp only;rw[cb,hp]
 show wpAny _ _ (setNextDrawn a _ _>>=_) _ _ s;rw[cb];refine δ<|δ<|j_ ho hd hf ?_;dsimp only;rw[if_neg (by simp),hx];exact ν (δ (jt hit (by simp) λh2 g2 b2=>(ν {_,rfl,ν<|q h2 g2 b2})))
def Vl{ot:Obj}{o:Obj}{es:Array (Int × Value)}{t:SetTable}{Q:Option Value->π->Prop}(hh:A.handled=none)(hit:s.heap.get? it=some (JX (.ref tp) i a n ep))
  (ho:s.heap.get? a=some o) (hd:o.data=.set es ep t) (hf:t.fits es.size=true) (hn:es.size=n) (ht:s.heap.get? tp=some ot) (hdt:ot.data=.seq ps k) (hp:ps[i]? =none)
  (q:∀ h',lw it s.heap h'->Q none { s with heap:=h' }):wpAny (model P w) A (xr<|.ref it) Q E s:=by
 have T:s.TypeIs (.ref it) _:=⟨_,hit,rfl⟩
 refine δ<|kh<|df  T HV (du HV T R5 (δ<|ν<|δ<|oz hit rfl<|δ<|k_ ho hd hf ?_) (R6 _));rw[if_neg (by rw[hn];simp)];refine δ<|zt ht hdt ?_;dsimp only;rw[cb,hp];refine δ (jt hit (by simp) λh1 g1 b1=>(δ (jt g1 (by simp) λh2 g2 b2=>?_)));exact om (lL (s:=s)   (Q:=λr s'=>match r with
  |.error e=>wpAny _ A (isInstance e _>>=λb=>if b=true then pure _ else throw e) Q E s'
  |_=>False) (hh) (b1.trans b2).extBut λh' e hx te=>(δ<|lj   te wp (ν<|q _ hx))) (λ_ _ z=>z.elim) (λe s' z=>z)
def Vm(ft:w.params.followText "set-order"=true)(ho:s.heap.get? a=some o)(hd:o.data=.set es ep t)(hf:t.fits es.size=true)
  (q:Q (((La (w.params.setOrder a ep) es)[i]?).map λe=>(e.2,0)) s):wpAny (model P w) A (Ei a 0 i ep) Q E s:=by
 refine δ<|j_ ho hd hf<|δ<|δ<|li<|ν ?_
 show wpAny _ _ (if w.params.followText _=true then _ else _) _ _ s;rw[if_pos ft,if_neg (by simp)];refine δ<|δ<|j_ ho hd hf<|δ<|δ<|li<|ν ?_
 show wpAny _ _ (if w.params.followText _=true then _ else _) _ _ s;rw[if_pos ft];exact δ<|li<|ν<|ν q
def Vp(ft:w.params.followText "set-order"=false)(ho:s.heap.get? a=some o)(hd:o.data=.set es ep t)(hf:t.fits es.size=true)
  (L:Led (leads w) t) (pl:(!t.plain&&decide (es.size > 1))=false) (hi:i<=es.size) (q:Q ((es[i]?).map λe=>(e.2,OX t.place<|i+1)) s):wpAny (model P w) A (Ei a (OX t.place i) i ep) Q E s:=by
 have hz:t.place.size=es.size:=by
  unfold SetTable.fits at hf;simp only[cj,beq_iff_eq]at hf;exact hf.1
 refine δ<|j_ ho hd hf<|δ<|δ<|li<|ν ?_
 show wpAny _ _ (if w.params.followText _=true then _ else _) _ _ s
 have ld:t.led=true:=by rw[L.led];unfold leads;rw[ft];rfl
 rw[if_neg (show ¬ w.params.followText _=true by rw[ft];exact aw)]
 show wpAny _ _ (if(!t.plain&&decide _)=true then _ else _) _ _ s;rw[if_neg (by rw[pl];exact aw)];refine δ (m:=if(!t.led && !es.isEmpty)=true then _ else _) ?_;rw[if_neg (by rw[ld];simp)];refine ν<|ν ?_;rw[Uz L.rise (ψ hi<|bc hz.symm)];by_cases AY:i<es.size
 have h2:=hz ▸ AY;rw[eq _,eq h2];rw[eq AY]at q
 have:OX t.place (i+1)=t.place[i]+1:=by simp[OX,h2]
 rw[this]at q;exact q;rw[ub (ck AY)];rw[ub (ck AY)]at q;exact q
end
end L2
namespace L2
open PySem PyProof.Rows
def Vq:entryFor table "set.__iter__"=some vq.«frozenset.__iter__» :=entryFor_alias (id':="frozenset.__iter__") (by kernel_rfl) rfl (by decide +kernel) (by kernel_rfl)
def Vv:entryFor table "set_iterator.__iter__"=some vq.«dict_keyiterator.__iter__» :=entryFor_alias (id':="dict_keyiterator.__iter__") (by kernel_rfl) rfl (by decide +kernel) (by kernel_rfl)
def Vx(a:Value):argsOk "set_iterator.__iter__" {[a],[]}:=by
 kernel_rfl
structure WQ(P:bu)(w:World)(A:dq)(h h1:Heap)(a I:Addr)(ms:r8):Prop where
 ex:∃ (fp:qX) (ord:qV) (ks:r8) (St:Nat->Heap->Prop),(∀ b∈fp,b=a\/h.objs.size<=b)/\Walks P w A I fp [I] ord.length (λi v=>ord[i]? =some v) St/\St 0 h1/\rn ord ks/\ks.Perm ms
 new:h.objs.size<=I
section
variable{P:bu}{w:World}{A:dq}{E:xP}{s:π}
def WR:∀ {es:List (Int × Value)},Af (ky P w) es->rn (es.map (·.2)) (es.map λe=>iv e.2)
 | [],_=>.nil
 |e::r,h=>by
  obtain⟨t,z⟩:=WP h<|ω ..;rw[dk,z];exact .cons _ _<|WR h.tail
def lM(hit:s.heap.get? it=some (JX f i a n ep))(q:Q (.ref it) s):wpAny (model P w) A (zi<|.ref it) Q E s:=by
 have T:s.TypeIs (.ref it) _:=⟨_,hit,rfl⟩
 exact xp T lK<|du lK T Vv (ν {_,rfl,x2 _ _ ⟨T,HV.lookup,q⟩}) (Vx _)
def Vy{es:Array (Int × Value)}{t:SetTable}{o:Obj}{f:Nat->Nat}{ord:qV}(hh:A.handled=none)(hne:a≠I)(hd:o.data=.set es ep t)(hf:t.fits es.size=true)(hl:ord.length=es.size)
  (nx:∀ (s:π),s.heap.get? a=some o->∀ (i:Nat),i<=es.size->∀ (A':dq) (E':xP) (Q':Option (Value × Nat)->π->Prop),Q' ((ord[i]?).map λv=>(v,f<|i+1)) s->wpAny (model P w) A' (Ei a (f i) i ep) Q' E' s) :
  Walks P w A I [I,a] [I] ord.length (λi v=>ord[i]? =some v) (λi h=>h.get? I=some (JX (kg<|f i) i a es.size ep)/\h.get? a=some o) where
 sub:=λb hb=>by simp at hb;simp[hb]
 frame:=λj j j st k=>{k I (by simp) _ st.1,k a (by simp) _ st.2}
 item:=λi s Q E hi st q=>by
  have e:=η hi;exact Vh st.1 st.2 hd hf rfl (λA' E' Q' q'=>nx s st.2 i (by lia) A' E' Q' (by rw[e];exact q')) λh' g b=>(q _ h' _ e {g,b.extBut a _ hne st.2} λc u hc z=>b.extBut c u (λy=>hc (by simp[y])) z)
 done:=λs Q E st q=>Vj hh st.1 st.2 hd hf rfl (λA' E' Q' q'=>nx s st.2 _ (bc hl) A' E' Q' (by rw[bq (ρ _)];exact q')) λh' x=>(q h' _ λc u hc z=>x c u (λy=>hc (by simp[y])) z)
 self:=λj j j j st q=>lM st.1 q
def Vz{es:Array (Int × Value)}{t:SetTable}{o ot:Obj}{pl:Oz}{ord:qV}(hh:A.handled=none)(hne:a≠I)(hnt:tp≠I)(hd:o.data=.set es ep t)(hf:t.fits es.size=true)
  (hdt:ot.data=.seq (pl.map λ(i:Nat)=>kg i).toArray k) (hl:ord.length=pl.length) (hx:∀ (i p:Nat),pl[i]? =some p->∃ e:Int × Value,es[p]? =some e/\ord[i]? =some e.2) :
  Walks P w A I [I,a,tp] [I] ord.length (λi v=>ord[i]? =some v) (λi h=>h.get? I=some (JX (.ref tp) i a es.size ep)/\h.get? a=some o/\h.get? tp=some ot) where
 sub:=λb hb=>by simp at hb;simp[hb]
 frame:=λj j j st k=>{k I (by simp) _ st.1,k a (by simp) _ st.2.1,k tp (by simp) _ st.2.2}
 item:=λi s Q E hi st q=>by
  have e:=η<|hl ▸ hi;obtain⟨x,e1,e2⟩:=hx i _ e;exact Vk st.1 st.2.1 hd hf rfl st.2.2 hdt (by rw[zd,τ,e];rfl) e1 λh' g b=>(q _ h' _ e2 {g,b.extBut a _ hne st.2.1,b.extBut tp _ hnt st.2.2} λc u hc z=>b.extBut c u (λy=>hc (by simp[y])) z)
 done:=λs Q E st q=>Vl hh st.1 st.2.1 hd hf rfl st.2.2 hdt (by rw[zd,τ,bq<|bc hl.symm];rfl) λh' x=>(q h' _ λc u hc z=>x c u (λy=>hc (by simp[y])) z)
 self:=λj j j j st q=>lM st.1 q
def Wb(hn:n≠0)(q:∀ i d,i<n->Q i { s with drawn:=d }):wpAny (model P w) A (choose .order n) Q E s:=fun Γ p hΓ =>{hn,(q _ _<|sx _<|s_ hn)}
def lN{α :Type}:∀ (n:Nat) (xs:List α) (s:π) (Q:List α ->π->Prop),xs.length=n->(∀ ys d,pi ys xs->Q ys { s with drawn:=d })->wpAny (model P w) A (drawOrder n xs) Q E s
 |0,xs,s,Q,hn,q=>by
  have  :=fb.mp hn;subst this;exact ν<|q [] _ .nil
 |n+1,[],s,Q,hn,q=>by cases hn
 |n+1,x::r,s,Q,hn,q=>by
  refine δ (Wb (by simp) λi d hi=>?_);rw[η hi];refine δ (lN n _ _ _ (by rw[wk hi,hn];rfl) λys d' p=>(ν<|q _ d'<|(List.Perm.cons _ p).trans ?_));rw[ku];refine Gn.symm.trans ?_;rw[<-iq hi,jv]
def Wc {Q:xP} (hh:A.handled=none) (S:IntSet P w s.heap a ms)
    (q:∀ I h1 d1,(∀ b o,s.heap.get? b=some o->h1.get? b=some o)->WQ P w A s.heap h1 a I ms->Q (.ref I) { s with heap:=h1,drawn:=d1 }):wpAny (model P w) A (zi<|.ref a) Q E s:=by
  revert S;apply u4;rintro o es ep t ⟨ho,hex,hd,hel,hp,hb,hf,L⟩
  have T:s.TypeIs (.ref a) _:=⟨o,ho,hex.1⟩
  have AY:=au ho;refine xp T PySem.F.slot_set_iter<|du PySem.F.slot_set_iter T Vq (δ<|ν<|δ<|δ<|k_ ho hd hf<|ν<|δ<|δ<|j_ ho hd hf<|δ<|δ<|li<|ν<|ν ?_) (PySem.F.args_set_iter_1 _)
  have plain:∀ (f:Nat->Nat) (ord:List _),f 0=0->ord.length=es.size->(∃ ks,rn _ ks/\ks.Perm ms) ->
      (∀ (s:π),s.heap.get? a=some o->∀ (i:Nat),i<=es.size->∀ (A':dq) (E':xP) (Q':Option _->π->Prop),Q' ((ord[i]?).map _) s->wpAny _ A' (Ei a (f i) i ep) Q' E' s) ->
      WQ P w A _ _ a _ ms:=λf ord f0 hl ⟨ks,hi,pk⟩ nx =>
    ⟨⟨_,_,ks,_,λb hb=>by
        simp only[ax,b_,or_false]at hb;rcases hb with rfl|rfl
        exact .inr<|ρ _;exact .inl rfl,Vy hh (bg AY) hd hf hl nx,{aj _ rfl,ο _ ho},hi,pk⟩,ρ _⟩
  have fin:∀ (W:WQ P w A _ _ a _ ms),
      wpAny (model P w) A.in1 (do
        let first ← (pure<|kg 0)
        ret (← newFields _ [first,kg 0,.ref a,kg es.size,kg<|← setEpoch a])) (λfin s'=>∃ v,fin=.done (.ret v)/\∃ T' r,s'.TypeIs v T'/\Je (.type T') _=pure (some r)/\Q v s') E s:=λW=>δ<|ν<|δ<|En ho hd hf<|δ<|dv<|ν {_,rfl,x2 _ _ {{_,aj _ rfl,rfl},HV.lookup,(q _ _ _ (λb u e=>ο _ e) W)}}
  show wpAny _ _ (if(!w.params.followText _&&(!t.plain&&decide _))=true then _ else _) _ _ s;cases ft:w.params.followText _ with
  |true =>
    have pk:=Vb (w.params.setOrder a ep) es
    have hl:(La (w.params.setOrder a ep) es).size=es.size:=by rw[<-ca,pk.length_eq,ca]
    refine fin (plain (λj=>0) _ rfl (by rw[ζ,ca,hl]) {_,WR<|hel.perm pk,(pk.map _).trans hp} λs1 h1 i hi A' E' Q' q'=>(Vm ft h1 hd hf ?_));rw[τ,gu,zw]at q';exact q'
  | false =>
    cases pl:(!t.plain&&decide (es.size > 1))with
    |false =>
      refine fin (plain _ (es.toList.map (·.2)) rfl (by rw[ζ,ca]) {_,WR hel,hp} λs1 h1 i hi A' E' Q' q'=>(Vp ft h1 hd hf L pl hi ?_));rw[τ,gu,zw]at q';exact q'
    | true =>
      rw[if_pos (by simp)];refine δ<|lN es.size (ξ es.size) s _ (cy) λys d p=>?_
      have hy:ys.length=es.size:=by rw[p.length_eq,cy]
      have hys:∀ x∈ys,x<es.size:=λx hx=>ai.mp<|p.mem_iff.mp hx;refine δ (wpAny_newTuple ?_ (by rw[ζ,hy];exact xn hb));refine δ<|En (o:=o) (ο _ ho) hd hf ?_;refine δ<|dv<|ν {_,rfl,x2 "set_iterator" _ {{_,aj _ rfl,rfl},HV.lookup,?_}};refine q _ _ d (λb u e=>ο _<|ο _ e) ⟨⟨_,ys.map λp=>(es[p]?.map (·.2)).getD .none,ys.map λp=>(es[p]?.map λe=>iv e.2).getD 0,_,λb hb=>?_,
        Vz hh ?_ ?_ hd hf rfl (by rw[ζ]) λi p e=>?_,{aj _ rfl,ο _<|ο _ ho,ο _<|aj _ rfl},?_,?_⟩,?_⟩
      · simp only[ax,b_,or_false]at hb
        rcases hb with rfl|rfl|rfl
        ·right;rw[ut];exact jc _
        ·exact .inl rfl
        ·exact .inr<|ρ _
      ·rw[ut];exact bg<|nz AY
      ·rw[ut];exact bg<|f_ _
      · have hp':p<es.size:=hys p (θ e)
        exact{es[p],eq hp',by rw[τ,e];simp[hp']}
      · have all:∀ (l:Oz),(∀ x∈l,x<es.size)->rn (l.map λp=>(es[p]?.map (·.2)).getD .none) (l.map λp=>(es[p]?.map λe=>iv e.2).getD 0):=by
          intro l
          induction l with
          |nil=>exact λj=>.nil
          |cons x r ih =>
            intro hl
            have hx:=hl x<|ω ..;obtain⟨tk,z⟩:=WP hel (e:=es[x]) (by simp)
            have e1:(es[x]?.map (·.2)).getD ke=ui (iv es[x].2) tk:=by rw[eq hx];exact z
            have e2:(es[x]?.map λe=>iv e.2).getD 0=iv es[x].2:=by rw[eq hx];rfl
            rw[dk,dk,e1,e2];exact .cons _ _<|ih λy hy=>hl y<|υ _ hy
        exact all ys hys
      · refine(p.map _).trans (List.Perm.trans (List.Perm.of_eq ?_) hp)
        refine List.ext_getElem (by simp) λi h1 h2=>?_
        have hi:i<es.size:=by simpa using h1
        simp[hi]
      ·rw[ut];exact jc _
def Wd(T:s.TypeIs (.ref a) "set")(q:Q false s):wpAny (model P w) A (Builtin.List.listLengthHint<|.ref a) Q E s:=by
 refine δ<|vj T PySem.F.slot_set_len.lookup ?_;generalize hid:("set.__len__")=id0;subst hid;exact δ (lj  (b:=true) T (by rw[isSubtype_type];kernel_rfl) (wpAny_ite_split (λz=>absurd z (by decide)) (λy=>(wpAny_ite_split (λy=>(δ<|yl T<|ν q)) (λz=>absurd (by decide) z)))))
def Wg(hh:A.handled=none)(S:IntSet P w s.heap a ms)(hn:ms.length<=sizeLine)
  (q:∀ h' tk d vs ks,(∀ b o,s.heap.get? b=some o->h'.get? b=some o)->s.heap.objs.size<=h'.objs.size->rn vs ks->ks.Perm ms->R vs { s with heap:=h',toks:=tk,drawn:=d }):wpAny (model P w) A (collect<|.ref a) R E s:=by
 have AY:=let ⟨_,_,_,_,ho,_⟩:=S;au ho
 refine δ<|wpAny_runValue<|my entry_proto_collect' ?_;refine δ<|dv<|ν {xy PySem.F.plain_list_iadd _,my entry_list_iadd' ?_}
 show wpAny _ A.in1 (Builtin.List.listExtendWith (.ref s.heap.objs.size) (.ref a) (.ref s.heap.objs.size)) _ _ _;generalize eN:s.heap.objs.size=N at AY ⊢
 have gN:(s.heap.push { cls:=.type "list",data:=.seq ([]:qV).toArray }).get? N=some { cls:=.type "list",data:=.seq #[] }:=eN ▸ aj _ rfl
 have keep1:∀ b o,s.heap.get? b=some o->(s.heap.push { cls:=.type "list",data:=.seq ([]:qV).toArray }).get? b=some o:=λb o e=>ο _ e
 have S1:=S.at λo e=>keep1 a o e
 have big:(s.heap.push { cls:=.type "list",data:=.seq ([]:qV).toArray }).objs.size=N+1:=by rw[ut,eN]
 revert gN keep1 S1 big;generalize s.heap.push { cls:=.type "list",data:=.seq ([]:qV).toArray }=h0;intro gN keep1 S1 big
 have T1:∀ h':Heap,(∀ b o,h0.get? b=some o->h'.get? b=some o)->∀ tk d,({ s with heap:=h',toks:=tk,drawn:=d }:π).TypeIs (.ref a) "set":=λh' k tk d=>by
  revert S1;apply u4;rintro o x x x ⟨ho,hex,x⟩;exact{o,k _ _ ho,hex.1}
 have ne:xz (.ref N) (.ref a)=false:=by
  simp only[xz,beq_eq_false_iff_ne];exact iy AY
 refine δ<|yl (T:="set") (T1 h0 (λx x e=>e) s.toks s.drawn) ?_
 have n1:(og "set" == og "list")=false:=by decide
 have n2:(og "set" == og "tuple")=false:=by decide
 simp only[ne,n1,n2,qz,wq,if_false];refine δ (Wc (A:=A.in1) (s:={ s with heap:=h0 }) (by simpa using hh) S1 λI h1 d1 k1 W=>?_);obtain⟨⟨fp,ord,ks,St,hfp,W,st,hi,pk⟩,hI⟩:=W
 have CC:ord.length=ms.length:=by rw[zx hi,pk.length_eq]
 have hI:=big ▸ hI;refine δ<|gx<|Wd (T1 h1 k1 s.toks d1) ?_;refine δ<|sv<|δ ?_
 have g1:=k1 _ _ gN
 have g2:=dw (ma (·.push ke)) g1 rfl;refine δ (y_ (s:={ s with heap:=h1,drawn:=d1 }) g1 rfl (y_ (hz:=by seq_fits) g2 rfl ?_))
 have oth:∀ b o,b≠N->h1.get? b=some o->((h1.update N (ma (·.push ke))).update N (ma (·.pop))).get? b=some o:=λb o hb e =>
  (de _ _<|fg hb).trans ((de _ _<|fg hb).trans e)
 have Nfp:N∉fp:=λz=>by
  rcases hfp N z with y|y
  ·exact iy AY y
  ·have y':h0.objs.size<=N:=y;rw[big]at y';exact absurd y'<|Nat.not_succ_le_self _
 refine ν {xy PySem.F.plain_extend_loop _,(codeAny_extend_loopS W.toS (by rw[CC];exact hn) N Nfp (.ref N) ord.length 0 _ #[] _ rfl (bh _) (W.frame 0 _ _ st λb hb o e=>oth b o (λz=>Nfp<|z ▸ hb) e) (dw (ma (·.pop)) g2 rfl) (ItemsOf.nil _) λs' BN c m g4 hacc=>?_)};refine δ<|wpAny_load g4 ?_;refine ν ?_
 have eacc:BN.toList=ord:=by
  refine xq λi=>?_;by_cases hlt':i<ord.length
  ·have h3:i<BN.size:=by rw[hacc.1];exact hlt'
   have:=hacc.2 i BN[i] (eq h3);rw[gu,eq h3,this]
  ·have e1:BN.toList[i]? =none:=bq (by rw[ca,hacc.1];exact ck hlt')
   have e2:ord[i]? =none:=bq<|ck hlt';rw[e1,e2]
 rw[eacc];obtain⟨h3,gn3,dr3,tk3,os3⟩:=s'
 have a1:gn3=s.gens:=m.gens
 have a2:dr3=d1:=m.drawn
 have a3:os3=s.os:=m.os;subst a1;subst a2;subst a3;refine q _ _ dr3 ord ks (λb o e=>?_) (by rw[eN];exact l8<|au g4) hi pk
 have hb:b<N:=eN ▸ au e;refine m.heap b o (λz=>?_) (oth b o (bg hb) (k1 _ _<|keep1 _ _ e));simp only[ax,b_,or_false]at z;rcases z with z|z
 ·exact bg hb z
 ·exact bg (χ (nz hb) hI) z
def Wh(hh:A.handled=none)(S:IntSet P w s.heap a ms)(hn:ms.length<64)
  (q:∀ D h' tk d c out ks,(∀ b o,s.heap.get? b=some o->h'.get? b=some o)->s.heap.objs.size<=D->h'.get? D=some (seqObj "list" out c)->rn out.toList ks->ks.Perm ms->ks.Pairwise (· <=·)->Q (.ref D) { s with heap:=h',toks:=tk,drawn:=d }) :
  wpAny (model P w) A (call (.builtin "sorted") [.ref a]) Q E s:=by
 refine Calls.call_function_entry kind_sorted plain_sorted entry_sorted (args_sorted1 _) (δ  (ν<|δ<|Wg  (hh) S (oB hn rfl) λh1 tk d vs ks k1 size_le hi pk=>?_))
 have hl:vs.length<64:=by rw[zx hi,pk.length_eq];exact hn
 have g:(h1.push _).get? _=some (seqObj "list" vs.toArray 0):=aj _ rfl;refine δ<|wpAny_newList (δ<|gx<|du slot_list_sort ⟨_,g,rfl⟩ entry_list_sort (list_sort_tree g hi hl λout ks' i1 p1 r1=>{_,rfl,?_}) (args_list_sort _)) (oB hl rfl);obtain⟨c,gc⟩:=sortedHeap_at   g;refine ν {_,rfl,q _ _ tk d c _ _ (λb o e=>?_) size_le gc i1 (p1.trans pk) r1}
 have hb:=au<|k1 _ _ e;rw[sortedHeap_old (bg hb) (by rw[ut];exact nz hb)];exact ο _<|k1 _ _ e
end
end L2
namespace L2
open PySem PyProof.Rows
section
variable{P:bu}{w:World}{A:dq}{E:xP}{s:π}
def Wj (hh:A.handled=none) (hl:s.heap.IsList l AJ) (hi:rn AJ.toList ns) (hb:AJ.size+1<v_)
    (q:∀ h' tk,IntSet P w h' s.heap.objs.size (wn (λi=>ns.getD i 0) AJ.size)->(∀ b o,s.heap.get? b=some o->h'.get? b=some o)->Q (.ref s.heap.objs.size) { s with heap:=h',toks:=tk }) :
    wpAny (model P w) A (call (.type "set") [.ref l]) Q E s:=by
  refine u2 ?_ PySem.F.called_set.mro;rintro c tl mro
  have made:=PySem.F.called_set.made
  have sub:=PySem.F.called_set.sub;refine Iz<|codeAny_of_tree ?_
  show wpAny _ _ (callAny (.type "set") _) _ _ _;refine ν {Code.quiet_builtin _ (by decide +kernel),my PySem.F.entry_type_call ?_};rw[Around.under_plain (weight_type_call_type "set" [.ref l] []) rfl]
  have n1:=PySem.F.called_set.notType
  have n2:=PySem.F.called_set.canCreate
  have n3:=PySem.F.typeCall_set_1<|.ref l
  repeat (any_goals (first|assumption|wp_step))
  generalize eS:({ cls:=.type "set",dict:=none,data:=.set #[] 0 (.fresh 0 0<|leads w) }:Obj)=oS;refine l_ (Vg (E:=E) (Q:=λx s1=>x=.ref s.heap.objs.size/\s1={ s with heap:=s.heap.push oS }) {rfl,by rw[<-eS]}) λr s1 hr=>?_;cases r with
  |error e=>exact hr
  | ok fl =>
    cases fl with
    | ret x =>
      obtain⟨rfl,rfl⟩:=hr
      have g0:(s.heap.push oS).get? s.heap.objs.size=some oS:=aj _ (by rw[<-eS];rfl)
      have T0:Shared.TypeIs { s with heap:=s.heap.push oS } (.ref s.heap.objs.size) "set":={_,g0,by rw[<-eS]}
      have i1:=PySem.F.called_set.init.lookup
      have i2:=PySem.F.called_set.init.bind<|.ref s.heap.objs.size
      repeat (any_goals (first|assumption|wp_step))
      refine l_ (codeAny_call_builtin (R:=wants (λr s2=>r=.none/\∃ h' tk,s2={ s with heap:=h',toks:=tk }/\IntSet P w h' s.heap.objs.size (wn (λi=>ns.getD i 0) AJ.size) /\
        (∀ b o,s.heap.get? b=some o->h'.get? b=some o)) E) PySem.F.called_set.init.plain PySem.F.entry_set_init (check_set_init_1 T0 ?_)) λr2 s2 RF=>?_
      · obtain⟨ol,gl,cl,nl,dl⟩:=hl
        obtain⟨c1,d1,dt1,sl1⟩:=ol;simp only at cl dl;subst cl;subst dl
        have gl':=ο oS gl
        have e1:=PySem.F.sub_list_set
        have e2:=PySem.F.sub_list_frozenset
        have e3:(og "list" == og "dict")=false:=by decide
        have DH:(s.heap.push oS).IsList l AJ:=⟨_,gl',rfl,nl,rfl⟩
        have AY:l<s.heap.objs.size:=au gl
        have big:=ut s.heap oS;revert gl' DH g0 T0 big
        have keep0:∀ b o,s.heap.get? b=some o->(s.heap.push oS).get? b=some o:=λb o e=>ο _ e;revert keep0;generalize s.heap.push oS=h0;intro keep0 g0 T0 gl' DH big;subst eS;unfold vq.«set.__init__» noKeywords Ij;generalize hPI:zi=PI
        wp_walk
        subst hPI;refine xl DH ?_;refine δ<|wpAny_runValue ?_
        have hh3:A.in1.in1.in1.handled=none:=by simp[hh]
        have ne1:l≠h0.objs.size:=bg (by rw[big];exact nz AY)
        have nin:s.heap.objs.size∉[h0.objs.size,l]:=by
          simp only[ax,b_,or_false,not_or];exact{bg (by rw[big];exact f_ _),iy AY}
        refine Vd ((Mo hh3 _ l ne1 AJ).toS) s.heap.objs.size nin (λi=>ns.getD i 0) (λi v e=>IntsAre.int_at hi i v (by rw[gu];exact e)) hb (AJ.size-0) 0 _ (by omega) (bh _)
          {{_,aj _ rfl,rfl,rfl},DH.push _} (x4 _ (#[]) 0 _ {ο _ g0,⟨rfl,rfl,rfl⟩,rfl,λe he=>by simp at he,by exact .nil,by decide,by rfl,Led.fresh _}) λs3 m S3=>?_
        obtain⟨h3,g3,d3,tk3,os3⟩:=s3
        have a1:g3=s.gens:=m.gens
        have a2:d3=s.drawn:=m.drawn
        have a3:os3=s.os:=m.os;subst a1;subst a2;subst a3
        show wpAny _ _ _ _ _ _;refine ν ?_
        show wpAny _ _ (ret ke) _ _ _;refine ν {rfl,x2 h3 tk3 {rfl,S3,λb o e=>?_}}
        have hb:=au e;refine m.heap b o ?_<|ο _<|keep0 _ _ e;simp only[ax,b_,or_false,not_or];exact{bg hb,bg (by rw[big];exact nz hb)}
      · cases r2 with
        |error e=>exact RF
        | ok fl2 =>
          cases fl2 with
          |ret r =>
            obtain⟨rfl,h',tk,rfl,S',k'⟩:=RF
            repeat (any_goals (first|assumption|wp_step))
            exact q _ _ S' k'
          |_=>exact RF.elim
    |_=>exact hr.elim
end
end L2
namespace L2
section
variable{X:Cx}
def Inv.drawn(I:Inv X AA σ H s)(d):Inv X AA σ H { s with drawn:=d } :=
 { ok:=I.ok,os:=I.os,bare:=I.bare,base:=I.base,loc:=I.loc,cell:=I.cell,free:=I.free,freeC:=I.freeC,pin:=I.pin,hok:=I.hok,len:=I.len }
def lO:∀ {ns:r8} {us:qV},Vals (ns.map V.int) us->rn us ns
 | [],_,.nil=>.nil
 |n::r,_,.cons h t=>by
  obtain⟨tk,rfl⟩:=h;exact .cons _ _<|lO t
abbrev lP(X:Cx)(a:Addr)(ms:r8):HO:=.ext λh=>IntSet X.prog X.w h a ms
def Wk(hc:X.calm=true):D7 X (.type "set") (λxs H Q=>∃ (p:Addr) (ns:r8),xs=[.ref p]/\SqL X.K H p (ns.map V.int)/\ns.length<=1000 ∧
  ∀ (a:Addr),H a=none->Q (.ref a) (upd H a<|lP X a<|wn (λi=>ns.getD i 0) ns.length)):=by
 intro AA s σ H xs us Q I r h;revert h;apply u2;rintro p ns ⟨rfl,hq,hn,q⟩;obtain⟨u,rfl,rfl⟩:=FZ r;obtain⟨AJ,r',pl,hz⟩:=I.list hq
 have hi:=lO r'
 have CC:=zx hi
 have hz2:AJ.toArray.size=ns.length:=by rw[az,CC]
 refine Wj (I.ok.hd hc) pl.isList hi (by rw[az,CC];exact cr (Go hn) (by decide)) λh' tk S k=>?_;rw[hz2]at S;refine x2 (.ref _) _ {I.laid k (ρ _) ?_,rfl,q _<|I.hok.fresh<|ρ _};exact{S,⟨_,S.choose_spec.choose_spec.choose_spec.choose_spec.1⟩,λh1 h2 z e=>z.at e}
def Wl(hc:X.calm=true):D7 X (.builtin "sorted") (λxs H Q=>∃ (a:Addr) (ms:r8),xs=[.ref a]/\H a=some (lP X a ms)/\ms.length<64 ∧
  ∀ (D:Addr) (ks:r8),H D=none->pi ks ms->ks.Pairwise (· <=·)->Q (.ref D) (upd H D<|.lst<|ks.map V.int)):=by
 intro AA s σ H xs us Q I r h;revert h;apply u2;rintro a ms ⟨rfl,ha,hn,q⟩;obtain⟨S,z,z⟩:=I.hok a _ ha;obtain⟨u,rfl,rfl⟩:=FZ r;refine Wh (I.ok.hd hc) S hn λD h' tk d c out ks k hD g hi pk hr=>(x2 (.ref D) _ {(I.laid  k hD ?_).drawn d,rfl,q D ks (I.hok.fresh hD) pk hr})
 exact{by rw[ζ];exact oB (by rw[pk.length_eq];exact hn) rfl,x2 _ c {VX hi,g}}
def Wm(val:Nat->Int)(n:Nat)(x:Int):x∈wn val n↔∃ i,i<n/\val i=x:=by
 have h:=firstMet_any val n x;rw[mz,c_,c_]at h;constructor;intro hx;obtain⟨y,hy,e⟩:=h.mp {x,hx,beq_self_eq_true x};obtain⟨i,hi,rfl⟩:=av.mp hy;exact{i,ai.mp hi,eq_of_beq e};rintro ⟨i,hi,rfl⟩;obtain⟨y,hy,e⟩:=h.mpr {_,av.mpr {i,ai.mpr hi,rfl},beq_self_eq_true _};exact eq_of_beq e ▸ hy
def WS(val:Nat->Int):∀ n,(wn val n).Nodup
 |0=>jr
 |n+1=>by
  rw[firstMet_succ];by_cases h:val n∈wn val n;rw[lI h];exact WS _ n;rw[lJ h];exact n_.mpr {WS _ n,by simp,λa ha b hb e=>by rw[aa]at hb;subst hb e;exact h ha}
def lQ:∀ {l:r8},l.Pairwise (· <=·)->l.Nodup->l.Pairwise (· <·)
 | [],_,_=>.nil
 |x::r,h,n=>by
  obtain⟨n1,n2⟩:=gy.mp n;obtain⟨h1,h2⟩:=mj.mp h;refine mj.mpr {λy hy=>?_,lQ h2 n2}
  have:=h1 y hy
  have:x≠y:=λz=>n1<|z ▸ hy
  lia
def R7(K:ι)(te:TE):TE:=λσ H Q=>te σ H λx H1=>∃ (p:Addr) (ns:r8),x=.ref p/\SqL K H1 p (ns.map V.int)/\ns.length<64 /\
 ∀ (a:Addr) (o:HO) (D:Addr) (ks:r8),H1 a=none->upd H1 a o D=none->ks.Pairwise (· <·)->(∀ x,x∈ks↔x∈ns)->ks.length<=ns.length->Q (.ref D) (upd (upd H1 a o) D (.lst<|ks.map V.int))
def clo(te:TE):TE:=λσ H Q=>∃ C:VK,te σ H C/\∀ x H1,C x H1->Q x H1
def PE.clo(h:PE X e te):PE X e (clo te):=(by rintro AA s σ H Q I ⟨C,q,m⟩;exact AO (h _ s σ H C I q) (by rintro v s' ⟨x,H1,I1,r1,q1⟩;exact x2 x H1 {I1,r1,m _ _ q1}))
def Wp(hc:X.calm=true)(g1:Gl X "sorted")(m1:X.mg "sorted"=none)(g2:Gl X "set")(m2:X.mg "set"=none)(h:PE X e te)
  (he:ay [e] X.env=[(false,eval e X.env)]:=by rfl) :
  PE X (.Call (.Name "sorted" p1) [.Call (.Name "set" p2) [e] [] p3] [] p4) (R7 X.K te):=λAA s σ H Q I q=>by
 refine(OH (Wl hc) g1 m1 (rfl) (MV (MX (Wk hc) g2 m2 (rfl) (MV h.clo RR he) (he:=he)) RR)) _ s σ H Q I ({_,q,λx H1 hzz=>?_});obtain⟨p,ns,rfl,hq,hn,q1⟩:=hzz;refine x2 p ns {rfl,hq,oB hn rfl,λa ha=>x2 a _ {rfl,AD,(cr (wo ..) hn),λD ks hD pk hr=>?_}};refine q1 a _ D ks ha hD (lQ hr<|pk.nodup_iff.mpr<|WS (λi=>ns.getD i 0) _) (λx=>?_) (by rw[pk.length_eq];exact wo ..);rw[pk.mem_iff,Wm];refine{λhzz=>?_,λhx=>?_};obtain⟨i,hi,e⟩:=hzz;rw[<-e];simp[hi];obtain⟨i,hi,e⟩:=jj hx;exact{i,hi,by simp[hi,e]}
end
def R9(K:ι)(a:Addr)(n:Nat):It :=
 {λi H=>i<n/\∃ xs,SqL K H a xs/\xs.length=n,λi H x H'=>H'=H/\∀ xs,SqL K H a xs->xs[n-1-i]? =some x,λi _=>n<=i}
def Wq{P:bu}{w:World}{K:ι}{tg:Expr}(a it:Addr)(n:Nat):JM P w K tg (R9 K a n) [it] it (λi h=>i<=n/\h.IsRevIter it a ((n:Int)-1-(i:Int))) where
 mem:=by simp
 obj:=λi h ⟨_,st⟩ b hb=>by
  have e:b=it:=by simpa using hb
  subst e;obtain⟨o,e,c,d⟩:=st;exact{o,e,λv z=>by rw[d]at z;cases z}
 keep:=λi h h' ⟨l,st⟩ k=>{l,st.at λo e=>k it (by simp) o e}
 item:=by
  rintro X hP hw hK hc i AA s σ H E I hf ⟨hl,st⟩ ⟨hi,xs,hq,hn⟩;subst hP hw hK;obtain⟨AJ,rv,p,hz⟩:=I.list hq
  have AY:n-1-i<xs.length:=by omega
  have hx:=η AY;obtain⟨f0,f1,f2,f3,f4,f5⟩:=hf it (by simp)
  have e1:n-1-i=((n-1-i:Nat):Int):=by omega
  obtain⟨u,hu,ru⟩:=rv.get hx;rw[e1]at st
  have e2:((n-1-i:Nat))-1=n-1-((i+1):Int):=by omega
  refine wpAny_pyNext_rev_item st p.isList  (by simpa using hu) λh' st' sb=>?_;rw[e2]at st'
  have I1:Inv X _ σ H { s with heap:=h' }:=I.turned  (λb o hb e=>(sb.2 b hb).trans e) f0 f1 f3 f4 f5;obtain⟨o,e,c,d⟩:=id st';exact{u,rfl,MT  e c d (by decide) (x2 _ H {I1,ru,{rfl,λys hy=>by rw[I.list_inj hy hq];exact hx},⟨hi,st'⟩,λb hb=>(hf b hb).1})}
 done:=by
  intro X hP hw hK hc i AA s σ H E I hf ⟨hl,st⟩ hg;obtain⟨f0,f1,f2,f3,f4,f5⟩:=hf it (by simp)
  have e:=jx hl hg;subst e
  have e1:i-1-(i:Int)= -1:=by lia
  rw[e1]at st;exact wpAny_pyNext_rev_end (I.ok.hd hc) st λh' eb=>{rfl,I.turned  (λb o hb e=>eb b o hb e) f0 f1 f3 f4 f5}
 self:=λy y y y y st h=>zy st.2 h
def SB(K:ι)(ta:TA):TI:=λσ H R=>ta σ H λvs H1=>∃ a xs,vs=[.ref a]/\SqL K H1 a xs/\R (R9 K a xs.length) H1
def Wv:tq "reversed"=some (.type "reversed"):=rfl
section
variable{X:Cx}{tg:Expr}
def Ww{a:Expr}{ta:TA}{p pos:Pos}(hg:Gl X "reversed")(hm:X.mg "reversed"=none)(ha:PA X [a] ta)(hs:ay [a] X.env=[(false,eval a X.env)]:=by rfl):PI X tg (.Call (.Name "reversed" p) [a] [] pos) (SB X.K ta):=by
 refine λAA s σ H R I h=>Call_ (N6 I hg hm Wv (jk (AO (ha _ _ s σ H _ I h) λus s1 hzz=>?_) (by rw[hs];rfl) (rfl)));obtain⟨vs,H1,I1,r1,q1⟩:=hzz;revert q1;apply u2;rintro l xs ⟨rfl,hx,q⟩;obtain⟨AJ,rv,pl,hz⟩:=I1.list hx;obtain⟨u,rfl,rfl⟩:=FZ r1;refine call_reversed_list pl.isList ?_
 have st:(s1.heap.push<|revObj l _).IsRevIter _ l (xs.length-1-(0)):=⟨_,aj _ rfl,rfl,by
  show Data.fields #[.ref l,kg<|AJ.toArray.size-1]=_;rw[az,<-rv.length];simp⟩
 have I2:Inv X _ σ H1 { s1 with heap:=s1.heap.push (revObj l<|AJ.toArray.size-1) }:=I1.kept  λb o e=>ο _ e;refine zy st ?_;exact⟨_,_,_,_,H1,rfl,I2,Wq l _ _,{bh _,st},λb hb=>by
  have e:b=s1.heap.objs.size:=by simpa using hb
  subst e;exact I1.fpOk (ρ _) (I1.hok.fresh<|ρ _),q⟩
def OY(K:ι):Oj->Hp->VK->Prop:=λxs H Q=>∃ (p:Addr) (kvs:rR),xs=[.ref p]/\H p=some (.dK kvs)/\∀ l,H l=none->Q (.ref l) (upd H l<|.dK kvs)
def Wx:D7 X (.type "dict") (OY X.K):=by
 intro AA s σ H xs us Q I r h;revert h;apply u2;rintro p kvs ⟨rfl,hp,q⟩;obtain⟨u,rfl,rfl⟩:=FZ r;exact Mz I (.inl hp) λl s' hl I'=>x2 (.ref l) _ {I',rfl,q l hl}
def Wy{K:ι}{p:Addr}{H:Hp}{Q:VK}:OY K [.ref p] H Q=∃ kvs,H p=some (.dK kvs)/\∀ l,H l=none->Q (.ref l) (upd H l<|.dK kvs):=by simp[OY]
end
def Wz{K:ι}{as:TA}{g:TG}{s1:TS}{D:Ends}{σ:St}{H:Hp}:CZ (SB K as) g s1 D σ H=(as σ H λvs H1=>∃ a xs,vs=[.ref a]/\SqL K H1 a xs/\GA (R9 K a xs.length) g s1 D σ H1):=rfl
def Xb{K:ι}{σ:St}{H:Hp}{a:Addr}{xs:Oj}{g:TG}{tb:TS}{D:Ends}(Pv:qO)(h0:Pv 0 σ H)(ha:∀ i σ H,i<=xs.length->Pv i σ H->SqL K H a xs)
  (hs:∀ i x σ H,i<xs.length->xs[xs.length-1-i]? =some x->Pv i σ H->g x σ H λσ2 H2=>tb { D with nx:=Pv<|i+1,ct:=Pv<|i+1,bk:=D.nx } σ2 H2) (hd:∀ σ H,Pv xs.length σ H->D.nx σ H):GA (R9 K a xs.length) g tb D σ H:=by
 refine{λi m σ H=>i+m=xs.length/\Pv i σ H,{xs.length,by lia,h0},λi m σ H hzz=>?_};obtain⟨e,p⟩:=hzz
 have h1:=ha i σ H (by lia) p;by_cases hi:i<xs.length;refine .inr {⟨hi,xs,h1,rfl⟩,_,λσ' H' q=>{m-1,by omega,by lia,q},λv H' hzz=>?_};obtain⟨rfl,q1⟩:=hzz;exact hs i v σ _ hi (q1 _ h1) p
 have e:i=xs.length:=by lia
 subst e;exact .inl {ρ _,hd _ _ p}
section
variable{K:ι}{tt:TT}{A4:Oz}{σ:St}{H:Hp}{Q:VK}
abbrev _root_.YY:=Nat->Bool
def Xc(p:YY)(hn:n<=sizeLine)(ht:∀ i,i<n->∀ QB:Bool->Hp->Prop,QB (p i) H->tt (some (.int (i:Int))::CH A4 σ) H QB)
  (hd:∀ q,H q=none->Q (.ref q) (upd H q<|.lst<|((ξ n).filter p).map λ(i:Nat)=>V.int i)):D2 (E9 0 n) (AE 0) tt (DP 0) 1 A4 σ H Q:=by
 refine{λi m σ' ys H'=>m=n-i/\i<=n/\H'=H/\(∃ x0,σ'=x0::CH _ σ)/\ys=((ξ i).filter p).map λ(i:Nat)=>V.int i,{n,rfl,bh _,rfl,⟨_,rfl⟩,rfl},?_};rintro i m σ' ys H' ⟨rfl,hi,rfl,⟨x0,rfl⟩,rfl⟩;by_cases AY:i<n;refine .inr {AY,?_,λx H2 y=>?_};rw[ζ]
 have:=cm p<|ξ i;rw[cy]at this;exact cr this<|χ AY hn;obtain⟨e,y⟩:=y;subst e y;rw[uc];refine ht i AY _ ?_;cases hp:p i with
 |true =>
  refine{λv H4=>v=.int i/\H4=H2,λy H4 ⟨e1,e2⟩=>{_,by omega,rfl,AY,e2,⟨_,rfl⟩,?_},(by simp[DP])};rw[e1,bt];simp[hp]
 |false =>
  refine{_,by omega,rfl,AY,rfl,⟨_,rfl⟩,?_};rw[bt];simp[hp]
 have e:i=n:=by omega
 subst e;exact .inl {ρ _,hd}
def WT(p:V->Bool)(hn:xs.length<=sizeLine)(hq:SqL K H b xs)(ht:∀ x∈xs,∀ QB:Bool->Hp->Prop,QB (p x) H->tt (some x::CH A4 σ) H QB)
  (hd:∀ q,H q=none->Q (.ref q) (upd H q<|.lst<|xs.filter p)):D2 (FX K b) (AE 0) tt (DP 0) 1 A4 σ H Q:=by
 refine{λi m σ' ys H'=>m=xs.length-i/\i<=xs.length/\H'=H/\(∃ x0,σ'=x0::CH _ σ)/\ys=(xs.take i).filter p,{xs.length,rfl,bh _,rfl,⟨_,rfl⟩,rfl},?_};rintro i m σ' ys H' ⟨rfl,hi,rfl,⟨x0,rfl⟩,rfl⟩;by_cases AY:i<xs.length;refine .inr {x2 xs (xs[i]) {hq,by simp[AY]},?_,λx H2 y=>?_}
 have:=cm p<|xs.take i;rw[cz]at this
 lia
 obtain⟨rfl,y⟩:=y
 have hx:=y xs hq
 have et:xs.take (i+1)=xs.take i++[x]:=by
  obtain⟨h1,h2⟩:=ε.mp hx;rw[<-h2,ki]
 refine ht x (θ hx) _ ?_;cases hp:p x with
 |true =>
  refine{λv H4=>v=x/\H4=H2,λy H4 ⟨e1,e2⟩=>{_,by omega,rfl,AY,e2,⟨_,rfl⟩,?_},(by simp[DP])};rw[et,e1];simp[hp]
 |false =>
  refine{_,by omega,rfl,AY,rfl,⟨_,rfl⟩,?_};rw[et];simp[hp]
 have e:i=xs.length:=by lia
 subst e;refine .inl {{xs,hq,ρ _},λq hq'=>?_};rw[bx];exact hd q hq'
end
section
variable{K:ι}{td ty tv te:TE}{D:Ends}{σ:St}{H:Hp}{Q:VK}{QB:qQ}
def Xd:IN σ H Q=(∀ p,H p=none->Q (.ref p) (upd H p<|.dK [])):=rfl
def Xg:OQ σ H Q=(∀ p,H p=none->Q (.ref p) (upd H p<|.dT [])):=rfl
def Xh:R7 K te σ H Q=(te σ H λx H1=>∃ (p:Addr) (ns:r8),x=.ref p/\SqL K H1 p (ns.map V.int)/\ns.length<64 /\
 ∀ (a:Addr) (o:HO) (D:Addr) (ks:r8),H1 a=none->upd H1 a o D=none->ks.Pairwise (· <·)->(∀ x,x∈ks↔x∈ns)->ks.length<=ns.length->Q (.ref D) (upd (upd H1 a o) D (.lst<|ks.map V.int))):=rfl
variable{a b:Addr}{i j:Int}{z:Str}{kvs:rR}{kvt:rC}{v:V}
def dI(e:H a=some (.dK kvs)):DGet H a (.int i) (A5 kvs<|.inl i):=DGet.k (k:=.inl i) e
def dS(e:H a=some (.dK kvs)):DGet H a (.str z) (A5 kvs<|.inr z):=DGet.k (k:=.inr z) e
def Xj(e:H a=some (.dT kvt))(eb:H b=some (.tup [.int i,.int j])):DGet H a (.ref b) (A5 kvt [.inl i,.inl j]):=DGet.t  e eb
def Xk(e:H a=some (.dK kvs))(h:A5 kvs (.inr z)=some v):DGet H a (.str z) (some v):=h ▸ dS e
def pI(e:H a=some (.dK kvs))(hl:kvs.length<100000):DPut H a (.int i) v (upd H a<|.dK<|B0 kvs (.inl i) v):=DPut.k (k:=.inl i) e (χ hl (by decide))
def pS(e:H a=some (.dK kvs))(hl:kvs.length<100000):DPut H a (.str z) v (upd H a<|.dK<|B0 kvs (.inr z) v):=DPut.k (k:=.inr z) e (χ hl (by decide))
def Xl(e:H a=some (.dT kvt))(eb:H b=some (.tup [.int i,.int j]))(hl:kvt.length<100000):DPut H a (.ref b) v (upd H a<|.dT<|B0 kvt [.inl i,.inl j] v):=DPut.t  e eb (χ hl (by decide))
end
section
variable{X:Cx}
abbrev M6(K:ι):R2:=RS K false
abbrev WU(K:ι):R2:=RS K true
def lR(hu:X.A.units+64<cLine):BW X (dt .In) (M6 X.K):=Kx
def Xm(hu:X.A.units+64<cLine):BW X (dt .NotIn) (WU X.K):=Ky
end
def SqT.same{K:ι}{H H':Hp}{a:Addr}{xs:Oj}(e:Same H H')(h:SqT K H a xs):SqT K H' a xs:=by
 rcases h with(h|⟨o,h⟩)|h
 exact .inl<|.inl<|e _ _ h;exact .inl<|.inr {o,e _ _ h};exact .inr h
mutual
def Rep.same{K:ι}{H H':Hp}(s:Same H H'):∀ {v:V} {d:um},Rep K H v d->Rep K H' v d
 |_,_,.non=>.non
 |_,_,.bl b=>.bl b
 |_,_,.int i=>.int i
 |_,_,.str x=>.str x
 |_,_,.lst h r=>.lst (s.seq h) (RepAll.same s r)
 |_,_,.tup h r=>.tup (SqT.same s h) (RepAll.same s r)
def RepAll.same{K:ι}{H H':Hp}(s:Same H H'):∀ {vs:Oj} {ds:List um},RepAll K H vs ds->RepAll K H' vs ds
 |_,_,.nil=>.nil
 |_,_,.cons h r=>.cons (Rep.same s h) (RepAll.same s r)
end
def Dat(K:ι)(H:Hp)(n:Nat)(v:V)(d:um):Prop:=Rep K H v d/\d.canLay0=true/\d.depth<=n
section
variable{K:ι}{H:Hp}{n:Nat}{Q:VK}
def Dat.int(i:Int):Dat K H n (.int i) (.int i):={.int i,rfl,bh _}
def Dat.non:Dat K H n .non .none:={.non,rfl,bh _}
def WV:∀ {xs:Oj} {ds:List um},Paired (Dat K H n) xs ds->RepAll K H xs ds/\Eo ds=true/\PyData.depthAll ds<=n
 |_,_,.nil=>{.nil,rfl,bh _}
 |_,_,.cons h t=>by
  obtain⟨a1,a2,a3⟩:=WV t;refine{.cons h.1 a1,(by simp[Eo,h.2.1,a2]),(Nat.max_le.mpr ⟨h.2.2,a3⟩)}
def Dat.lst(h:SqL K H p xs)(hs:Paired (Dat K H n) xs ds):Dat K H (n+1) (.ref p) (.list ds):=by
 obtain⟨a1,a2,a3⟩:=WV hs;exact{.lst h a1,a2,by simpa [Lo]using a3}
def Dat.tup(h:SqT K H p xs)(hs:Paired (Dat K H n) xs ds):Dat K H (n+1) (.ref p) (.tuple ds):=by
 obtain⟨a1,a2,a3⟩:=WV hs;exact{.tup h a1,a2,by simpa [Lo]using a3}
def Dat.shp(h:Dat K H n v d)(hn:n<=64):shp d:=by
 unfold L2.shp PySem.SeqAt.shaped;rw[h.2.1];simpa using ψ h.2.2 hn
def Xp(hn:n<=64)(h1:Dat K H n (.ref p) d)(h2:Dat K H n (.ref q) d)(hq:Q (.bl false) H):KQ K (.ref p) (.ref q) H Q:=by
 refine y2 {h1.1,h2.1,h1.shp hn,h1.shp hn,?_};rw[Ub (h1.shp hn)];exact hq
end
section
variable{prog:bu}{w:World}{A:dq}{E:xP}{s:π}{d it:Addr}{od:Obj}{es:Array wa}{ep i:Nat}
def Xq(hd:(d==ig)=false)(ho:s.heap.get? d=some od)(hx:od.ExactDict)(hdat:od.data=.dict es ep)
  (hQ:Q (.ref s.heap.objs.size) { s with heap:=s.heap.push { cls:=.type "dict_keyiterator",data:=.fields #[.ref d,.int 0 0,.int es.size 0,.int ep 0] } }) :
  wpAny (model prog w) A (zi<|.ref d) Q E s:=by
 have hT:s.TypeIs (.ref d) _:=⟨od,ho,hx.1⟩
 refine xp hT yf<|du yf hT F.entry_dict_iter (δ<|δ<|ze hT<|ν ?_) (F.args_dict_iter_1 _)
 show wpAny _ _ (ug d>>=_) _ _ s;unfold ug;rw[if_neg (by rw[hd];exact aw)];refine δ<|ν<|δ<|io ho hdat<|δ<|r_ ho hdat<|δ<|dv<|ν {_,rfl,_,_,{_,aj _ rfl,rfl},gz.lookup,?_};exact hQ
def Xv(hit:s.heap.IsKeyIter it d i es.size ep)(hod:s.heap.get? d=some od)(hdd:od.data=.dict es ep)(he:es[i]? =some e)
  (hQ:∀ h',h'.IsKeyIter it d (i+1) es.size ep->fu it s.heap h'->Q (some e.key) { s with heap:=h' }) :
  wpAny (model prog w) A (xr<|.ref it) Q E s:=by
 obtain⟨o,ho,hc,hd⟩:=id hit;refine δ (kh (df  hit.typeIs gz
  (du gz hit.typeIs vc (δ<|ν<|δ<|δ ?_) (uu _))))
 first|refine δ (je hit.typeIs<|ν ?_)|refine δ<|kj _<|ν ?_
 refine δ<|oz ho hd ?_
 show wpAny _ _ _ _ _ s;refine δ<|ν<|δ<|io hod hdd ?_;rw[if_neg (by simp)];refine δ<|ν<|δ<|r_ hod hdd ?_;rw[if_neg (by simp)];refine ν ?_;simp only[cb,he];refine δ ?_
 first|refine δ (je hit.typeIs<|ν ?_)|refine δ<|kj _<|ν ?_
 refine δ<|zf hit.typeIs ?_
 show wpAny _ _ (setField _ 1 _>>=_) _ _ s;refine δ (lb ho hd (by simp) ?_)
 have hit':(s.heap.update it (va (·.setIfInBounds 1 (kg<|i+1)))).IsKeyIter it d (i+1) es.size ep :=
  {_,dw _ ho<|nr<|g_ hd _,(Df ..).trans hc,by rw[g_ hd];simp[kg]}
 refine δ<|gx<|δ<|zf  hit'.typeIs ?_;exact ν<|ν {_,rfl,ν<|hQ _ hit'<|d_ ..}
def Xw(hh:A.handled=none)(hit:s.heap.IsKeyIter it d i es.size ep)(hod:s.heap.get? d=some od)(hdd:od.data=.dict es ep)(hge:es.size<=i)
  (hQ:∀ h',lw it s.heap h'->Q none { s with heap:=h' }):wpAny (model prog w) A (xr<|.ref it) Q E s:=by
 obtain⟨o,ho,hc,hd⟩:=id hit;refine δ (kh (df  hit.typeIs gz
  (du gz hit.typeIs vc (δ<|ν<|δ<|δ ?_) (uu _))))
 first|refine δ (je hit.typeIs<|ν ?_)|refine δ<|kj _<|ν ?_
 refine δ<|oz ho hd ?_
 show wpAny _ _ _ _ _ s;refine δ<|ν<|δ<|io hod hdd ?_;rw[if_neg (by simp)];refine δ<|ν<|δ<|r_ hod hdd ?_;rw[if_neg (by simp)];refine ν ?_;simp only[cb,ub hge];refine δ ?_
 first|refine δ (je hit.typeIs<|ν ?_)|refine δ<|kj _<|ν ?_
 show wpAny _ _ (setField _ 0 _>>=_) _ _ s;refine δ (lb ho hd (by simp) ?_);refine δ ?_;refine δ (dv (δ  (zu  (by first|rfl|(rfl)) (dv ?_ (by size_fits)))) (by size_fits));refine δ<|A_ ?_;rw[hh];refine δ<|ν<|Ie ?_;exact δ<|lj   {_,aj _ rfl,rfl} wp (ν<|hQ _<|((d_ ..).extBut.push _).push _)
end
def WW:∀ {ys:qZ} {us:qV},Vals (ys.map V.str) us->StrsAre us ys
 | [],_,.nil=>.nil
 |y::r,_,.cons h t=>by
  obtain⟨tk,rfl⟩:=h;exact .cons _ _<|WW t
section
variable{X:Cx}
def WX(K:ι):V->Oj->Hp->VK->Prop:=λx vs H Q=>∃ (z:Str) (p:Addr) (ys:qZ),x=.str z/\vs=[.ref p]/\SqL K H p (ys.map V.str)/\z.length<=16/\(ys.map (·.length)).sum+ys.length<=1048576/\Q (.str<|Txt.join z ys) H
def Xx:jO X "str.join" (WX X.K):=by
 intro AA s σ H x vs v us Q I rx rv h;revert h;apply u3;rintro z p ys ⟨rfl,rfl,hp,hz,hw,q⟩;obtain⟨u,rfl,rfl⟩:=rv.one;obtain⟨t,rfl⟩:=rx;obtain⟨AJ,r,pl,hz'⟩:=I.list hp;exact join_listW pl.isList (WW r) hz hw λt' k=>x2 (.str _) H {I.tok k,⟨t',rfl⟩,q}
end
section
variable{K:ι}{tt:TT}{te:TE}{A4:Oz}{σ:St}{H:Hp}{Q:VK}
end
section
variable{X:Cx}{tg:Expr}
end
section
variable{K:ι}{tt:TT}{A4:Oz}{σ:St}{H:Hp}{Q:VK}
end
def WY(n i:Nat)(P:Prop):Prop:=∃ m',m'<n-i/\m'=n-(i+1)/\i+1<=n/\P
def Xy(h:i<n)(p:P):WY n i P:={_,by omega,rfl,h,p}
def lS{K:ι}{g:TG}{tt:TT}{te:TE}{k:Nat}{A4:Oz}{σ:St}{H:Hp}{Q:VK}{b:Addr}{xs:Oj}(hn:xs.length<=sizeLine)(Pv:Nat->St->Oj->Hp->Prop)(h0:Pv 0 (KM k A4 σ) [] H)(hq:∀ i σ' ys H,Pv i σ' ys H->SqL K H b xs/\ys.length<=i)
  (hs:∀ i x σ' ys H,i<xs.length->xs[i]? =some x->Pv i σ' ys H->g x σ' H λσ2 H2=>tt σ2 H2 λc H3=>if c=true then ∃ N:VK,(∀ y H4,N y H4->WY xs.length i (Pv (i+1) σ2 (ys++[y]) H4))/\te σ2 H3 N else WY xs.length i (Pv (i+1) σ2 ys H3))
  (hd:∀ σ' ys H,Pv xs.length σ' ys H->∀ p,H p=none->Q (.ref p) (upd H p<|.lst ys)):D2 (FX K b) g tt te k A4 σ H Q:=by
 refine{λi m σ' ys H=>m=xs.length-i/\i<=xs.length/\Pv i σ' ys H,{xs.length,rfl,bh _,h0},?_};rintro i m σ' ys H ⟨rfl,hi,p⟩;obtain⟨q,hl⟩:=hq i _ ys H p;by_cases AY:i<xs.length;refine .inr {{xs,xs[i],q,by simp[AY]},by lia,λx H' y=>?_};obtain⟨rfl,y⟩:=y;exact hs i x _ ys _ AY (y xs q) p
 have e:i=xs.length:=by lia
 subst e;exact .inl {{xs,q,ρ _},hd _ ys H p}
section
variable{P:bu}{w:World}{A:dq}{E:xP}{s:π}
end
section
variable{X:Cx}
end
section
variable{P:bu}{w:World}{A:dq}{E:xP}{s:π}
def Xz{e it l:Addr}{i:Nat}{BR:Array Value}{x old:Value}{Q:Option Value->π->Prop}(he:IsEnum s.heap e it i old)(hi:s.heap.IsListIter it l i)(hl:s.heap.IsList l BR)(ex:BR[i]? =some x)(ne:e≠it)
  (q:∀ h',IsEnumOut h' e it (i+1) x s.heap.objs.size->h'.IsListIter it l (i+1)->h'.get? s.heap.objs.size=some { cls:=og "tuple",data:=Data.seq #[ui i s.toks,x] }->(∀ b o,b≠e->b≠it->s.heap.get? b=some o->h'.get? b=some o) →
   Q (some<|.ref s.heap.objs.size) { s with heap:=h',toks:=s.toks+1 }):wpAny (model P w) A (xr<|.ref e) Q E s:=by
 have ty:s.TypeIs (.ref e) _:=⟨_,he,rfl⟩
 exact δ (kh (df  ty nu (du nu ty yt
  (enumerate_next_item he hi hl ex ne λh' a1 a2 a3 z a4=>ν<|q h' a1 a2 a3 a4) (yg _))))
def Yb{e it l:Addr}{i:Nat}{BR:Array Value}{old:Value}{Q:Fin->π->Prop}(hh:A.handled=none)(he:IsEnum s.heap e it i old)(hi:s.heap.IsListIter it l i)(hl:s.heap.IsList l BR)(ex:BR[i]? =none)
  (q:∀ h' x,lw it s.heap h'->(∃ o,h'.get? x=some o/\o.cls=.type "StopIteration")->E (.ref x) { s with heap:=h' }):wpAny (model P w) A (vq.«enumerate.__next__» {[.ref e],[]}) Q E s:=by
 show wpAny _ A (field _ 2>>=_) _ _ s;exact δ<|jd he rfl  rfl (δ<|Ud (k:=true) hh hi hl ex q)
def Yc{e it l:Addr}{i:Nat}{BR:Array Value}{old:Value}{Q:Option Value->π->Prop}(hh:A.handled=none)(he:IsEnum s.heap e it i old)(hi:s.heap.IsListIter it l i)(hl:s.heap.IsList l BR)(ex:BR[i]? =none)
  (q:∀ h',lw it s.heap h'->Q none { s with heap:=h' }):wpAny (model P w) A (xr<|.ref e) Q E s:=by
 have ty:s.TypeIs (.ref e) _:=⟨_,he,rfl⟩
 exact δ<|kh<|df  ty nu (du nu ty yt (Yb hh he hi hl ex λh' x kk ⟨o,e1,e2⟩=>(δ<|lj   ⟨o,e1,e2⟩ wp (ν<|q _ kk))) (yg _))
end
def KS(K:ι)(a:Addr):It :=
  ⟨λi H=>∃ xs x,SqL K H a xs/\xs[i]? =some x,
   λi H v H'=>∃ t,H t=none/\v=.ref t/\∃ x,H'=upd H t (.tup [.int (i:Int),x])/\∀ xs,SqL K H a xs->xs[i]? =some x,
   λi H=>∃ xs,SqL K H a xs/\xs.length<=i⟩
def EnSt(e it l:Addr)(i:Nat)(h:Heap):Prop:=(∃ old,IsEnum h e it i old)/\h.IsListIter it l i
def EnSt.lt(q:EnSt e it l i h):∀ b∈[e,it],b<h.objs.size:=by
 obtain⟨⟨old,h1⟩,o,h2,z⟩:=q;intro b hb;simp only[ax,b_,or_false]at hb;rcases hb with rfl|rfl
 exact au h1;exact au h2
def Yd{P:bu}{w:World}{K:ι}{elts:rY}{kn:Nat}{pos:Pos}{e it l:Addr}(ne:e≠it) :
  JM P w K (.Tuple elts kn pos) (KS K l) [e,it] e (λi h=>EnSt e it l i h) where
 mem:=by simp
 obj:=λi h st b hb=>by
  obtain⟨⟨old,h1⟩,h2⟩:=st;obtain⟨o4,e4,d4⟩:=ItK.ob (k:=true) h2;simp only[ax,b_,or_false]at hb;rcases hb with rfl|rfl
  exact{_,h1,λv q=>by cases q};exact{_,e4,λv q=>by rw[d4]at q;cases q}
 keep:=λi h h' {⟨old,h1⟩,h2} q=>{{_,q e (by simp) _ h1},ItK.up (k:=true) h2 λo x=>q it (by simp) o x}
 item:=by
  intro X hP hw hK hc i AA s σ H E I hf st hg;subst hP hw hK;revert hg;apply u2;rintro xs x ⟨hx,ex⟩;obtain⟨AJ,rv,d1⟩:=I.seqK (k:=true) hx
  have lt:=EnSt.lt st;obtain⟨⟨old,h1⟩,h2⟩:=st;obtain⟨u,hu,ru⟩:=rv.get ex
  have f':=λb hb=>bg<|lt b hb;refine Xz h1 h2 d1  (by simpa using hu) ne λh' g1 g2 g3 kk=>{_,rfl,(wpAny_letOwnedTupleGo_enum g1 λh2' z2 sb=>?_)}
  have I2:Inv X AA σ (upd H s.heap.objs.size<|.tup [.int i,x]) { s with heap:=h2',toks:=s.toks+1 }:=by
   refine Inv.turnedS (s:={ s with heap:=s.heap.push _ })   (I.tnew   (.cons (⟨s.toks,rfl⟩) (.cons ru .nil)) (by show 2<=sizeLine;decide)) (λb o hb eo=>?_) λb hb=>(hf b hb).upd (f' b hb);simp only[ax,b_,or_false,not_or]at hb;rcases Heap.get?_push_cases eo with⟨e1,e2⟩|e1
   subst e1 e2;exact sb.extBut _ _ ((f' e (by simp)).symm) g3;exact sb.extBut _ _ hb.1<|kk _ _ hb.1 hb.2 e1
  exact⟨.ref _,_,I2,rfl,{_,I.fresh,rfl,x,rfl,λys' q=>by rw[I.seqK_inj (k:=true) q hx];exact ex},
   {⟨_,z2⟩,ItK.up (k:=true) g2 λo x=>sb.extBut _ _ ne.symm x},λb hb=>((hf b hb).upd (f' b hb)).1⟩
 done:=by
  rintro X hP hw hK hc i AA s σ H E I hf ⟨⟨old,h1⟩,h2⟩ ⟨xs,hx,en⟩;subst hP hw hK;obtain⟨AJ,rv,d1⟩:=I.seqK (k:=true) hx;refine Yc (I.ok.hd hc) h1 h2 d1 (by simp;exact rv.length ▸ en) λh' kk=>{rfl,I.turnedS   (λb o hb eo=>?_) hf}
  simp only[ax,b_,or_false,not_or]at hb;exact kk _ _ hb.2 eo
 self:=λz z z z z st h=>by
  obtain⟨⟨old,h1⟩,z⟩:=st;exact Er h1 h
section
variable{X:Cx}
def SC(K:ι)(ta:TA):TI:=λσ H R=>ta σ H λvs H1=>∃ a:Addr,vs=[.ref a]/\(∃ xs,SqL K H1 a xs)/\R (KS K a) H1
def Yg{a:Expr}{ta:TA}{p pos p2:Pos}{elts:rY}{kn:Nat}(hg:Gl X "enumerate")(hm:X.mg "enumerate"=none)(ha:PA X [a] ta)(hs:ay [a] X.env=[(false,eval a X.env)]:=by rfl) :
  PI X (.Tuple elts kn p2) (.Call (.Name "enumerate" p) [a] [] pos) (SC X.K ta):=by
 refine λAA s σ H R I h=>Call_ (N6 I hg hm boot_enumerate (jk (AO (ha _ _ s σ H _ I h) λus s1 hzz=>?_) (by rw[hs];rfl) (rfl)));obtain⟨vs,H1,I1,r1,⟨l,rfl,⟨xs,hx⟩,q⟩⟩:=hzz;obtain⟨AJ,rv,d1⟩:=I1.seqK (k:=true) hx;obtain⟨u,rfl,rfl⟩:=FZ r1;refine call_enumerate_list d1 λh' z1 z2 sz kk=>Er z1 ?_
 have I2:Inv X _ σ H1 { s1 with heap:=h' }:=I1.kept  kk;refine x5 _ _ _ _ H1 {rfl,I2,Yd<|iy<|f_ _,{⟨_,z1⟩,z2},λb hb=>I1.fpOk ?_<|I1.hok.fresh ?_,q}
 all_goals
  simp only[ax,b_,or_false]at hb;rcases hb with rfl|rfl<;>omega
end
def WZ{K:ι}{σ:St}{H:Hp}{a:Addr}{xs:Oj}{g:TG}{tb:TS}{D:Ends}(Pv:qO)(h0:Pv 0 σ H)(ha:∀ i σ H,i<=xs.length->Pv i σ H->SqL K H a xs)
  (hs:∀ i x σ H t,xs[i]? =some x->Pv i σ H->H t=none->g (.ref t) σ (upd H t<|.tup [.int (i:Int),x]) λσ2 H2=>tb { D with nx:=Pv<|i+1,ct:=Pv<|i+1,bk:=D.nx } σ2 H2) (hd:∀ σ H,Pv xs.length σ H->D.nx σ H):GA (KS K a) g tb D σ H:=by
 refine{λi m σ H=>i+m=xs.length/\Pv i σ H,{xs.length,by lia,h0},λi m σ H hzz=>?_};obtain⟨e,p⟩:=hzz
 have h1:=ha i σ H (by lia) p;by_cases hi:i<xs.length;refine .inr {x2 xs _ {h1,η hi},_,λσ' H' q=>{m-1,by omega,by lia,q},λv H' ⟨t,ht,e,x,e',q1⟩=>?_};subst e e';exact hs i x σ H t (q1 _ h1) p ht
 have e:i=xs.length:=by lia
 subst e;exact .inl {{xs,h1,ρ _},hd _ _ p}
def OZ(K:ι):R2:=λx y H Q=>M6 K x y H Q\/∃ t ts p xs,x=.ref t/\SqT K H t ts/\y=.ref p/\SqT K H p xs/\(∀ z∈xs,z=.non\/∃ i,z=.int i)/\Q (.bl false) H
def lT:∀ {xs:Oj} {us:qV} {u:Value},Vals xs us->u∈us->∃ x∈xs,RelV x u
 |_,_,_,.nil,h=>by cases h
 |_,_,_,.cons r t,h=>by
  rcases ax.mp h with rfl|h
  exact{_,ω ..,r};obtain⟨x,hx,e⟩:=lT t h;exact{x,υ _ hx,e}
def Yh(hu:X.A.units+64<cLine):BW X (dt .In) (OZ X.K):=by
 intro AA s σ H x y v u Q I rx ry h;rcases h with h|⟨t,ts,p,xs,rfl,ht,rfl,hp,hx,q⟩
 exact lR hu _ s σ H x y v u Q I rx ry h;subst rx;obtain⟨AJ,r,pl,hz⟩:=I.tuple hp;subst ry;obtain⟨tts,tr,tl,j⟩:=I.tuple ht
 have hin:X.A.in1.units<cLine:=by
  have:X.A.in1.units=X.A.units+1:=rfl
  lia
 refine Ft (λj=>false) pl (λz hz'=>?_) (x2 (.bl _) H {I,rfl,?_});obtain⟨z0,h0,r0⟩:=lT r (by simpa using hz');rcases hx z0 h0 with rfl|⟨i,rfl⟩
 subst r0;exact SeqAt.EqAt.none_tuple tl hin;obtain⟨tk,rfl⟩:=r0;exact SeqAt.EqAt.int_tuple _ _ tl hin
 have:AJ.toArray.any (λj=>false)=false:=by
  simp
 rw[this];exact q
section
variable{X:Cx}
def lU:∀ {us:qV} {ys:qZ},StrsAre us ys->Vals (ys.map V.str) us
 |_,_,.nil=>.nil
 |_,_,.cons z t h=>.cons ⟨_,rfl⟩ (lU h)
def W1(K:ι):Oj->Hp->VK->Prop:=λxs H Q=>∃ (p:Addr) (ys:qZ),xs=[.ref p]/\SqL K H p (ys.map V.str)/\ys.length<64 /\
  ∀ (D:Addr) (ks:qZ),H D=none->ks.Perm ys->sortedS ks=true->Q (.ref D) (upd H D<|.lst<|ks.map V.str)
def Yj(hc:X.calm=true):D7 X (.builtin "sorted") (W1 X.K):=by
 intro AA s σ H xs us Q I r h;revert h;apply u2;rintro p ys ⟨rfl,hp,hn,q⟩;obtain⟨AJ,rv,pl,hz⟩:=I.list hp;obtain⟨u,rfl,rfl⟩:=FZ r
 have CC:AJ.length=ys.length:=by simpa using rv.length.symm
 refine sorted_strs pl.isList (WW rv) (by omega) λout ks ho pk hr=>?_;obtain⟨c,g⟩:=sortedAll_at s.heap AJ out
 have hD:s.heap.objs.size<=s.heap.objs.size+1:=jc _;refine x2 (.ref _) _ {I.laid  (λb o e=>sortedAll_old e) hD ?_,rfl,q _ ks (I.hok.fresh hD) pk hr}
 have hl:ks.length<64:=by rw[pk.length_eq];exact hn
 exact{by rw[ζ,w_];omega,x2 out.toList c {lU ho,g}}
end
section
variable{P:bu}{w:World}{A:dq}{E:xP}{s:π}
end
section
variable{X:Cx}
end
section
variable{X:Cx}{AA:rN}{σ:St}{H:Hp}{s:π}
def Inv.thaw(I:Inv X AA σ H s)(e:H d=some (.frz o<|.dK kvs))(nb:∀ o u,X.H₀ d≠some (.frz o u)):Inv X AA σ (upd H d<|.dK kvs) s:=by
 have up:∀ {b:Addr},H b=none->upd H d (.dK kvs) b=none:=λhb=>by rw[AH ((λhb z=>by rw[z,e]at hb;cases hb) hb)];exact hb
 refine{I.ok,I.os,I.bare,{I.base.keep,I.base.slot,λb o' e1 e2 e3=>up<|I.base.free b o' e1 e2 e3,I.base.there,λb xs eb=>?_,λb o' u eb=>?_,λb ps eb=>?_},I.loc,I.cell,up I.free,λx c ec=>up<|I.freeC x c ec,λp hp=>?_,λb u eb=>?_,I.len}
 have:=I.base.tups b xs eb;rw[AH λz=>by rw[z,e]at this;cases this];exact this;rw[AH (λz=>nb o' u (by rw[<-z];exact eb))];exact(I.base.frzs b o' u eb);obtain⟨more,this⟩:=I.base.tbls b ps eb;exact{_,by rw[AH λz=>by rw[z,e]at this;cases this];exact this};obtain⟨h1,h2,h3⟩:=I.pin p hp;exact{h1,up h2,h3}
 have st:∀ {b:Addr} {u:HO},ObjOk _ _ H _ b u->ObjOk X.prog X.w (upd H d<|.dK kvs) s.heap b u:=λh=>h.stay (λy y y e=>e) (λb' e'=>by rw[AH (BB e' e (by intro z;cases z))];exact e') λb' xs e'=>by rw[AH (BB e' e (by intro z;cases z))];exact e'
 by_cases hb:b=d;subst hb;rw[AD]at eb;obtain rfl:=μ eb;exact st (I.hok b _ e).2;rw[AH hb]at eb;exact st<|I.hok b u eb
def SD(d:Addr)(o:Obj)(kvs:rR):It :=
 {λi H=>H d=some (.frz o<|.dK kvs)/\i<kvs.length,λi H x H'=>H'=H/\∃ k v,x=kV k/\kvs[i]? =some (k,v),λi H=>H d=some (.frz o<|.dK kvs)/\kvs.length<=i}
def lV:∀ {es:List wa} {vs:List (AN × Value)} {i:Nat} {x:AN × Value},Pairs (DZ P w) es vs->vs[i]? =some x->∃ e,es[i]? =some e/\LR x.1 e.key=true
 |_,_,0,_,.cons h _ _,e=>by obtain rfl:=μ e;exact⟨_,rfl,h⟩
 |_,_,i+1,_,.cons _ _ t,e=>lV (i:=i) t e
def lW:∀ {es:List wa} {vs:List (AN × Value)},Pairs (DZ P w) es vs->es.length=vs.length
 |_,_,.nil=>rfl
 |_,_,.cons _ _ t=>by rw[cv,cv,lW t]
def Yk{P:bu}{w:World}{K:ι}{tg:Expr}(d it:Addr){o:Obj}{kvs:rR}{es:Array wa}{ep:Nat}(hdat:o.data=.dict es ep):JM P w K tg (SD d o kvs) [it] it (λi h=>h.IsKeyIter it d i es.size ep) where
 mem:=by simp
 obj:=λi h st b hb=>by
  have e:b=it:=by simpa using hb
  subst e;obtain⟨o,e,c,d⟩:=st;exact{o,e,λv z=>by rw[d]at z;cases z}
 keep:=λi h h' st k=>st.at λo e=>k it (by simp) o e
 item:=by
  rintro X hP hw hK hc i AA s σ H E I hf st ⟨hq,hi⟩;obtain⟨h1,z,y,vs,r,o',es',ep',g1,g2,g3,g4,g5,g6⟩:=(I.hok d _ hq)
  rw[h1]at g1;cases g1;rw[hdat]at g3;cases g3;obtain⟨f0,f1,f2,f3,f4,f5⟩:=hf it (by simp)
  have hl:=r.length.symm
  have hix:i<vs.length:=by omega
  obtain⟨x,ex,hx1,hx2⟩:=G7 r<|η _;obtain⟨en,ee,hk⟩:=lV g5<|η hix;refine Xv st h1 hdat (by rw[<-gu];exact ee) λh' st' sb=>?_;obtain⟨o2,e2,c2,d2⟩:=id st'
  have I1:Inv X _ σ H { s with heap:=h' }:=I.turned  (λb o hb e=>(sb.2 b hb).trans e) f0 f1 f3 f4 f5
  have rk:RelV (kV x.1) en.key:=by
   rw[hx1];rcases HL hk with⟨j,t,e5,e6⟩|⟨j,t,e5,e6⟩
   rw[e5,e6];exact⟨t,rfl⟩;rw[e5,e6];exact⟨t,rfl⟩
  exact{_,rfl,MT  e2 c2 d2 (by decide) (x2 _ H {I1,rk,{rfl,x2 _ _ ⟨rfl,ex⟩},st',λb hb=>(hf b hb).1})}
 done:=by
  rintro X hP hw hK hc i AA s σ H E I hf st ⟨hq,hi⟩;obtain⟨h1,z,y,vs,r,o',es',ep',g1,g2,g3,g4,g5,g6⟩:=(I.hok d _ hq)
  rw[h1]at g1;cases g1;rw[hdat]at g3;cases g3;obtain⟨f0,f1,f2,f3,f4,f5⟩:=hf it (by simp)
  have hes:es.size=kvs.length:=by rw[<-ca,lW g5];exact r.length.symm
  exact Xw (I.ok.hd hc) st h1 hdat (by lia) λh' eb=>{rfl,I.turned  (λb o hb e=>eb b o hb e) f0 f1 f3 f4 f5}
 self:=λu u u u u st h=>wpAny_pyIter_keyiter st h
variable{tg iter EH:Expr}{EI:rY}{scope:Scope}{pos:Pos}{td:TE}{g:TG}{tt:TT}{te:TE}{tn cn:qZ}{A4:Oz}
end
def FnScope.go(h1:sc.kind=.function:=by exact rfl)(h2:sc.isCoroutine=false:=by exact rfl)(h3:sc.isGenerator=false:=by exact rfl)(h4:N.Nodup:=by decide +kernel)(h5:N.take P.length=P:=by exact rfl)(h6:∀ x∈P,sc.names.lookup x=some .local\/sc.names.lookup x=some .cell:=by decide +kernel)(h7:∀ y∈sc.names,y.2≠.free:=by decide +kernel):FnScope N P sc:=⟨h1,h2,h3,h4,h5,h6,h7⟩
def Room.m(r:Room k A)(h:j<=k:=by decide):Room j A:=r.mono h
abbrev FP(P:bu)(w:World)(K:ι)(mg:ZN)(base:Heap)(k:Nat)(f:Addr)(fd:gg)(ps:qZ)(sp:Sp):Prop:=FnOk P w K mg base (D1 P w) k f fd ps sp
def Fun.okF{P:bu}{w:World}{K:ι}{mg:ZN}{base:Heap}{x qual:Str}{st:Stmt}{f:Addr}{fd:gg}{N ps:qZ}{k:Nat}{sp:Sp}(F:Fun K x qual st f fd)(rd:(St->XK)->TS)(S:FnScope N ps (AT st))(len:∀ {vs H Q E},sp vs H Q E->vs.length=ps.length)
  (ok:∀ {vs H Q E},sp vs H Q E->rd (λ_=>E) { nx:=λz H'=>Q .non H',rt:=Q } (AV N vs) H)
  (hb:∀ (B8:Value) (A:dq) (outer:YZ) (s:π) (H:Hp) (E:XK),Room k (A.deeper<|xt qual (AT st) s.heap.objs.size f B8)->XOk (IL (D1 P w) P w K mg base N qual (AT st) f B8 A outer s H E) (λz=>E) ->
   EU (IL (D1 P w) P w K mg base N qual (AT st) f B8 A outer s H E) (G5 st) (rd λz=>E)):FP P w K mg base (k+1) f fd ps sp :=
 F.okE S (λz z z z=>len) λB8 A outer s H z z E hr h=>{_,hb _ A _ s H E hr Nx,ok h}
section
variable{X:Cx}{pos:Pos}
def Yl(i:Nat)(hN:X.N.Nodup)(he:PE X e te)(hi:X.N[i]? =some x:=by exact rfl)(hx:MR X.env.scope x:=by exact Gf rfl)(hs:vz e (some<|.Name x pos') pos.line X.env=pure false:=by rfl)(hf:X.fn x=true\/X.env.scope.names.lookup x=some .local:=by first|exact .inl rfl|exact .inr rfl|assumption) :
  PS X (.Assign [.Name x pos'] e pos) (AS te<|AE i):=iZ hN hi hx he hs hf
def lX(i:Nat)(hN:X.N.Nodup)(hi:X.N[i]? =some x:=by exact rfl)(hx:MR X.env.scope x:=by exact Gf rfl)(hf:X.fn x=true\/X.env.scope.names.lookup x=some .local:=by first|exact .inl rfl|exact .inr rfl|assumption):PG X (.Name x pos) (AE i):=iY hN hi hx hf
end
section
variable{X:Cx}{pos:Pos}
def Ym{j pos'}(ha:PE X a ta):PE X (.Subscript a (.Constant (.int i) j pos') pos) (AF (BX X.K) ta (tC<|.int i)):=jP kQ ha iW<|λz z=>rfl
def FnScope.cp(_:FnScope N P outer)(h:R3 scope outer N cn A4=true:=by decide +kernel)(h1:X.env.scope=outer:=by exact rfl)(h2:X.N=N:=by exact rfl):JU X scope tn cn A4:=kW h1 h2 h
end
section
variable{X:Cx}{E:St->XK}{k j:Nat}{x m:Str}{ps:qZ}{sp:Sp}{C:Addr}{p pos CM:Pos}{e o e1 e2 e3:Expr}{es:rY}{ta tb tc td:TE}{t:TA}
def lY(h:PE X e ta)(s:ay [e] X.env=(false,eval e X.env)::ay [] X.env:=by rfl):PA X [e] (DT ta BF):=MV h RR s
def lZ(h:PE X e ta)(h1:PE X e1 tb)(s:ay [e,e1] X.env=(false,eval e X.env)::ay [e1] X.env:=by rfl)(s1:ay [e1] X.env=(false,eval e1 X.env)::ay [] X.env:=by rfl):PA X [e,e1] (DT ta<|DT tb BF):=MV h (lY h1 s1) s
def l9(h:PE X e ta)(h1:PE X e1 tb)(h2:PE X e2 tc)(s:ay [e,e1,e2] X.env=(false,eval e X.env)::ay [e1,e2] X.env:=by rfl)(s1:ay [e1,e2] X.env=(false,eval e1 X.env)::ay [e2] X.env:=by rfl)(s2:ay [e2] X.env=(false,eval e2 X.env)::ay [] X.env:=by rfl):PA X [e,e1,e2] (DT ta<|DT tb<|DT tc BF):=MV h (lZ h1 h2 s1 s2) s
def Yp(h:PE X e ta)(h1:PE X e1 tb)(h2:PE X e2 tc)(h3:PE X e3 td)(s:ay [e,e1,e2,e3] X.env=(false,eval e X.env)::ay [e1,e2,e3] X.env:=by rfl)(s1:ay [e1,e2,e3] X.env=(false,eval e1 X.env)::ay [e2,e3] X.env:=by rfl)(s2:ay [e2,e3] X.env=(false,eval e2 X.env)::ay [e3] X.env:=by rfl)(s3:ay [e3] X.env=(false,eval e3 X.env)::ay [] X.env:=by rfl):PA X [e,e1,e2,e3] (DT ta<|DT tb<|DT tc<|DT td BF):=MV h (l9 h1 h2 h3 s1 s2 s3) s
def Yq(c:R0 X.prog X.w X.K X.mg X.base k x ps sp)(hr:Room j X.A)(hx:XOk X E)(ha:PA X (e::es) t)(hj:k<=j:=by decide)(hg:Gl X x:=by exact rfl)(hdb:(x ==("__debug__":Str))=false:=by decide)
  (he:ay (e::es) X.env=(false,eval e X.env)::ay es X.env:=by rfl) (CD:(jb pos<|ay es X.env).any (·.1)=false:=by rfl):PE X (.Call (.Name x p) (e::es) [] pos) (LU sp [] E t):=WB c (hr.mono hj) hx.passes hg ha hdb he CD
def Yv(he:PE X o ta)(cl:Cls X.K C)(c:M3 X.prog X.w X.K X.mg X.base C k m ps sp)(hr:Room j X.A)(hx:XOk X E)(ha:PA X (e::es) t)(hj:k<=j:=by decide)
  (hst:ay (e::es) X.env=(false,eval e X.env)::ay es X.env:=by rfl) (CD:(jb pos<|ay es X.env).any (·.1)=false:=by rfl)
  (ht:eval (.Call (.Attribute o m CM) (e::es) [] pos) X.env=(do
   let ov ← eval o X.env
   yi CM.atName
   let (f,first) ← t9 [ov] (uk ov m pl)
   zm pos f first (jb pos<|ay (e::es) X.env) (vb pos<|lq [] X.env)):=by rfl):PE X (.Call (.Attribute o m CM) (e::es) [] pos) (IK C m sp [] E ta t):=WC he cl c (hr.mono hj) hx.passes ha hst CD ht
def Yw(he:PE X o ta)(cl:Cls X.K C)(c:M3 X.prog X.w X.K X.mg X.base C k m ps sp)(hr:Room j X.A)(hx:XOk X E)(hj:k<=j:=by decide)
  (ht:eval (.Call (.Attribute o m CM) [] [] pos) X.env=(do
   let ov ← eval o X.env
   yi CM.atName
   let (f,first) ← t9 [ov] (uk ov m pl)
   zm pos f first (jb pos<|ay [] X.env) (vb pos<|lq [] X.env)):=by rfl):PE X (.Call (.Attribute o m CM) [] [] pos) (IK C m sp [] E ta BF):=Ny he cl c (hr.mono hj) hx.passes ht
end
def Fun.oK(P:bu)(w:World){K:ι}(mg:ZN)(base:Heap){x qual:Str}{st:Stmt}{f:Addr}{fd:gg}{N ps:qZ}(k:Nat){sp:Sp}(F:Fun K x qual st f fd)(rd:(St->XK)->TS)(S:FnScope N ps (AT st))
  (ok:∀ {vs H Q E},sp vs H Q E->rd (λ_=>E) { nx:=λz H'=>Q .non H',rt:=Q } (AV N vs) H)
  (hb:∀ (B8:Value) (A:dq) (outer:YZ) (s:π) (H:Hp) (E:XK),Room k (A.deeper<|xt qual (AT st) s.heap.objs.size f B8)->XOk (IL (D1 P w) P w K mg base N qual (AT st) f B8 A outer s H E) (λz=>E) ->
   EU (IL (D1 P w) P w K mg base N qual (AT st) f B8 A outer s H E) (G5 st) (rd λz=>E))
  (len:∀ {vs H Q E},sp vs H Q E->vs.length=ps.length:=by
   intro z z z z h
   repeat (first|(obtain⟨rfl,z⟩:=h;rfl)|(refine Or.elim h ?_ ?_<;>(clear h;intro h))|obtain⟨z,h⟩:=h)):FP P w K mg base (k+1) f fd ps sp:=F.okF rd S len ok hb
abbrev A0(N:qZ)(k:Nat)(sc:Scope):Prop:=FnScope N (N.take k) sc
abbrev CJ(P:bu)(w:World)(K:ι)(mg:ZN)(base:Heap)(k:Nat)(x:Str)(_:FnScope N ps sc)(sp:Sp):Prop:=R0 P w K mg base k x ps sp
abbrev BP(P:bu)(w:World)(K:ι)(mg:ZN)(base:Heap)(C:Addr)(k:Nat)(x:Str)(_:FnScope N ps sc)(sp:Sp):Prop:=M3 P w K mg base C k x ps sp
abbrev M7(P:bu)(w:World)(K:ι)(mg:ZN)(base:Heap)(C:Addr)(k:Nat)(x:Str)(_:FnScope N ps sc)(sp:Sp):Prop:=WA P w K mg base C k x ps sp
def mB{α :Type}:Nat->(List α ->Prop)->Prop
 |0,P=>P []
 |n+1,P=>∀ a,mB n λl=>P (a::l)
def un{α :Type}:∀ {n:Nat} {P:List α ->Prop},mB n P->∀ us:List α,us.length=n->P us
 |0,_,h,[],_=>h
 |_+1,_,h,a::us,e=>un (h a) us (Lr e)
def W2(x qual:Str)(st:Stmt)(ps:qZ):Prop:=∀ (kV doc pm:Value) (an:Option Addr) (B8 ct:Value) (us:qV),us.length=ps.length->bindArgs (xu x qual (JT st) (G5 st) (AT st) .none kV doc pm an B8 ct) {us,[]}=pure (ps.zip us)
structure GF(K:ι)(x:Str)(st:Stmt):Prop where
 ex:∃ (f:Addr) (fd:gg),ko K bw x=some (some<|.ref f)/\Fun K x x st f fd
structure GM(K:ι)(C:Addr)(m q:Str)(st:Stmt):Prop where
 ex:∃ (f:Addr) (fd:gg),ci K (.ref C) m=some (some<|.ref f)/\Iy K (.ref f)=true/\Fun K m q st f fd
structure GC(K:ι)(C:Addr)(x:Str):Prop where
 ac:ko K bw x=some (some<|.ref C)
 c:Cls K C
structure GN(K:ι)(C:Addr)(x q:Str)(st:Stmt):Prop where
 m:GM K C "__init__" q st
 mks:Fi K C=true
 kc:qy K (.ref C)=true
 ac:ko K bw x=some (some<|.ref C)
structure GX(K:ι)(C:Addr)(x:Str):Prop where
 ac:ko K bw x=some (some<|.ref C)
 ex:W.excIn K C [.type "ValueError",.type "Exception",.type "BaseException",.type "object"] "ValueError.__new__"=true
section
variable{K:ι}{x q:Str}{st:Stmt}{C f:Addr}{oc:Value}{od an:Option Addr}{osl:Array (Option Value)}{kV doc pm B8 ct:Value}
def gf(a:ko K bw x=some (some<|.ref f))(l:K.lookup f=some {oc,od,.func<|xu x x (JT st) (G5 st) (AT st) .none kV doc pm an B8 ct,osl})
  (c:zn K B8 x=true) (k:qy K (.ref f)=true):GF K x st:={_,_,a,kB l c k}
def gm(a:ci K (.ref C) x=some (some<|.ref f))(l:K.lookup f=some {oc,od,.func<|xu x q (JT st) (G5 st) (AT st) .none kV doc pm an B8 ct,osl})
  (c:zn K B8 q=true) (k:qy K (.ref f)=true) (i:Iy K (.ref f)=true):GM K C x q st:={_,_,a,i,kB l c k}
def gn(a:ci K (.ref C) "__init__"=some (some<|.ref f))(l:K.lookup f=some {oc,od,.func<|xu "__init__" q (JT st) (G5 st) (AT st) .none kV doc pm an B8 ct,osl})
  (c:zn K B8 q=true) (k:qy K (.ref f)=true) (i:Iy K (.ref f)=true) (m:Fi K C=true) (n:qy K (.ref C)=true) (s:ko K bw y=some (some<|.ref C)):GN K C y q st:={gm a l c k i,m,n,s}
def gc(a:ko K bw x=some (some<|.ref C))(l:yj K C Fn=true)(c:zj K C=true)(k:Hu K C=true)(i:ci K (.ref C) "__setattr__"=some (some<|.builtin "object.__setattr__")):GC K C x:=⟨a,l,c,k,i⟩
end
section
variable{P:bu}{w:World}{K:ι}{h:Heap}{mg:ZN}{base:Heap}{x q:Str}{st:Stmt}{C:Addr}{k:Nat}{ps:qZ}{sp:Sp}
def Yx(P:bu:=by assumption)(w:World:=by assumption)(base:Heap:=by assumption)(ok:∀ {f fd},Fun K x x st f fd->FP P w K mg base k f fd ps sp)(g:GF K x st:=by assumption)(X:K.In h:=by assumption)(G:h.Ns bw mg:=by assumption)
  (b:W2 x x st ps:=by intro z z z z z z;apply un;(repeat intro z);rfl):R0 P w K mg base k x ps sp:=by
 refine u2 ?_ g.ex;rintro f fd ⟨a,F⟩;exact{f,fd,ok F,iz X G a,F.kp,F.binds b}
def Yy(P:bu:=by assumption)(w:World:=by assumption)(base:Heap:=by assumption)(ok:∀ {f fd},Fun K x q st f fd->FP P w K mg base k f fd ps sp)(g:GM K C x q st:=by assumption)
  (b:W2 x q st ps:=by intro z z z z z z;apply un;(repeat intro z);rfl):M3 P w K mg base C k x ps sp:=by
 refine u2 ?_ g.ex;rintro f fd ⟨a,i,F⟩;exact{f,fd,ok F,⟨a,i,F.kp⟩,F.binds b}
def Yz(P:bu:=by assumption)(w:World:=by assumption)(base:Heap:=by assumption)(ok:∀ {f fd},Fun K "__init__" q st f fd->FP P w K mg base k f fd ps sp)(g:GN K C x q st:=by assumption)(X:K.In h:=by assumption)(G:h.Ns bw mg:=by assumption)
  (b:W2 "__init__" q st ps:=by intro z z z z z z;apply un;(repeat intro z);rfl):WA P w K mg base C k x ps sp:=by
 refine u2 ?_ g.m.ex;rintro f fd ⟨a,i,F⟩;exact{f,fd,ok F,⟨g.mks,a,i,g.kc⟩,iz X G g.ac,F.binds b}
def GF.law(g:GF K x st)(X:K.In h)(G:h.Ns bw mg)(hfa:mg x=some (.ref fa))
  (b:∀ (kV doc pm:Value) (an:Option Addr) (B8 ct:Value) (s:π) (v:Value),xf s (xu x x (JT st) (G5 st) (AT st) .none kV doc pm an B8 ct) {[v],[]} [("script",v)]) :
  ∃ fd:gg,(∀ (s:π) (v:Value),xf s fd {[v],[]} [("script",v)])/\Fun K x x st fa fd:=by
 refine u2 ?_ g.ex;rintro f fd ⟨a,F⟩;cases (hfa.symm.trans<|iz X G a);refine u9 ?_ F.ex;rintro oc od kV doc pm an B8 ct osl ⟨rfl,lk,GI⟩;exact{_,b kV _ pm an _ ct,F}
end
def SE(K:ι)(to ti tv:TE)(rd:V->V->Hp->VK->Prop):TS:=λD σ H=>to σ H λx H1=>ti σ H1 λy H2=>∃ p xs,∃ n:Nat,∃ v,x=.ref p/\y=.int n/\SqL K H2 p xs/\xs[n]? =some v/\tv σ H2 λz H3=>rd v z H3 λu H4=>OR (.ref p) (.int n) u H4 λH5=>D.nx σ H5
def Zb{K:ι}{to ti tv:TE}{rd:V->V->Hp->VK->Prop}{D:Ends}{σ:St}{H:Hp}:SE K to ti tv rd D σ H=(to σ H λx H1=>ti σ H1 λy H2=>∃ p xs,∃ n:Nat,∃ v,x=.ref p/\y=.int n/\SqL K H2 p xs/\xs[n]? =some v/\tv σ H2 λz H3=>rd v z H3 λu H4=>OR (.ref p) (.int n) u H4 λH5=>D.nx σ H5):=rfl
section
variable{X:Cx}{o i value:Expr}{td ty tv:TE}{tpos pos:Pos}
def Zc(ho:PE X o td)(hi:PE X i ty)(hv:PE X value tv)(hop:VG X op rd)
  (ha:∀ ov iv new,augStore i ov iv new=(do t9 [new,ov,iv] (Ln ov iv new);release [new,ov,iv] [];pure .next):=by intros;rfl):PS X (.AugAssign (.Subscript o i tpos) op value pos) (SE X.K td ty tv rd):=by
 refine λAA s σ H D I h=>wpAny_AugAssign_SubscriptAny (AO (ho _ s σ H _ I h) λu s1 ⟨x,H1,I1,rx,q1⟩=>AO (hi _ s1 σ H1 _ I1 q1) λiv s2 hzz=>?_) ha;obtain⟨y,H2,I2,ry,p,xs,n,v,ex,ey,hq,hx,q2⟩:=hzz;subst ex ey
 have ry':=ry;obtain rfl:u=ff p:=rx;obtain⟨t,rfl⟩:=ry;obtain⟨AJ,r,pl,hz⟩:=I2.list hq
 have hn:=OC;obtain⟨w,ew,rw'⟩:=r.get hx
 have AY:=(ε.mp hx).1;exact wpAny_getItem_list pl.isList (by lia) (by lia)  (by simpa using ew) (AO (hv _ s2 σ H2 _ I2 q2) (by rintro w2 s4 ⟨y2,H3,I4,ry2,q3⟩;exact AO (hop _ s4 σ H3 v y2 w w2 _ I4 rw' ry2 q3) (by rintro w3 s5 ⟨z,H4,I5,rz,q4⟩;exact(AO (kS _ s5 σ H4 (.ref p) _ z _ _ _ _ I5 rfl ry' rz q4) (by rintro q s6 ⟨H5,I6,q5⟩;exact⟨σ,H5,I6,q5⟩)))))
end
def Zd(l:Addr)(BR:Array Value)(n:Nat)(b:Addr)(items2:Array Value)(n2:Nat)(d:Option Addr)(sl:Array (Option Value))(hs0:¬(!BR.isEmpty&&kf (BR.size+items2.size))=true)(hs1:BR.size<=sizeLine)(hs2:BR.size+items2.size<=sizeLine+1) :
  Meets (vq.«list.extend» {[.ref l,.ref b],[]}) (λ_ R s=>s.heap.get? l=some { cls:=.type "list",dict:=none,data:=.seq BR n,slots:= #[] }/\s.heap.get? b=some { cls:=.type "tuple",dict:=d,data:=.seq items2 n2,slots:=sl }/\R (.ok<|.ret ke) { s with heap:=s.heap.update l<|ma λx=>x++items2,toks:=s.toks }) :=
 .of_wp λprog w A R s h=>by
  obtain⟨hl,hb,h⟩:=h;have hz':(BR++items2).size<=sizeLine+1:=by rw[Do];exact hs2
  wp_walk using (y_ hl rfl (hz:=hs1) ),x_ hl,x_ hb;exact⟨_,rfl,h⟩
def W3(K:ι):V->Oj->Hp->VK->Prop:=λx vs H Q=>∃ l b xs zs,x=.ref l/\vs=[.ref b]/\H l=some (.lst xs)/\SqT K H b zs/\xs.length+zs.length<=sizeLine/\Q .non (upd H l<|.lst<|xs++zs)
def Zg:RV X "list.extend" (W3 X.K):=by
 rintro AA s σ H x vs v us Q I rx rv ⟨l,b,xs,zs,rfl,rfl,hH,hB,hz,q⟩;subst rx;obtain⟨z,AJ,n,r,hl,e⟩:=I.lstM hH;obtain⟨u,rfl,rfl⟩:=rv.one;obtain⟨LP,r2,⟨o,e2,hc,n2,hd⟩,hz2⟩:=I.tuple hB
 have CY:=r2.length;obtain⟨oc,od,odat,osl⟩:=o;subst hc hd
 have hsz:AJ.toArray.size+LP.toArray.size<=sizeLine:=by rw[az,az];omega
 have hlong:¬ (!AJ.toArray.isEmpty&&kf (AJ.toArray.size+LP.toArray.size))=true:=by
  rw[jX hsz,J_];exact aw
 refine ss F.slot_list_extend ⟨_,e,rfl⟩ F.entry_list_extend (F.args_list_extend_2 _ _)
  (Zd l AJ.toArray n b LP.toArray n2 _ _ hlong (by omega) (by omega)) {e,e2,{.non,_,I.lset  hH e (by simp) (r.append r2) ?_,rfl,q}}
 rw[af];omega
section
variable{X:Cx}{tg:Expr}
end
section
variable{K:ι}{g:TG}{tt:TT}{te:TE}{k:Nat}{A4:Oz}{σ:St}{H:Hp}{Q:VK}
def mC(p:YY)(hn:xs.length<=sizeLine)(Pv:Nat->Oj->Hp->Prop)(h0:Pv 0 [] H)(hq:∀ i ys H,i<=xs.length->Pv i ys H->SqL K H b xs/\ys.length<=i)
  (ht:∀ i x ys H,xs[i]? =some x->Pv i ys H->∀ QB:Bool->Hp->Prop,QB (p i) H->tt (some x::CH A4 σ) H QB)
  (hs:∀ i x ys H,xs[i]? =some x->p i=true->Pv i ys H->te (some x::CH A4 σ) H λy H3=>Pv (i+1) (ys++[y]) H3)
  (hf:∀ i x ys H,xs[i]? =some x->p i=false->Pv i ys H->Pv (i+1) ys H)
  (hd:∀ ys H,Pv xs.length ys H->∀ q,H q=none->Q (.ref q) (upd H q<|.lst ys)):D2 (FX K b) (AE 0) tt te 1 A4 σ H Q:=by
 refine{λi m σ' ys H=>m=xs.length-i/\i<=xs.length/\(∃ x0,σ'=x0::CH _ σ)/\Pv i ys H,{xs.length,rfl,bh _,⟨_,rfl⟩,h0},?_};rintro i m σ' ys H ⟨rfl,hi,⟨x0,rfl⟩,P⟩;obtain⟨q,hl⟩:=hq i ys H hi P;by_cases AY:i<xs.length;refine .inr {{xs,xs[i],q,by simp[AY]},by lia,λx H' y=>?_};obtain⟨rfl,y⟩:=y
 have ex:=y xs q;refine ht i x ys _ ex P _ ?_;cases hp:p i with
 |true =>
  exact{_,λy H4 q=>{_,by omega,rfl,AY,⟨_,rfl⟩,q},hs i x ys _ ex hp P}
 |false =>
  exact{_,by omega,rfl,AY,⟨_,rfl⟩,hf i x ys _ ex hp P}
 have e:i=xs.length:=by lia
 subst e;exact .inl {{xs,q,ρ _},hd ys H P}
def W8(p:YY)(hn:xs.length<=sizeLine)(Pv:Nat->Oj->Hp->Prop)(h0:Pv 0 [] H)(hq:∀ i ys H,i<=xs.length->Pv i ys H->SqL K H b xs/\ys.length<=i)
  (hu:∀ i ys H t o,Pv i ys H->H t=none->Pv i ys (upd H t o))
  (ht:∀ i x ys H,xs[i]? =some x->Pv i ys H->∀ QB:Bool->Hp->Prop,QB (p i) H->tt (some (.int (i:Int))::some x::CH A4 σ) H QB)
  (hs:∀ i x ys H,xs[i]? =some x->p i=true->Pv i ys H->te (some (.int (i:Int))::some x::CH A4 σ) H λy H3=>Pv (i+1) (ys++[y]) H3)
  (hf:∀ i x ys H,xs[i]? =some x->p i=false->Pv i ys H->Pv (i+1) ys H)
  (hd:∀ ys H,Pv xs.length ys H->∀ q,H q=none->Q (.ref q) (upd H q<|.lst ys)):D2 (KS K b) (E8 K 2<|DJ (AE 0) (DJ (AE 1) E7)) tt te 2 A4 σ H Q:=by
 refine{λi m σ' ys H=>m=xs.length-i/\i<=xs.length/\(∃ x0 x1,σ'=x0::x1::CH _ σ)/\Pv i ys H,{xs.length,rfl,bh _,⟨_,_,rfl⟩,h0},?_};rintro i m σ' ys H ⟨rfl,hi,⟨x0,x1,rfl⟩,P⟩;obtain⟨q,hl⟩:=hq i ys H hi P;by_cases AY:i<xs.length;refine .inr {{xs,xs[i],q,by simp[AY]},by lia,λv H' hzz=>?_};obtain⟨t,ht0,e,x,e',q1⟩:=hzz
 have ex:=q1 xs q;subst e e'
 have P':=hu i ys H t (.tup [.int i,x]) P ht0;refine{t,_,rfl,SqT.of AD,rfl,({_,_,rfl,{_,_,rfl,{rfl,(ht i x ys _ ex P' _ ?_)}}})};cases hp:p i with
 |true =>
  exact{_,λy H4 q=>{_,by omega,rfl,AY,⟨_,_,rfl⟩,q},hs i x ys _ ex hp P'}
 |false =>
  exact{_,by omega,rfl,AY,⟨_,_,rfl⟩,hf i x ys _ ex hp P'}
 have e:i=xs.length:=by lia
 subst e;exact .inl {{xs,q,ρ _},hd ys H P}
end
section
variable{prog:bu}{w:World}{K:Type}[DecidableEq K]{CT:HeapKind prog w K}{A:dq}{E:xP}{s:π}
def Zh(hu:CT.room A)(hkey:CT.is s.heap k a)(hm:s.heap.DictOfH CT d xs)
  (hQ:∀ h',h'.DictOfH CT d (xg xs k a v)->fu d s.heap h'->Q () { s with heap:=h' }) (hsz:xs.length<=sizeLine) :
  wpAny (model prog w) A (dictSetHashed d (.ref a) (CT.hash k) v) Q E s:=by
 revert hm;apply u3;rintro o es ep ⟨ho,hc,hd,he,his,hn⟩
 have keep:∀ {f:Obj->Obj} {x:K × Addr × Value},x∈xs->CT.is (s.heap.update d f) _ _:=λhx=>CT.keeps (his _ hx) ho hd (d_ ..);unfold dictSetHashed
 try with_reducible refine gx ?_
 refine δ<|wpAny_dictFind_heap hu hkey ho hd he his hn (λhno=>?_) λj p hj=>?_;refine δ (sv (wpAny_updateDictKeys (hz:=by have e:=size_of_entries he;lia) ho hd (hQ _ ?_<|d_ ..)));rw[(storedH_new (atKey_none_of_get hno) a v)];refine x3 _ _ _ {dw _ ho<|vo<|o_ hd _,hc.mapDictKeys _,o_ hd _,by simp[he,wb],λx hx=>?_,?_};rcases a_.mp hx with hx|hx
 exact keep hx;cases aa.mp hx;exact CT.keeps hkey ho hd<|d_ ..;rw[ak,n_];refine{hn,by simp,λx hx y hy e=>not_mem_keys_of_get hno ?_};rw[show k=y from(aa.mp hy).symm,<-e];exact hx;refine δ<|sv<|δ<|wpAny_updateDict ho hd<|wpAny_point<|hQ _ ?_<|d_ ..;rw[(storedH_old (atKey_of_get hn hj) a v)];refine x3 _ _ ep {dw _ ho<|vo<|Gr hd _,hc.mapDict _,Gr hd _,?_,λx hx=>?_,by rw[keys_map_putAt];exact hn}
 have:=modify_map_putAt (wb CT) (λe:wa=>{ e with val:=v }) k v (λz z=>rfl) hn hj;rw[<-he]at this;simpa using this;obtain⟨y,hy,rfl⟩:=av.mp hx
 have kk:=λf=>keep (f:=f) hy;unfold putAt;split;exact kk _;exact kk _
def IQ(xs ys:List (K × Addr × Value)):List (K × Addr × Value):=ys.foldl (λBN y=>xg BN y.1 y.2.1 y.2.2) xs
def Zj(xs:List (K × Addr × Value))(k:K)(a:Addr)(v:Value):(xg xs k a v).length<=xs.length+1:=by
 unfold xg;split;rw[ζ];lia;rw[af];exact ρ _
def mD:∀ (ys xs:List (K × Addr × Value)),(IQ xs ys).length<=xs.length+ys.length
 | [],xs=>ρ _
 |y::ys,xs=>by
  have h1:=mD ys<|xg xs y.1 y.2.1 y.2.2
  have h2:=Zj xs y.1 y.2.1 y.2.2
  show(IQ _ ys).length<=_;rw[cv];lia
def Zk{xs ys:List (K × Addr × Value)}{y:K × Addr × Value}(h:ys[i]? =some y):IQ xs (ys.take<|i+1)=xg (IQ xs<|ys.take i) y.1 y.2.1 y.2.2:=by
 have:ys.take (i+1)=ys.take i++[y]:=by rw[di,h];rfl
 unfold IQ;rw[this,ka]
 rfl
def Zl(ho:s.heap.get? a=some o)(hc:o.cls=.type "tuple")(h:Q false s):wpAny (model prog w) A (Builtin.Dict.quietEq<|.ref a) Q E s:=δ<|vj ⟨o,ho,hc⟩ F.slot_tuple_eq.lookup (ν h)
def W9(CT:HeapKind prog w K)(ys:List (K × Addr × Value)):Prop:=(ys.map λy=>CT.hash y.1).Nodup
def Zm{id:String}{d:Addr}{o:Obj}{es ep}{ys:List (K × Addr × Value)}{Q:Array wa->π->Prop}(ho:s.heap.get? d=some o)(hd:o.data=.dict es ep)(he:es.toList=ys.map (wb CT))(ht:∀ y∈ys,∃ ob,s.heap.get? y.2.1=some ob/\ob.cls=.type "tuple")(ap:W9 CT ys)(h:Q es s) :
  wpAny (model prog w) A (Builtin.Dict.entriesForEmpty id d) Q E s:=by
 refine δ<|io ho hd ?_
 have one:∀ e∈es.toList,(es.filter (·.hash==e.hash)).size<=1:=λe hm=>by
  rw[<-ca,Array.toList_filter,he,za,ζ];rw[he]at hm;obtain⟨y,hy,rfl⟩:=av.mp hm
  have:(ys.filter<|(λx:wa=>x.hash ==(wb CT y).hash) ∘ wb CT).length=(ys.map λy=>CT.hash y.1).count (CT.hash y.1):=by
   rw[List.count_eq_countP,List.countP_map,List.countP_eq_length_filter]
   rfl
  rw[this];exact zz.mp ap _
 refine δ ?_;rw[<-Array.forIn_toList];refine Gs _ (λCN z s'=>s'=s/\∀ e∈CN,e∈es.toList) _ ?_ ?_ _ _ {rfl,λe h=>h};rintro e CN b s' ⟨rfl,hall⟩
 have hm:=hall e ω
 have hm':=hm;rw[he]at hm';obtain⟨y,hy,ey⟩:=av.mp hm'
 have ek:e.key=.ref y.2.1:=by rw[<-ey];rfl
 obtain⟨ob,h1,h2⟩:=ht y hy;rw[ek];refine δ<|Zl h1 h2 ?_;simp only[Bool.not_false,if_true];rw[if_neg (by have:=one e hm;omega)];exact ν {rfl,λe' h'=>hall e'<|υ _ h'};rintro b s' ⟨rfl,z⟩;exact ν h
def Zp{xs ys:List (K × Addr × Value)}{Q:Unit->π->Prop}(hu:CT.room A)(hdo:d≠o)(hoS:(o == ig)=false)
  (hd:s.heap.DictOfH CT d xs) (ho:s.heap.DictOfH CT o ys) (ht:∀ y∈ys,∃ ob,s.heap.get? y.2.1=some ob/\ob.cls=.type "tuple") (ap:xs=[]->W9 CT ys)
  (hQ:∀ h',(h'.DictOfH CT d (IQ xs ys)\/(xs=[]/\h'.DictOfH CT d ys))->fu d s.heap h'->Q () { s with heap:=h' })
  (hsz:xs.length+ys.length<=sizeLine) :
  wpAny (model prog w) A (yu nm d o) Q E s:=by
 refine u3 ?_<|id hd;rintro od esd epd ⟨hod,GI,hdd,hed,hisd,hnd⟩;refine u3 ?_<|id ho;rintro oo IH epo ⟨hoo,hco,hdo',heo,hiso,hno⟩
 have szo:=size_of_entries heo;unfold yu;rw[if_neg (by simpa using hdo)];unfold ug;rw[if_neg (by rw[hoS];exact aw)];refine δ<|ν<|δ<|io hoo hdo' ?_;dsimp only;split
 any_goals (refine δ<|io hod hdd ?_;split)
 rename_i hemp
 have hxs:xs=[]:=by
  rw[(Es.mp hemp)]at hed;exact Ar.mp hed.symm
 refine δ<|Zm  hoo hdo' heo ht (ap hxs) ?_;split;refine δ (wpAny_updateDictKeysTo hod hdd (ν (hQ _ (.inr ⟨hxs,_,_,_,dw _ hod<|vo<|o_ hdd _,GI.mapDictKeys _,
  o_ hdd _,heo,λx hx=>CT.keeps (hiso x hx) hod hdd (d_ ..),hno⟩) (d_ ..))) (by lia))
 rename_i hne
 have h0:=Es.mp (by simpa using hne)
 have hm0:=fb.mp (by rw[<-szo,h0];rfl);subst hm0;exact ν<|hQ _ (.inl hd) (xo _ _)
 all_goals
  refine δ<|r_ hoo hdo'<|δ<|io hoo hdo'<|δ ?_;rw[z_];refine Gs _
   (λCN _ s'=>∃ h' i,s'={ s with heap:=h' }/\CN=Me i (IH.size-i)/\i<=IH.size/\h'.DictOfH CT d (IQ xs<|ys.take i)/\fu d s.heap h')
   _ ?_ ?_ _ _ (x2 s.heap 0 {rfl,by simp,bh _,hd,xo _ _})
  rintro x CN b s' ⟨h',i,rfl,hr,hi,hd',hs'⟩
  have AY:i<IH.size:=by
   rcases e_ i IH.size with h|h
   ·exact h
   ·rw[Nat.sub_eq_zero_of_le h]at hr;simp at hr
  obtain⟨rfl,hrest⟩:x=i/\CN=Me (i+1) (IH.size-(i+1)):=by
   rw[show IH.size-i=(IH.size-(i+1))+1 by omega,Gu]at hr;injection hr with h1 h2
   exact⟨h1,h2⟩
  have hoo':h'.get? o=some oo:=(hs'.2 o<|fg hdo).trans hoo;obtain⟨y,hy⟩:∃ y,ys[x]? =some y:={ys[x]'(by omega),η _}
  have hk:CT.is h' y.1 y.2.1:=CT.keeps (hiso y<|θ hy) hod hdd hs';refine δ<|io hoo' hdo' ?_;rw[entry_at heo x,hy]
  have hmx:(IQ xs<|ys.take x).length<=sizeLine:=by
   have e1:=mD (ys.take x) xs
   have e2:(ys.take x).length<=ys.length:=by rw[cz];omega
   omega
  refine δ<|gx<|Zh (s:={ s with heap:=h' }) hu hk hd' (λh2 hd2 hs2=>?_) hmx
  have hoo2:h2.get? o=some oo:=(hs2.2 o<|fg hdo).trans hoo';refine δ<|r_ hoo2 hdo' ?_;rw[if_neg (by simp)];exact ν (x2 h2 (x+1) {rfl,hrest,AY,by rw[Zk hy];exact hd2,hs'.trans hs2})
  ·rintro b s' ⟨h',i,rfl,hr,hi,hd',hs'⟩
   have hin:i=IH.size:=by
    rcases e_ i IH.size with h|h
    ·rw[show IH.size-i=(IH.size-(i+1))+1 by omega,Gu]at hr;exact nomatch hr
    ·exact jx hi h
   refine ν<|hQ h' (.inl ?_) hs';rw[hin,szo,bx]at hd';exact hd'
def Zq(CT:HeapKind prog w K)(d o:Addr)(hdo:d≠o)(hoS:(o == ig)=false) :
  MeetsIn prog w (vq.«dict.update» {[.ref d,.ref o],[]}) (λA R s=>CT.room A.in1/\∃ xs ys,s.heap.DictOfH CT d xs/\s.heap.DictOfH CT o ys/\(∀ y∈ys,∃ ob,s.heap.get? y.2.1=some ob/\ob.cls=.type "tuple")/\(xs=[]->W9 CT ys)/\xs.length+ys.length<=sizeLine ∧
   ∀ h',(h'.DictOfH CT d (IQ xs ys)\/(xs=[]/\h'.DictOfH CT d ys))->fu d s.heap h'->R (.ok<|.ret .none) { s with heap:=h' }) :=
 .of_wp λA R s ⟨hu,xs,ys,hd,ho,ht,ap,hsz,h⟩=>by
  refine δ<|δ<|ze hd.typeIs<|ν ?_;exact δ<|yl ho.typeIs<|δ<|δ<|δ<|lj ho.typeIs isSubtype_dict_dict<|δ<|vj ho.typeIs yf.lookup<|ν<|δ<|ν<|Zp hu hdo hoS hd ho ht ap (λh' hd' hs'=>(δ<|ν<|ν {_,rfl,h h' hd' hs'})) hsz
end
def D8(kvs more:rC):rC:=more.foldl (λBN kv=>B0 BN kv.1 kv.2) kvs
def KT.merge:∀ {more:rC} {ys:pA} {kvs:rC} {xs:pA},KT H more ys->KT H kvs xs->KT H (D8 kvs more) (IQ xs ys):=by
 intro more ys kvs xs r
 induction r generalizing kvs xs with
 |nil=>intro q;exact q
 |@cons p q ps qs h t ih =>
  intro r0
  have e:KT H (B0 kvs p.1 p.2) (xg xs q.1 q.2.1 q.2.2):=by
   rw[<-h.1];exact(r0.put _ h.2.1 h.2.2)
  exact ih e
def XA:∀ (more kvs:rC),(D8 kvs more).length<=kvs.length+more.length
 | [],kvs=>ρ _
 |p::r,kvs=>by
  have h2:=HU kvs p.1 p.2
  have h1:=XA r<|B0 kvs p.1 p.2
  show(D8 _ r).length<=_;rw[cv];lia
def XB:∀ (more BN:rC),((BN++more).map (·.1)).Nodup->D8 BN more=BN++more
 | [],BN,_=>by simp[D8]
 |p::r,BN,h=>by
  have e:B0 BN p.1 p.2=BN++[p]:=by
   unfold B0;rw[if_neg];rw[c_];rintro ⟨x,hx,he⟩;rw[ak,n_]at h;exact h.2.2 _ (av.mpr ⟨x,hx,rfl⟩) _ (by simp) (of_decide_eq_true he)
  show D8 (B0 _ _ _) r=_;rw[e,XB r _ (by rw[gr];exact h),gr]
  rfl
def KT.keys(r:KT H kvs xs):kvs.map (·.1)=xs.map (·.1):=by
 induction r with
 |nil=>rfl
 |cons h t ih=>rw[dk,dk,ih,h.1]
def SF(more:rC):Prop:=∀ (P:bu) (w:World),((more.map (·.1)).map (pd<|DZ P w).hash).Nodup
def XC:V->Oj->Hp->VK->Prop:=λx vs H Q=>∃ d o kvs more,x=.ref d/\vs=[.ref o]/\d≠o/\H d=some (.dT kvs)/\H o=some (.dT more)/\(kvs=[]->SF more)/\kvs.length+more.length<=sizeLine/\Q .non (upd H d<|.dT<|D8 kvs more)
def Zv(hu:X.A.units+1<cLine):RV X "dict.update" XC:=by
 intro AA s σ H x vs v us Q I rx rv h;revert h;apply u4;rintro d o kvs more ⟨rfl,rfl,hdo,hH,hO,ap,hz,q⟩;subst rx;obtain⟨z1,hd1,xs,rel1,dd1⟩:=RX I.hok hH;obtain⟨u,rfl,rfl⟩:=rv.one;obtain⟨z2,hd2,ys,rel2,dd2⟩:=RX I.hok hO
 have l1:=Paired.length rel1
 have l2:=Paired.length rel2
 have nd:(more.map (·.1)).Nodup:=by
  revert dd2;apply u3;rintro _ _ _ ⟨_,_,_,_,_,hn⟩;rw[rel2.keys];exact hn
 refine ph PySem.F.slot_dict_update dd1.typeIs PySem.F.entry_dict_update (PySem.F.args_dict_update_2 _ _) (Zq (pd<|DZ X.prog X.w) d o hdo hd2) {ix hu,x2 xs ys {dd1,dd2,λy hy=>?_,λe=>?_,by omega,λh' dd hs=>?_}}
 ·revert dd2;apply u3;rintro _ _ _ ⟨_,_,_,_,his,_⟩;refine u3 ?_<|his y hy;rintro ob _ _ ⟨h1,h2,_⟩;exact⟨ob,h1,h2⟩
 ·have:=ap (fb.mp (by rw[l1,e];rfl)) X.prog X.w;rw[rel2.keys,pr]at this;exact this
 ·have tk:∀ {kvs':rC} {xs':pA},KT H kvs' xs'->KT (upd H d<|.dT<|D8 kvs more) kvs' xs':=λr=>r.keeps λc ys ec=>by
   rw[AH (BB ec hH (λz=>nomatch z))];exact ec
  have fin:∀ {xs'},KT H (D8 kvs more) xs'->h'.DictOfH (pd<|DZ X.prog X.w) d xs'->EP X AA σ Q .none { s with heap:=h' }:=λ{xs'} r dd'=>by
   revert dd';apply u3;rintro ob es ep ⟨hq,h2,h3,h4,_,h5⟩;exact x2 (.non) _ {OL (ob:=.dT<|D8 kvs more) I (by rw[hH];exact oq) hs ⟨ob,hq⟩ {(by have:=XA more kvs;omega),hd1,_,tk r,x3 ob es ep ⟨hq,h2,h3,h4,h5⟩},rfl,q}
  rcases dd with dd|⟨e,dd⟩
  ·exact fin (rel2.merge rel1) dd
  ·have e0:kvs=[]:=fb.mp (by rw[l1,e];rfl);refine fin ?_ dd;rw[e0,XB more [] nd];exact rel2
def SG(H:Hp)(ps:List (V × V))(kvs:rC):Prop:=Paired (λ(q:V × V) (kv:List AN × V)=>(∃ b,q.1=.ref b/\H b=some (.tup<|kv.1.map kV))/\q.2=kv.2) ps kvs
def Zw:upd (upd H p o) p o'=upd H p o':=by
 funext x;by_cases e:x=p;rw[e,AD,AD];rw[AH e,AH e,AH e]
def Zx(h:H p=some o):upd H p o=H:=by
 funext x;by_cases e:x=p;rw[e,AD,h];rw[AH e]
def Zy(hu:X.A.units+1<cLine):∀ (ws:List (Value × Value)) (ps:List (V × V)) (kvs BN:rC) (s:π) (H:Hp) (Q:PUnit->π->Prop),Inv X AA σ H s->H d=some (.dT BN)->VV ps ws->SG H ps kvs->BN.length+kvs.length<=sizeLine ->
  (∀ s',Inv X AA σ (upd H d<|.dT<|D8 BN kvs) s'->Q PUnit.unit s')->wpAny (model X.prog X.w) X.A (storeAll d ws) Q E s:=by
 intro ws
 induction ws with
 |nil =>
  intro ps kvs BN s H Q I e rel kr hz h;cases rel;cases kr;refine ν<|h s ?_
  show Inv X _ σ (upd H d<|.dT BN) s;rw[Zx e];exact I
 | cons x ws ih =>
  intro ps kvs BN s H Q I e rel kr hz h;cases rel with
  | @cons p _ ps _ rp rel =>
   cases kr with
   |@cons _ kv _ kvs hk kr =>
    obtain⟨⟨b,eb,hb⟩,ev⟩:=hk;obtain⟨u,v⟩:=x
    have r2:=rp.2
    have r1:=rp.1;rw[eb]at r1;rw[ev]at r2;cases (r1);rw[cv]at hz;obtain⟨z,hd,xs,rl,dd⟩:=RX I.hok e
    have hl:=HU BN kv.1 kv.2;unfold storeAll;rw[yz];refine δ (δ (wpAny_dictSet_heap (hsz:=(by rw[<-Paired.length rl];exact z))  (show X.A.units<cLine by lia) (KH I.hok hb) dd λh' dd' hs=>ν ?_))
    have tk:∀ {o':HO} {c:Addr} {ys:Oj},H c=some (.tup ys)->upd H d o' c=some _:=λec=>by
     rw[AH (BB ec e (λz=>nomatch z))];exact ec
    revert dd';apply u3;rintro q es ep ⟨hq,h2,h3,h4,_,h5⟩
    have I':Inv X _ σ _ { s with heap:=h',toks:=s.toks+(pd<|DZ X.prog X.w).draws kv.1 } :=
     OL (ob:=.dT _) I (by rw[e];exact oq) hs ⟨q,hq⟩ {by omega,hd,_,(rl.put _ hb r2).keeps λc ys ec=>tk ec,x3 q es ep ⟨hq,h2,h3,h4,h5⟩}
    refine ih ps _ _ _ _ Q I' AD rel (Paired.mapP kr (by rintro q kv' ⟨⟨b',e1,e2⟩,e3⟩;exact{{b',e1,tk e2},e3})) (by omega) λs' i=>h s' ?_;rw[Zw]at i;exact i
def LZ(trs:List (TE × TE)):TE:=λσ H Q=>∀ p,H p=none->LX trs σ (upd H p<|.dT []) λps H2=>H2 p=some (.dT [])/\∃ kvs:rC,SG H2 ps kvs/\kvs.length<=15/\Q (.ref p) (upd H2 p<|.dT<|D8 [] kvs)
def Zz(hu:X.A.units+1<cLine)(h:RY X pos keys values trs)(hall:keys.all (·.isSome)=true)(hl:keys.length=values.length)(h0:keys≠[])
  (h15:keys.length<=15):PE X (.Dict keys values pos) (LZ trs):=by
 refine λAA s σ H Q I q=>wpAny_Dict_any hall hl h0 h15<|AO (h _ _ σ _ _ (I.laid     (λz z q=>ο _ q) (ρ _) (kA _ I.big)) (q _<|I.hok.fresh<|ρ _)) λws s2 ⟨ps,H2,I2,rel,e,kvs,kr,lk,q2⟩=>(Zy hu ws ps _ [] s2 H2 _ I2 e rel kr ?_ λs' i=>x2 (.ref _) _ ⟨i,rfl,q2⟩);rw[w_,m_];lia
def zaa:LZ trs σ H Q=∀ p,H p=none->LX trs σ (upd H p<|.dT []) λps H2=>H2 p=some (.dT [])/\∃ kvs:rC,SG H2 ps kvs/\kvs.length<=15/\Q (.ref p) (upd H2 p<|.dT<|D8 [] kvs):=rfl
def zab:VU td ty tx σ H Q=(td σ H λx H1=>∃ a,x=.ref a/\KK H1 a/\ty σ H1 λy H2=>tx σ H2 λz H3=>∃ o,DGet H3 a y o/\Q (o.getD z) H3):=rfl
def zac:LX [] σ H QP=QP [] H:=rfl
def zad:LX ((tk,tv)::r) σ H QP=(tk σ H λx H1=>tv σ H1 λy H2=>LX r σ H2 λps H3=>QP ((x,y)::ps) H3):=rfl
def zae(Pv:qO)(h0:Pv 0 σ H)(hl:∀ i σ H,i<=kvs.length->Pv i σ H->H d=some (.frz ob<|.dK kvs))
  (hs:∀ i k v σ H,kvs[i]? =some (k,v)->Pv i σ H->g (kV k) σ H λσ2 H2=>tb { D with nx:=Pv<|i+1,ct:=Pv<|i+1,bk:=D.nx } σ2 H2) (hd:∀ σ H,Pv kvs.length σ H->D.nx σ H):GA (SD d ob kvs) g tb D σ H:=by
 refine{λi m σ H=>m=kvs.length-i/\i<=kvs.length/\Pv i σ H,{_,rfl,bh _,h0},?_};rintro i m σ H ⟨rfl,hi,p⟩;by_cases AY:i<kvs.length;refine .inr {{hl i σ H hi p,AY},_,λσ' H' p'=>{_,by omega,rfl,by omega,p'},?_};rintro x H' ⟨rfl,k,v,rfl,e1⟩;exact hs i k v σ H' e1 p
 have e:i=kvs.length:=by lia
 subst e;exact .inl {{hl _ σ H hi p,hi},hd σ H p}
def Ends.thaw(D:Ends)(d:Addr)(o:Obj)(kvs:rR):Ends:={ D with nx:=λσ H=>H d=some (.frz o<|.dK kvs)/\D.nx σ (upd H d<|.dK kvs),rt:=λv H=>H d=some (.frz o<|.dK kvs)/\D.rt v (upd H d<|.dK kvs) }
def XD(te:TE)(g:TG)(tb:TS):TS:=λD σ H=>te σ H λx H1=>∃ d kvs,x=.ref d/\H1 d=some (.dK kvs)/\∀ o,GA (SD d o kvs) g tb (D.thaw d o kvs) σ (upd H1 d<|.frz o<|.dK kvs)
def zaf:XD te g s1 D σ H=(te σ H λx H1=>∃ d kvs,x=.ref d/\H1 d=some (.dK kvs)/\∀ o,GA (SD d o kvs) g s1 (D.thaw d o kvs) σ (upd H1 d<|.frz o<|.dK kvs)):=rfl
section
variable{X:Cx}{tg:Expr}
def zag(hp:Ff (model X.prog X.w) X.A X.env X.xe)(hc:X.calm=true)(hi:PE X iter te)(hg:PG X tg g)(hb:EU X body tb)
  (hs:∀ x,jy iter X.env x=pure x:=by intro t;rfl):PS X (.For tg iter body [] pos) (XD te g tb):=by
 intro AA s σ H D I h
 have key:wpAny (model X.prog X.w) X.A (eval iter X.env) (λv s1=>wpAny (model X.prog X.w) X.A (zi v) (U9 X AA σ tg λJ H2=>∃ d o kvs,(∀ o u,X.H₀ d≠some (.frz o u))/\GA J g tb (D.thaw d o kvs) σ H2) X.xe s1) X.xe s:=by
  refine AO (hi _ s σ H _ I h) λv s1 hzz=>?_;obtain⟨x,H1,I1,r1,d,kvs,rfl,hd,q⟩:=hzz
  have nb:∀ o u,X.H₀ d≠some _:=λo u e=>by
   have:=I1.base.frzs d o u e;rw[hd]at this;cases this
  subst r1;obtain⟨z,y,vs,r,o,es,ep,g1,g2,g3,g4,g5,g6⟩:=(I1.hok d _ hd)
  refine Xq y g1 g2 g3 ?_
  have I2:Inv X _ σ (upd H1 d<|.frz o _) { s1 with heap:=s1.heap,toks:=s1.toks }:=I1.write (by rw[hd];trivial) (.inl rfl) (λt t t e=>e) ⟨o,g1⟩ {g1,(I1.hok d _ hd).stay (λt t t e=>e) (λb e=>by rw[AH (BB e hd (by intro z;cases z))];exact e) λb xs e=>by rw[AH (BB e hd (by intro z;cases z))];exact e}
  have I3:Inv X _ σ _ { s1 with heap:=s1.heap.push { cls:=.type "dict_keyiterator",data:=.fields #[.ref d,.int 0 0,.int es.size 0,.int ep 0] } }:=I2.kept  λb o e=>ο _ e;exact⟨_,_,_,_,_,rfl,I3,Yk d _ g3,{_,aj _ rfl,rfl,rfl},λb hb=>by
   have e:b=s1.heap.objs.size:=by simpa using hb
   subst e;exact I2.fpOk (ρ _) (I2.hok.fresh<|ρ _),d,o,_,nb,q o⟩
 refine wpAny_For (AO key λv s1 h1=>AO h1 λitv s2 h2=>?_) hs;obtain⟨it,fp,tn,J,H2,rfl,I2,T,st2,f2,d,o,kvs,nb,W,⟨m0,w0⟩,turn⟩:=h2
 have stat:∀ {H':Hp},(∀ b∈fp,H' b=none)->∀ b∈fp,FpOk X _ H' b:=λhn b hb=>{hn b hb,(f2 b hb).2}
 refine Ai (λn s'=>∃ i σ' H',Inv X _ σ' H' s'/\tn i s'.heap/\(∀ b∈fp,H' b=none)/\W i n σ' H') ?_ m0 {0,σ,H2,I2,st2,λb hb=>(f2 b hb).1,w0};rintro n s3 ⟨i,σ3,H3,I3,st3,fr3,w3⟩;rcases turn i n σ3 H3 w3 with⟨stop,qe,qn⟩|⟨go,N,hN,step⟩
 refine fh hp<|AO (T.done X rfl rfl rfl hc i AA s3 σ3 H3 X.xe I3 (stat fr3) st3 stop) λr s4 hzz=>?_;obtain⟨rfl,I4⟩:=hzz;exact mx {σ3,_,I4.thaw qe nb,qn};refine fh hp<|AO (T.item X rfl rfl rfl hc i AA s3 σ3 H3 X.xe I3 (stat fr3) st3 go) λr s4 hzz=>?_;obtain⟨u,rfl,h4⟩:=hzz;refine fh hp<|AO h4 λt s5 hzz=>?_;obtain⟨x,H5,I5,r5,y5,st5,fr5⟩:=hzz;refine fh hp<|AO (hg _ s5 σ3 H5 x u _ (I5.pinned (stat fr5) (T.obj _ _ st5)) r5 (step x H5 y5)) λt s6 hzz=>?_;obtain⟨σ6,H6,I6,q6⟩:=hzz;refine fh hp<|AO (hb _ s6 σ6 H6 _ I6 q6) λf s7 q7=>?_
 have again:∀ {σ7:St} {H7:Hp},Inv X (AA++N9 fp s5.heap) σ7 H7 s7->N σ7 H7->∃ m,m<n/\∃ i σ' H',Inv X AA σ' H' s7/\tn i s7.heap/\(∀ b∈fp,H' b=none)/\W i m σ' H':=λ{σ7 H7} I7 n7=>by
  obtain⟨m',hm,w7⟩:=hN σ7 H7 n7;refine{m',hm,i+1,σ7,H7,I7.unpinned,T.keep _ _ _ st5 λb hb o e=>(I7.pin (b,o) (bv _<|bv _<|MU hb e)).1,λb hb=>?_,w7};obtain⟨o,e,d⟩:=T.obj _ _ st5 b hb;exact(I7.pin (b,o) (bv _<|bv _<|MU hb e)).2.1
 cases f with
 |next=>obtain⟨σ7,H7,I7,n7⟩:=q7;exact again I7 n7
 |cont=>obtain⟨σ7,H7,I7,n7⟩:=q7;exact again I7 n7
 |brk=>obtain⟨σ7,H7,I7,q7,q8⟩:=q7;exact{σ7,_,I7.unpinned.thaw q7 nb,q8}
 |ret v=>obtain⟨x7,σ7,H7,I7,r7,q7,q8⟩:=q7;exact{x7,σ7,_,I7.unpinned.thaw q7 nb,r7,q8}
end
def O0(K:ι):Oj->Hp->VK->Prop:=λxs H Q=>∃ (a:Addr) (kvs:rR),xs=[.ref a]/\H a=some (.dK kvs)/\∀ l,H l=none->Q (.ref l) (upd H l<|.lst<|kvs.map λp=>kV p.1)
def mE:∀ {ys:Oj} {us:qV},ys.length=us.length->(∀ (j:Nat) y u,ys[j]? =some y->us[j]? =some u->RelV y u)->Vals ys us
 | [],[],_,_=>.nil
 |y::ys,u::us,h,f=>.cons (f 0 y u rfl rfl) (mE (by simpa using h) λj a b e1 e2=>f (j+1) a b e1 e2)
 | [],_::_,h,_=>by simp at h
 |_::_,[],h,_=>by simp at h
section
variable{X:Cx}
def zah(hc:X.calm=true):D7 X (.type "list") (O0 X.K):=by
 rintro AA s σ H xs us Q I r ⟨a,kvs,rfl,ha,q⟩;obtain⟨z,y,vs,rel,od,es,ep,ho,hex,hdat,h1,h2,h3⟩:=(I.hok a _ ha)
 obtain⟨u,rfl,rfl⟩:=FZ r
 have hl:=rel.length.symm;refine W.kdl_call (W.kdl_dict    y) (I.ok.hd hc) ⟨od,es,ho,hex,hdat,h1,h2,h3⟩ (by rw[hl];exact z) λh' tk acc' c' kp e hacc=>({.ref _,_,I.laid  kp (ρ _) (show ObjOk _ _ _ h' _ (.lst _)from{by rw[ζ];exact z,_,c',mE ?_ λj y u ey eu=>?_,e}),rfl,q _<|I.hok.fresh<|ρ _})
 have:=hacc.1;rw[ζ];simp only[ca]
 lia
 rw[τ,ae]at ey;obtain⟨k,x,ek,hk⟩:=hacc.2 j u (by rw[<-gu];exact eu);obtain⟨p',ep2,LQ,IF⟩:=G7 rel ek;obtain⟨p,ep',rfl⟩:=ey;rw[ep']at ep2;cases ep2;rw[LQ];rcases HL hk with⟨i,t,e5,e6⟩|⟨i,t,e5,e6⟩
 rw[e5,e6];exact⟨t,rfl⟩;rw[e5,e6];exact⟨t,rfl⟩
end
def zai{K:ι}{p:Addr}{H:Hp}{Q:VK}:O0 K [.ref p] H Q=∃ kvs,H p=some (.dK kvs)/\∀ l,H l=none->Q (.ref l) (upd H l<|.lst<|kvs.map λp=>kV p.1):=by simp[O0]
def CP(x:V)(P:Addr->Prop):Prop:=match x with
 |.ref a=>P a
 |_=>False
def GK(x:V)(P:Int->Prop):Prop:=match x with
 |.int a=>P a
 |_=>False
def JY(x:V)(P:Bool->Prop):Prop:=match x with
 |.bl a=>P a
 |_=>False
def FC(xs:Oj)(P:V->Prop):Prop:=match xs with
 | [x]=>P x
 |_=>False
def O1(xs:Oj)(P:V->Oj->Prop):Prop:=match xs with
 |x::r=>P x r
 |_=>False
def O2(xs:Oj)(P:Prop):Prop:=match xs with
 | []=>P
 |_=>False
def GB:CP x P=∃ a,x=.ref a/\P a:=by cases x<;>simp[CP]
def O3:GK x P=∃ a,x=.int a/\P a:=by cases x<;>simp[GK]
def XF:JY x P=∃ a,x=.bl a/\P a:=by cases x<;>simp[JY]
def M8:FC xs P=∃ x,xs=[x]/\P x:=by rcases xs with _|⟨x,_|⟨y,r⟩⟩<;>simp[FC]
def zaj:O1 xs P=∃ x r,xs=x::r/\P x r:=by
 rcases xs with _|⟨x,r⟩<;>simp[O1]
 exact{λh=>{x,r,⟨rfl,rfl⟩,h},(by rintro ⟨z,z,⟨e,e'⟩,h⟩;exact e ▸ e' ▸ h)}
def zak:O2 xs P=(xs=[]/\P):=by rcases xs with _|⟨x,r⟩<;>simp[O2]
section
variable{P:Addr->Prop}{PI':Int->Prop}{PB:Bool->Prop}{P1:V->Prop}{P2:V->V->Prop}{PC':V->Oj->Prop}{Z:Prop}{p:Addr}{i:Int}{b:Bool}{x y:V}{r:Oj}
def zal:CP (.ref p) P=P p:=rfl
def zam:GK (.int i) PI'=PI' i:=rfl
def O4:JY (.bl b) PB=PB b:=rfl
def zan:FC [x] P1=P1 x:=rfl
def zao:O1 (x::r) PC'=PC' x r:=rfl
def zap:O2 [] Z=Z:=rfl
def zaq:@ite Prop (true=true) (instDecidableEqBool true true) A B=A:=rfl
def mF:@ite Prop (false=true) (instDecidableEqBool false true) A B=B:=rfl
def zar:(!true)=false:=rfl
def zas:(!false)=true:=rfl
def zat{α β :Type}:Mf f (a::l)=f a::Mf f l:=rfl
def zau{α β :Type}:Mf f []=[]:=rfl
end
section
variable{K:ι}{ta tb tc to ti tv tl td ty tx:TE}{s1:TS}{r r':R2}{σ:St}{H:Hp}{Q:VK}{D:Ends}{QB:qQ}{as:TA}{g:TG}{gs:G3}{tt:TT}{te:TE}{k i:Nat}{A4:Oz}{f m:Str}{C:Addr}{sp:Sp}{E:St->XK}{v:V}{vs:Oj}{QG:St->Hp->Prop}{X:Cx}{e:Expr}{es:rY}{st:Stmt}{tg it:Expr}{QO:Option Int->Hp->Prop}{p q:Addr}{x y:Int}{b b':Bool}{s s':Str}
def AR(K:ι)(ta:TE)(f:Str):TE:=λσ H Q=>ta σ H λx H1=>CP x λa=>∃ C dx fs,H1 a=some (.ins C dx fs)/\Cls K C/\NoAttr K C f/\∃ v,fs.lookup f=some v/\Q v H1
def zav:AR K ta f=OE K ta f:=by funext σ H Q;simp only[AR,OE,GB];simp
def zaw:AR K ta f σ H Q=ta σ H λx H1=>CP x λa=>∃ C dx fs,H1 a=some (.ins C dx fs)/\Cls K C/\NoAttr K C f/\∃ v,fs.lookup f=some v/\Q v H1:=rfl
def pFl(h:PE X e (OE K ta f)):PE X e (AR K ta f):=zav ▸ h
def AM(C:Addr)(m:Str)(sp:Sp)(E:St->XK)(ta:TE)(t:TA):TE:=λσ H Q=>ta σ H λx H1=>CP x λa=>∃ dx fs,H1 a=some (.ins C dx fs)/\fs.lookup m=none/\t σ H1 λvs H2=>sp (x::vs) H2 Q (E σ)
def zay:AM C m sp E ta as=IK C m sp [] E ta as:=by funext σ H Q;simp only[AM,IK,GB];simp
def zaz:AM C m sp E ta as σ H Q=ta σ H λx H1=>CP x λa=>∃ dx fs,H1 a=some (.ins C dx fs)/\fs.lookup m=none/\as σ H1 λvs H2=>sp (x::vs) H2 Q (E σ):=rfl
def SH(h:PE X e (IK C m sp [] E ta as)):PE X e (AM C m sp E ta as):=zay ▸ h
def BI(sp:Sp)(E:St->XK)(t:TA):TE:=λσ H Q=>t σ H λvs H1=>sp vs H1 Q<|E σ
def za0:BI sp E as=LU sp [] E as:=by funext σ H Q;simp only[BI,LU,jg]
def za1:BI sp E as σ H Q=as σ H λvs H1=>sp vs H1 Q (E σ):=rfl
def XG(h:PE X e (LU sp [] E as)):PE X e (BI sp E as):=za0 ▸ h
def GL(C:Addr)(sp:Sp)(E:St->XK)(t:TA):TE:=λσ H Q=>t σ H λvs H1=>∀ x dx,H1 x=none->H1 dx=none->dx≠x->sp (.ref x::vs) (upd (upd H1 dx<|.own x) x (.ins C dx [])) (λv H2=>v=.non/\Q (.ref x) H2) (E σ)
def za2:GL C sp E as=MW C sp [] E as:=by funext σ H Q;simp only[GL,MW,jg]
def za3:GL C sp E as σ H Q=as σ H λvs H1=>∀ x dx,H1 x=none->H1 dx=none->dx≠x->sp (.ref x::vs) (upd (upd H1 dx<|.own x) x (.ins C dx [])) (λv H2=>v=.non/\Q (.ref x) H2) (E σ):=rfl
def pMk(h:PE X e (MW C sp [] E as)):PE X e (GL C sp E as):=za2 ▸ h
def C0(K:ι)(ta tv:TE)(f:Str):TS:=λD σ H=>tv σ H λy H1=>ta σ H1 λx H2=>CP x λa=>∃ C dx fs,H2 a=some (.ins C dx fs)/\Cls K C/\NoAttr K C f/\fs.length<1000/\D.nx σ (upd H2 a<|.ins C dx<|BO f y fs)
def za5:C0 K ta tv f=OF K ta tv f:=by funext D σ H;simp only[C0,OF,GB];simp
def za6:C0 K ta tv f D σ H=tv σ H λy H1=>ta σ H1 λx H2=>CP x λa=>∃ C dx fs,H2 a=some (.ins C dx fs)/\Cls K C/\NoAttr K C f/\fs.length<1000/\D.nx σ (upd H2 a<|.ins C dx<|BO f y fs):=rfl
def pSf(h:PS X st (OF K ta tv f)):PS X st (C0 K ta tv f):=za5 ▸ h
def A9(t:TE):TT:=λσ H Q=>t σ H λx H'=>JY x λk=>Q k H'
def XH:A9 ta=LS ta:=by funext σ H Q;simp only[A9,LS,XF]
def za8:A9 ta σ H QB=ta σ H λx H'=>JY x λk=>QB k H':=rfl
def JZ(h:PT X e (LS ta)):PT X e (A9 ta):=XH ▸ h
def pTb(h:PT X e (tB ta)):PT X e (A9 ta):=by rw[XH];exact h
def FO(r r':R2)(ta tb tc:TE):TE:=λσ H Q=>ta σ H λx H1=>tb σ H1 λy H2=>r x y H2 λz H3=>JY z λk=>if k=true then tc σ H3 λw' H4=>r' y w' H4 Q else Q (.bl false) H3
def mG:FO r r' ta tb tc=LT r r' ta tb tc:=by funext σ H Q;simp only[FO,LT,XF]
def zba:FO r r' ta tb tc σ H Q=ta σ H λx H1=>tb σ H1 λy H2=>r x y H2 λz H3=>JY z λk=>if k=true then tc σ H3 λw' H4=>r' y w' H4 Q else Q (.bl false) H3:=rfl
def pCh(h:PE X e (LT r r' ta tb tc)):PE X e (FO r r' ta tb tc):=mG ▸ h
def pCt(h:PT X e (LS<|LT r r' ta tb tc)):PT X e (A9<|FO r r' ta tb tc):=by rw[XH,mG];exact h
def KU(ta tb:TE):TE:=λσ H Q=>ta σ H λx H1=>JY x λc=>if c=true then tb σ H1 Q else Q (.bl false) H1
def zbd:KU ta tb=N7 ta tb:=by funext σ H Q;simp only[KU,N7,XF]
def zbe:KU ta tb σ H Q=ta σ H λx H1=>JY x λc=>if c=true then tb σ H1 Q else Q (.bl false) H1:=rfl
def pAv(h:PE X e (N7 ta tb)):PE X e (KU ta tb):=zbd ▸ h
def J0(K:ι)(x:V)(H:Hp)(Q:Bool->Prop):Prop:=match x with
 |.bl b=>Q b
 |.int i=>Q<|i != 0
 |.non=>Q false
 |x=>∃ k,KG K x H k/\Q k
def zbg{x:V}{Q:Bool->Prop}:J0 K x H Q=∃ k,KG K x H k/\Q k:=by cases x<;>simp[J0,KG]
def zbh{Q:Bool->Prop}:J0 K (.bl b) H Q=Q b:=rfl
def zbi{Q:Bool->Prop}:J0 K (.int x) H Q=Q (x != 0):=rfl
def zbj{Q:Bool->Prop}:J0 K .non H Q=Q false:=rfl
def zbk{Q:Bool->Prop}:J0 K (.ref p) H Q=∃ k,KG K (.ref p) H k/\Q k:=rfl
def zbl{Q:Bool->Prop}:J0 K (.str s) H Q=∃ k,KG K (.str s) H k/\Q k:=rfl
def G8(K:ι)(ta:TE):TT:=λσ H Q=>ta σ H λx H'=>J0 K x H' λk=>Q k H'
def zbm:G8 K ta=kP K ta:=by funext σ H Q;simp only[G8,zbg]
def zbn:G8 K ta σ H QB=ta σ H λx H'=>J0 K x H' λk=>QB k H':=rfl
def pTr(h:PT X e (kP K ta)):PT X e (G8 K ta):=zbm ▸ h
def M9(C:Int->Int->Prop)(g:Int->Int->V):R2:=λx y H Q=>GK x λi=>GK y λj=>C i j/\Q (g i j) H
def mH{C:Int->Int->Prop}{g:Int->Int->V}:M9 C g=rI C g:=by funext x y H Q;simp only[M9,rI,O3];simp
def SI(g:Int->Int->V):R2:=λx y H Q=>GK x λi=>GK y λj=>Q (g i j) H
def zbp{g:Int->Int->V}:SI g=JN g:=by funext x y H Q;simp only[SI,JN,O3];simp
def SJ(g:Int->V):V->Hp->VK->Prop:=λx H Q=>GK x λi=>Q (g i) H
def zbq{g:Int->V}:SJ g=rU g:=by funext x H Q;simp only[SJ,rU,O3]
abbrev SK:R2:=SI λi j=>.int<|i-j
abbrev CA:R2:=M9 (λ_ j=>0<j) λi j=>.int<|i%j
abbrev FD:R2:=M9 i6 λi j=>.int<|i/j
abbrev rPw:R2:=M9 Fv λi j=>.int<|i^j.toNat
abbrev O5:V->Hp->VK->Prop:=SJ λi=>.int (-i)
def zbs{C:Int->Int->Prop}{g:Int->Int->V}:M9 C g (.int x) (.int y) H Q=(C x y/\Q (g x y) H):=rfl
def zbt{g:Int->Int->V}:SI g (.int x) (.int y) H Q=Q (g x y) H:=rfl
def zbu{g:Int->V}:SJ g (.int x) H Q=Q (g x) H:=rfl
def zbv:BW X (iu .Sub) SK:=by rw[SK,zbp];exact Fx
def zbw:BW X (iu .Mod) CA:=by rw[CA,mH];exact Gb
def zbx:BW X (iu .FloorDiv) FD:=by rw[FD,mH];exact Fz
def zby:RN X (unaryOp .USub) O5:=by rw[O5,zbq];exact Gd
def rB(K:ι)(x y:V)(H:Hp)(R:qQ):Prop:=match x,y with
 |.int i,.int j=>R (decide<|i=j) H
 |.str i,.str j=>R (decide<|i=j) H
 |.bl i,.bl j=>R (decide<|i=j) H
 |.non,.int _=>R false H
 |.int _,.non=>R false H
 |.non,.non=>R true H
 |x,y=>rD K x y H R
def CQ(K:ι):R2:=λx y H Q=>rB K x y H λb=>Q<|.bl b
def D3(K:ι):R2:=λx y H Q=>rB K x y H λb=>Q<|.bl<|!b
def zbz:CQ K (.int x) (.int y) H Q=Q (.bl<|decide<|x=y) H:=rfl
def zb0:CQ K (.str s) (.str s') H Q=Q (.bl<|decide<|s=s') H:=rfl
def zb1:CQ K (.bl b) (.bl b') H Q=Q (.bl<|decide<|b=b') H:=rfl
def zb2:CQ K .non (.int x) H Q=Q (.bl false) H:=rfl
def zb3:CQ K (.int x) .non H Q=Q (.bl false) H:=rfl
def zb4:CQ K .non .non H Q=Q (.bl true) H:=rfl
def zb5:CQ K (.ref p) (.ref q) H Q=KP K (.ref p) (.ref q) H Q:=rfl
def zb6:CQ K (.ref p) .non H Q=KP K (.ref p) .non H Q:=rfl
def zb7:CQ K .non (.ref p) H Q=KP K .non (.ref p) H Q:=rfl
def zb8:CQ K (.str s) .non H Q=KP K (.str s) .non H Q:=rfl
def zb9:CQ K .non (.str s) H Q=KP K .non (.str s) H Q:=rfl
def zca:D3 K (.int x) (.int y) H Q=Q (.bl<|!decide (x=y)) H:=rfl
def zcb:D3 K (.str s) (.str s') H Q=Q (.bl<|!decide (s=s')) H:=rfl
def zcc:D3 K (.bl b) (.bl b') H Q=Q (.bl<|!decide (b=b')) H:=rfl
def zcd:D3 K .non (.int x) H Q=Q (.bl true) H:=rfl
def zce:D3 K (.int x) .non H Q=Q (.bl true) H:=rfl
def zcf:D3 K .non .non H Q=Q (.bl false) H:=rfl
def zcg:D3 K (.ref p) (.ref q) H Q=KQ K (.ref p) (.ref q) H Q:=rfl
def zch:D3 K (.ref p) .non H Q=KQ K (.ref p) .non H Q:=rfl
def zci:D3 K .non (.ref p) H Q=KQ K .non (.ref p) H Q:=rfl
def eC{p q:Addr}(h:KP K (.ref p) (.ref q) H Q):CQ K (.ref p) (.ref q) H Q:=h
def nC{p q:Addr}(h:KQ K (.ref p) (.ref q) H Q):D3 K (.ref p) (.ref q) H Q:=h
def mI(hu:X.A.units+64<cLine):BW X (dt .Eq) (CQ X.K):=by
 intro AA s σ H x y v u Q I rx ry h;unfold CQ rB at h;split at h;obtain⟨t,rfl⟩:=rx;obtain⟨w,rfl⟩:=ry;exact eq_int<|FY I h rfl;obtain⟨t,rfl⟩:=rx;obtain⟨w,rfl⟩:=ry;exact eq_str<|FY I h rfl;cases rx;cases ry;exact eq_bool<|FY I h rfl;cases rx;obtain⟨t,rfl⟩:=ry;exact PySem.EqNone.eq_none_int<|FY I h rfl;cases ry;obtain⟨t,rfl⟩:=rx;exact PySem.EqNone.eq_int_none<|FY I h rfl;cases rx;cases ry;exact PySem.EqNone.eq_none_none<|FY I h rfl;exact Pk hu AA s σ H _ _ v u Q I rx ry h
def mJ(hu:X.A.units+64<cLine):BW X (dt .NotEq) (D3 X.K):=by
 intro AA s σ H x y v u Q I rx ry h;unfold D3 rB at h;split at h;obtain⟨t,rfl⟩:=rx;obtain⟨w,rfl⟩:=ry;exact ne_int<|FY I h rfl;obtain⟨t,rfl⟩:=rx;obtain⟨w,rfl⟩:=ry;exact ne_str<|FY I h rfl;cases rx;cases ry;exact ne_bool<|FY I h rfl;cases rx;obtain⟨t,rfl⟩:=ry;exact PySem.EqNone.ne_none_int<|FY I h rfl;cases ry;obtain⟨t,rfl⟩:=rx;exact PySem.EqNone.ne_int_none<|FY I h rfl;cases rx;cases ry;exact PySem.EqNone.ne_none_none<|FY I h rfl;exact Pl hu AA s σ H _ _ v u Q I rx ry h
def G9:R2:=λx y H Q=>match y with
 |.non=>Q (.bl<|decide<|x=.non) H
 |_=>False
def GD:R2:=λx y H Q=>match y with
 |.non=>Q (.bl<|!decide (x=.non)) H
 |_=>False
def zcj:G9 v .non H Q=Q (.bl<|decide<|v=.non) H:=rfl
def zck:GD v .non H Q=Q (.bl<|!decide (v=.non)) H:=rfl
def zcl:G9=kN:=by funext x y H Q;cases y<;>simp[G9,kN]
def zcm:GD=kO:=by funext x y H Q;cases y<;>simp[GD,kO]
def zcn:BW X (dt .Is) G9:=zcl ▸ Gk
def zco:BW X (dt .IsNot) GD:=zcm ▸ Gm
def FE(K:ι):Oj->Hp->VK->Prop:=λxs H Q=>FC xs λx=>∃ n,RO K x H n/\Q (.int n) H
def zcp:FE K=WK K:=by funext xs H Q;simp only[FE,WK,M8];simp
def zcq:FE K vs H Q=FC vs λx=>∃ n:Nat,RO K x H n/\Q (.int n) H:=rfl
def zcr:D7 X (.builtin "len") (FE X.K):=zcp ▸ Qq
def KW(K:ι):Oj->Hp->VK->Prop:=λxs H Q=>FC xs λx=>CP x λp=>∃ ys,(SqL K H p ys\/SqT K H p ys)/\∀ l,H l=none->Q (.ref l) (upd H l<|.lst ys)
def zcs:KW K=kT K:=by
 funext xs H Q;simp only[KW,M8,GB];exact propext {(by rintro ⟨z,e,p,e',ys,h⟩;exact{p,ys,e' ▸ e,h}),(by rintro ⟨p,ys,e,h⟩;exact⟨_,e,p,rfl,ys,h⟩)}
def zct:KW K vs H Q=FC vs λx=>CP x λp=>∃ ys,(SqL K H p ys\/SqT K H p ys)/\∀ l,H l=none->Q (.ref l) (upd H l<|.lst ys):=rfl
def zcu:D7 X (.type "list") (KW X.K):=zcs ▸ Qv
def KY(K:ι):Oj->Hp->VK->Prop:=λxs H Q=>FC xs λx=>CP x λp=>∃ ys,((SqL K H p ys/\∀ l,H l=none->Q (.ref l) (upd H l<|.tup ys))\/(SqT K H p ys/\Q (.ref p) H))
def zcv:KY K=kU K:=by
 funext xs H Q;simp only[KY,M8,GB];exact propext {(by rintro ⟨z,e,p,e',ys,h⟩;exact{p,ys,e' ▸ e,h}),(by rintro ⟨p,ys,e,h⟩;exact⟨_,e,p,rfl,ys,h⟩)}
def zcw:KY K vs H Q=FC vs λx=>CP x λp=>∃ ys,((SqL K H p ys/\∀ l,H l=none->Q (.ref l) (upd H l<|.tup ys))\/(SqT K H p ys/\Q (.ref p) H)):=rfl
def zcx:D7 X (.type "tuple") (KY X.K):=zcv ▸ Qw
def KZ(td ty:TE):TE:=λσ H Q=>td σ H λx H1=>ty σ H1 λy H2=>CP x λa=>∃ v,DGet H2 a y (some v)/\Q v H2
def zcy:KZ td ty=OM td ty:=by funext σ H Q;simp only[KZ,OM,GB];simp
def zcz:KZ td ty σ H Q=td σ H λx H1=>ty σ H1 λy H2=>CP x λa=>∃ v,DGet H2 a y (some v)/\Q v H2:=rfl
def pDg(h:PE X e (OM td ty)):PE X e (KZ td ty):=zcy ▸ h
def IR(ty td:TE):TE:=λσ H Q=>ty σ H λy H1=>td σ H1 λx H2=>CP x λa=>∃ o,DGet H2 a y o/\Q (.bl o.isSome) H2
def zc1:IR ty td=ON ty td:=by funext σ H Q;simp only[IR,ON,GB];simp
def zc2:IR ty td σ H Q=ty σ H λy H1=>td σ H1 λx H2=>CP x λa=>∃ o,DGet H2 a y o/\Q (.bl o.isSome) H2:=rfl
def pDi{op:CmpOp}{a b:Expr}(h:PC X op a b (ON ty td)):PC X op a b (IR ty td):=zc1 ▸ h
def HW(ty td:TE):TE:=λσ H Q=>ty σ H λy H1=>td σ H1 λx H2=>CP x λa=>∃ o,DGet H2 a y o/\Q (.bl<|!o.isSome) H2
def zc4:HW ty td=OO ty td:=by funext σ H Q;simp only[HW,OO,GB];simp
def zc5:HW ty td σ H Q=ty σ H λy H1=>td σ H1 λx H2=>CP x λa=>∃ o,DGet H2 a y o/\Q (.bl<|!o.isSome) H2:=rfl
def pDn{op:CmpOp}{a b:Expr}(h:PC X op a b (OO ty td)):PC X op a b (HW ty td):=zc4 ▸ h
def FQ(td ty tv:TE):TS:=λD σ H=>tv σ H λv H1=>td σ H1 λx H2=>ty σ H2 λy H3=>CP x λa=>∃ H4,DPut H3 a y v H4/\D.nx σ H4
def zc7:FQ td ty tv=OP td ty tv:=by funext D σ H;simp only[FQ,OP,GB];simp
def zc8:FQ td ty tv D σ H=tv σ H λv H1=>td σ H1 λx H2=>ty σ H2 λy H3=>CP x λa=>∃ H4,DPut H3 a y v H4/\D.nx σ H4:=rfl
def pDp(h:PS X st (OP td ty tv)):PS X st (FQ td ty tv):=zc7 ▸ h
def NA(td ty:TE):TE:=λσ H Q=>td σ H λx H1=>CP x λa=>KK H1 a/\ty σ H1 λy H2=>∃ o,DGet H2 a y o/\Q (o.getD .non) H2
def zda:NA td ty=RZ td ty:=by funext σ H Q;simp only[NA,RZ,GB]
def zdb:NA td ty σ H Q=td σ H λx H1=>CP x λa=>KK H1 a/\ty σ H1 λy H2=>∃ o,DGet H2 a y o/\Q (o.getD .non) H2:=rfl
def pD1(h:PE X e (RZ td ty)):PE X e (NA td ty):=zda ▸ h
def zdd:VW td ty tx σ H Q=td σ H λx H1=>∃ a,x=.ref a/\KK H1 a/\ty σ H1 λy H2=>tx σ H2 λz H3=>∃ kvs k,H3 a=some (.dK kvs)/\y=kV k/\(∀ v,A5 kvs k=some v->Q v (upd H3 a<|.dK<|JP kvs k))/\(A5 kvs k=none->Q z H3):=rfl
def DK(ta:TA):TI:=λσ H R=>ta σ H λvs H1=>FC vs λx=>GK x λj=> -(2^62)<=j/\j<2^62/\R (E9 0 j.toNat) H1
def zde:DK as=RM as:=by
 funext σ H R;simp only[DK,M8,O3];congr 1;funext vs H1;exact propext {(by rintro ⟨z,e,j,e',h⟩;exact{j,e' ▸ e,h}),(by rintro ⟨j,e,h⟩;exact⟨_,e,j,rfl,h⟩)}
def pR1(h:PI X tg it (RM as)):PI X tg it (DK as):=zde ▸ h
def zdg:BS (DK as) g tt te k A4 σ H Q=as σ H λvs H1=>FC vs λx=>GK x λj=> -(2^62)<=j/\j<2^62/\D2 (E9 0 j.toNat) g tt te k A4 σ H1 Q:=rfl
def zdh:CZ (DK as) g s1 D σ H=as σ H λvs H1=>FC vs λx=>GK x λj=> -(2^62)<=j/\j<2^62/\GA (E9 0 j.toNat) g s1 D σ H1:=rfl
def B7(K:ι)(tl:TE):TI:=λσ H R=>tl σ H λx H1=>CP x λa=>(((∃ xs,SqL K H1 a xs)/\R (FX K a) H1)\/((∃ xs,SqT K H1 a xs)/\R (IJ K a) H1))
def zdi:B7 K tl=OS K tl:=by funext σ H R;simp only[B7,OS,GB]
def pSq(h:PI X tg it (OS K tl)):PI X tg it (B7 K tl):=zdi ▸ h
def zdk:BS (B7 K tl) g tt te k A4 σ H Q=tl σ H λx H1=>CP x λa=>(((∃ xs,SqL K H1 a xs)/\D2 (FX K a) g tt te k A4 σ H1 Q)\/((∃ xs,SqT K H1 a xs)/\D2 (IJ K a) g tt te k A4 σ H1 Q)):=rfl
def zdl:CZ (B7 K tl) g s1 D σ H=tl σ H λx H1=>CP x λa=>(((∃ xs,SqL K H1 a xs)/\GA (FX K a) g s1 D σ H1)\/((∃ xs,SqT K H1 a xs)/\GA (IJ K a) g s1 D σ H1)):=rfl
def FF(K:ι)(ta:TA):TI:=λσ H R=>ta σ H λvs H1=>FC vs λx=>CP x λa=>(∃ xs,SqL K H1 a xs)/\R (KS K a) H1
def zdm:FF K as=SC K as:=by
 funext σ H R;simp only[FF,M8,GB];congr 1;funext vs H1;exact propext {(by rintro ⟨z,e,j,e',h⟩;exact{j,e' ▸ e,h}),(by rintro ⟨j,e,h⟩;exact⟨_,e,j,rfl,h⟩)}
def pEn(h:PI X tg it (SC K as)):PI X tg it (FF K as):=zdm ▸ h
def zdo:BS (FF K as) g tt te k A4 σ H Q=as σ H λvs H1=>FC vs λx=>CP x λa=>(∃ xs,SqL K H1 a xs)/\D2 (KS K a) g tt te k A4 σ H1 Q:=rfl
def zdp:CZ (FF K as) g s1 D σ H=as σ H λvs H1=>FC vs λx=>CP x λa=>(∃ xs,SqL K H1 a xs)/\GA (KS K a) g s1 D σ H1:=rfl
def K0(ta:TE):TO:=λσ H Q=>ta σ H λx H1=>GK x λi=>Q (some i) H1
def zdq:K0 ta=OI ta:=by funext σ H Q;simp only[K0,OI,O3]
def zdr:K0 ta σ H QO=ta σ H λx H1=>GK x λi=>QO (some i) H1:=rfl
def pPt(h:PO X o (OI ta)):PO X o (K0 ta):=zdq ▸ h
def J1(K:ι)(n:Nat)(t:G3):TG:=λv σ H Q=>CP v λa=>∃ xs,SqT K H a xs/\xs.length=n/\t xs σ H Q
def zdt:J1 K k gs=E8 K k gs:=by funext v σ H Q;simp only[J1,E8,GB];simp
def zdu:J1 K k gs v σ H QG=CP v λa=>∃ xs,SqT K H a xs/\xs.length=k/\gs xs σ H QG:=rfl
def pTp(h:PG X e (E8 K k gs)):PG X e (J1 K k gs):=zdt ▸ h
def J2:G3:=λvs σ H Q=>O2 vs<|Q σ H
def zdw:J2=E7:=by funext vs σ H Q;simp only[J2,E7,zak]
def zdx:J2 vs σ H QG=O2 vs (QG σ H):=rfl
def pGn(h:II X es E7):II X es J2:=zdw ▸ h
def GO(g:TG)(gs:G3):G3:=λvs σ H Q=>O1 vs λv r=>g v σ H λσ' H'=>gs r σ' H' Q
def zdz:GO g gs=DJ g gs:=by funext vs σ H Q;simp only[GO,DJ,zaj]
def zd0:GO g gs vs σ H QG=O1 vs λv r=>g v σ H λσ' H'=>gs r σ' H' QG:=rfl
def pGc(h:II X es (DJ g gs)):II X es (GO g gs):=zdz ▸ h
def EL:V->Oj->Hp->VK->Prop:=λx vs H Q=>CP x λl=>FC vs λy=>∃ xs,H l=some (.lst xs)/\xs.length<sizeLine/\Q .non (upd H l<|.lst<|xs++[y])
def zd2:EL=jY:=by
 funext x vs H Q;simp only[EL,M8,GB];exact propext {(by rintro ⟨l,e,y,e',xs,h⟩;exact⟨l,xs,y,e,e',h⟩),(by rintro ⟨l,xs,y,e,e',h⟩;exact⟨l,e,y,e',xs,h⟩)}
def zd3:RV X "list.append" EL:=zd2 ▸ Ld
end
section
variable{α :Sort _}{p: α ->Prop}{x: α}{b c d:Prop}
def qF:(∃ _: α,False)=False:=eq_false exists_false
def qD[Decidable b]:(decide b=false)=¬ b:=propext decide_eq_false_iff_not
def qR:(∃ x,p x/\b)=((∃ x,p x)/\b):=propext exists_and_right
def qL:(∃ x,b/\p x)=(b/\∃ x,p x):=propext exists_and_left
def q1:(∃ y,x=y/\p y)=p x:=propext exists_eq_left'
def q2:(∃ y,y=x/\p y)=p x:=propext exists_eq_left
def q3:(∃ y,x=y)=True:=eq_true exists_eq'
def q4:(∃ y,y=x)=True:=eq_true exists_eq
def qA:((b/\c)/\d)=(b/\c/\d):=propext and_assoc
def qC[Nonempty α]:(α ->b)=b:=propext<|forall_const α
end
abbrev Ad:=String->Addr
def SameBut(F:Addr->Prop)(H H':Hp):Prop:=∀ b o,H b=some o->¬ F b->H' b=some o
structure DL(K:ι)(a:Ad):Prop where
 cl:Cls K (a "Plank")
 nC:NoAttr K (a "Plank") "contents"
 nW:NoAttr K (a "Plank") "width"
 nN:NoAttr K (a "Plank") "written"
def pf(cl:Addr)(w n:Int):rP:=[("contents",.ref cl),("width",.int w),("written",.int n)]
def zd4:¬ ("contents":Str)="width":=by decide
def zd5:¬ ("contents":Str)="written":=by decide
def zd6:¬ ("width":Str)="written":=by decide
def SL(cl:Addr)(w n:Int):(pf cl w n).lookup ("contents":Str)=some (V.ref cl):=by simp[pf]
def mK(cl:Addr)(w n:Int):(pf cl w n).lookup ("width":Str)=some (V.int w):=by
 simp[pf,ao,(beq_eq_false_iff_ne.mpr<|fg zd4)]
def zd7(cl:Addr)(w n:Int):(pf cl w n).lookup ("written":Str)=some (V.int n):=by
 simp[pf,ao,(beq_eq_false_iff_ne.mpr<|fg zd5),(beq_eq_false_iff_ne.mpr<|fg zd6)]
def L0(cl:Addr)(w n:Int){m:Str}(h1:¬ m="contents")(h2:¬ m="width")(h3:¬ m="written"):(pf cl w n).lookup m=none:=by
 simp[pf,ao,(beq_eq_false_iff_ne.mpr h1),(beq_eq_false_iff_ne.mpr h2),(beq_eq_false_iff_ne.mpr h3)]
abbrev _root_.qT:=List (List V)
structure PlankAt(a:Ad)(H:Hp)(p cl:Addr)(w:Nat)(rows:qT)(n:Nat):Prop where
 ob:∃ dx,H p=some (.ins (a "Plank") dx (pf cl w n))
 ls:∃ ts:qX,H cl=some (.lst<|ts.map V.ref)/\Paired (λt r=>H t=some (.tup r)) ts rows
 wd:∀ r∈rows,r.length=w
 sz:rows.length<=1000
 sw:w<=1000
def PlankAt.ne(P:PlankAt a H p cl w rows n):p≠cl:=by
 obtain⟨⟨dx,h1⟩,⟨ts,h2,y⟩,y⟩:=P;exact BB h1 h2 (by intro z;cases z)
def PlankAt.same(P:PlankAt a H p cl w rows n)(s:Same H H'):PlankAt a H' p cl w rows n:=by
 obtain⟨⟨dx,e1⟩,⟨ts,e2,e3⟩,r1,r2,r3⟩:=P;exact{{dx,s _ _ e1},{ts,s _ _ e2,Paired.mapP e3 λt r q=>s _ _ q},r1,r2,r3}
local macro_rules
 |`(command|example : ($x:ident) := $t:term)=>do
  let i:=Lean.mkIdent
  `(command|def $x:ident ($(i `K):ident : ι) ($(i `a):ident : Ad) : Sp := fun $(i `vs):ident $(i `H):ident $(i `Q):ident $(i `E):ident => $t)
example:(SN):=∃ (p dx:Addr) (m w:Nat),vs=[.ref p,.int m,.int w]/\DL K a/\H p=some (.ins (a "Plank") dx [])/\m<=1000/\1<=w/\w<=1000 ∧
 ∀ cl H',H cl=none->PlankAt a H' p cl w (bd m<|bd w .non) 0->SameBut (· =p) H H'->Q .non H'
example:(L4):=∃ p cl w rows n,vs=[.ref p]/\DL K a/\PlankAt a H p cl w rows n/\Q (.int rows.length) H
example:(SO):=∃ (p cl:Addr) (w:Nat) (rows:qT) (n:Nat),vs=[.ref p]/\DL K a/\PlankAt a H p cl w rows n/\Q (.int w) H
example:(L5):=∃ (p cl:Addr) (w:Nat) (rows:qT) (n:Nat) (b:Int),vs=[.ref p,.int b]/\DL K a/\PlankAt a H p cl w rows n /\
 (0<=b->b<rows.length->Q .non H)/\(b<0\/rows.length<=b->E (.ref<|a "NoBlock") none H)
example:(K2):=∃ (p cl:Addr) (w:Nat) (rows:qT) (n:Nat) (b:Int),vs=[.ref p,.int b]/\DL K a/\PlankAt a H p cl w rows n /\
 (∀ (i:Nat) row,b=i->rows[i]? =some row->∀ l,H l=none->Q (.ref l) (upd H l<|.lst row))/\(b<0\/rows.length<=b->E (.ref<|a "NoBlock") none H)
example:(O6):=∃ (p cl:Addr) (w:Nat) (rows:qT) (n:Nat) (b:Int) (v:Addr) (xs:Oj),vs=[.ref p,.int b,.ref v]/\DL K a/\PlankAt a H p cl w rows n/\SqL K H v xs/\xs.length<=2000 /\
 (∀ (i:Nat),b=i->i<rows.length->xs.length=w->∀ H',PlankAt a H' p cl w (rows.set i xs) (n+1)->SameBut (λx=>x=p\/x=cl) H H'->Q .non H') /\
 (b<0\/rows.length<=b\/xs.length≠w->E (.ref<|a "NoBlock") none H)
def BM{K:ι}{H:Hp}{p:Addr}{xs:Oj}{i:Int}{n:Nat}{v:V}{Q:VK}(h:H p=some (.tup xs))(hi:i=n)(hx:xs[n]? =some v)(q:Q v H):BX K (.ref p) (.int i) H Q :=
 .inr (.inl (x4 p xs i v {rfl,rfl,SqT.of h,by rw[hi];exact VM hx,q}))
def NB(h:fs≠fs'):HO.ins C dx fs≠HO.ins C' dx' fs':=by
 intro z;injection z with _ _ z
 exact h z
def zd8(xs:Oj)(h:0<=k):FM xs none (some k)=xs.take k.toNat:=by
 unfold FM
 have e:HT.sIx xs.length xs.length (some k)=min k.toNat xs.length:=by
  show(if k<0 then(k+xs.length).toNat else min _ _)=_;rw[if_neg (by lia)]
 rw[HT.sIx_none,Ka,List.take_eq_take_iff]
 lia
def zd9(xs:Oj)(h:0<=k):FM xs (some k) none=xs.drop k.toNat:=by
 unfold FM
 have e:HT.sIx xs.length 0 (some k)=min k.toNat xs.length:=by
  show(if k<0 then(k+xs.length).toNat else min _ _)=_;rw[if_neg (by lia)]
 rw[e];rcases e_ _ _ with z|z
 rw[vm (l8 z),gb (by rw[jn];exact ρ _)];rw[G0 z,List.drop_of_length_le z];simp
def zea{K:ι}{H:Hp}{p:Addr}{xs:Oj}{lo hi:Option Int}{Q:VK}(h:SqL K H p xs)(q:∀ r,H r=none->Q (.ref r) (upd H r<|.lst<|FM xs lo hi)):M4 K (.ref p) lo hi H Q:=.inl<|x2 p xs ⟨rfl,h,q⟩
def SameBut.refl(H:Hp):SameBut F H H:=λz z e z=>e
def SameBut.trans(s:SameBut F H H')(t:SameBut F H' H2):SameBut F H H2:=λb o e n=>t _ _ (s _ _ e n) n
def SameBut.wide(s:SameBut F H H')(i:∀ x,F x->G x):SameBut G H H':=λb o e n=>s _ _ e λz=>n<|i _ z
def Same.sb(s:Same H H'):SameBut F H H':=λb o e z=>s b o e
def SameBut.upd(s:SameBut F H H')(h:F p\/H p=none):SameBut F H (upd H' p o):=λb u e n=>by
 have:b≠p:=by
  rcases h with h|h
  exact λz=>n<|z ▸ h;exact BE e h
 rw[AH this];exact s _ _ e n
structure Ch where
 blk:Nat
 cell:Nat
 val:V
 nd:r8
abbrev _root_.Ox:=List Ch
def L6:Ox->Int->Int->Option Nat
 | [],_,_=>none
 |c::r,i,j=>if(c.blk:Int)=i/\(c.cell:Int)=j then some r.length else L6 r i j
def DQ(cs:Ox)(i j:Int):Option Nat:=L6 cs.reverse i j
def GP:Ox->Nat->Oz
 | [],_=>[]
 |c::r,b=>if c.blk=b then GP r b++[r.length]else GP r b
def C3(cs:Ox)(b:Nat):Oz:=GP cs.reverse b
def XI(cs:Ox)(c:Ch)(i j:Int):DQ (cs++[c]) i j=if(c.blk:Int)=i/\(c.cell:Int)=j then some cs.length else DQ cs i j:=by
 simp[DQ,L6]
def zeb(cs:Ox)(c:Ch)(b:Nat):C3 (cs++[c]) b=if c.blk=b then C3 cs b++[cs.length]else C3 cs b:=by
 simp[C3,GP]
def XJ:∀ {l:Ox} {i j:Int} {k:Nat},L6 l i j=some k->k<l.length
 | [],_,_,_,h=>by cases h
 |c::r,i,j,k,h=>by
  unfold L6 at h;split at h;obtain rfl:=μ h;simp;exact bz<|XJ h
def NC(h:DQ cs i j=some k):k<cs.length:=by
 have:=XJ h
 rwa [gj]at this
def XL:∀ {l:Ox} {b k:Nat},k∈GP l b->k<l.length
 | [],_,_,h=>by cases h
 |c::r,b,k,h=>by
  unfold GP at h;split at h;rcases a_.mp h with h|h
  exact bz<|XL h;rw[aa.mp h];simp;exact bz<|XL h
def SQ(h:k∈C3 cs b):k<cs.length:=by
 have:=XL h
 rwa [gj]at this
def mM:∀ (l:Ox) (b:Nat),(GP l b).length<=l.length
 | [],_=>ρ _
 |c::r,b=>by
  have:=mM r b;unfold GP;split<;>simp<;>omega
def mO(cs:Ox)(b:Nat):(C3 cs b).length<=cs.length:=by
 have:=mM cs.reverse b
 rwa [gj]at this
def GE(pl:Addr)(v:V)(nt:Addr):rP:=[("place",.ref pl),("value",v),("needs",.ref nt)]
def bf(gp m mi lt ou:Addr):rP:=[("ground",.ref gp),("made",.ref m),("made_in",.ref mi),("latest",.ref lt),("outs",.ref ou)]
def DM(a b:Str):Bool:=a==b
section
variable{pl nt gp m mi lt ou:Addr}{v:V}
def A7(h:DM a b=false):(a==b)=false:=h
def mP:(GE pl v nt).lookup ("place":Str)=some (V.ref pl):=by simp[GE]
def mQ:(GE pl v nt).lookup ("value":Str)=some v:=by
 simp[GE,ao,A7 (a:="value") (b:="place") (by decide)]
def mR:(GE pl v nt).lookup ("needs":Str)=some (V.ref nt):=by
 simp[GE,ao,A7 (a:="needs") (b:="place") (by decide),A7 (a:="needs") (b:="value") (by decide)]
def zec(h:DM g f=false):BO f y ((g,x)::r)=(g,x)::BO f y r:=by
 have:¬ g=f:=λe=>by rw[e]at h;simp[DM]at h
 simp[BO,this]
def O7:(bf gp m mi lt ou).lookup ("ground":Str)=some (V.ref gp):=by simp[bf]
def IS:(bf gp m mi lt ou).lookup ("made":Str)=some (V.ref m):=by
 simp[bf,ao,A7 (a:="made") (b:="ground") (by decide)]
def XM:(bf gp m mi lt ou).lookup ("made_in":Str)=some (V.ref mi):=by
 simp[bf,ao,A7 (a:="made_in") (b:="ground") (by decide),A7 (a:="made_in") (b:="made") (by decide)]
def mS:(bf gp m mi lt ou).lookup ("latest":Str)=some (V.ref lt):=by
 simp[bf,ao,A7 (a:="latest") (b:="ground") (by decide),A7 (a:="latest") (b:="made") (by decide),A7 (a:="latest") (b:="made_in") (by decide)]
def O8:(bf gp m mi lt ou).lookup ("outs":Str)=some (V.ref ou):=by
 simp[bf,ao,A7 (a:="outs") (b:="ground") (by decide),A7 (a:="outs") (b:="made") (by decide),A7 (a:="outs") (b:="made_in") (by decide),A7 (a:="outs") (b:="latest") (by decide)]
def C1(h:(DM x "ground" || DM x "made" || DM x "made_in" || DM x "latest" || DM x "outs")=false:=by decide +kernel):(bf gp m mi lt ou).lookup x=none:=by
 simp only[ic]at h;obtain⟨⟨⟨⟨h1,h2⟩,h3⟩,h4⟩,h5⟩:=h;simp[bf,ao,A7 h1,A7 h2,A7 h3,A7 h4,A7 h5]
def zed:BO "outs" (.ref ou) (BO "latest" (.ref lt) (BO "made_in" (.ref mi) (BO "made" (.ref m) (BO "ground" (.ref gp) []))))=bf gp m mi lt ou:=by
 rfl
end
structure mT(K:ι)(C D:Addr):Prop where
 cl:Cls K C
 nG:NoAttr K C "ground"
 nM:NoAttr K C "made"
 nI:NoAttr K C "made_in"
 nL:NoAttr K C "latest"
 nO:NoAttr K C "outs"
 cc:Cls K D
 nP:NoAttr K D "place"
 nV:NoAttr K D "value"
 nN:NoAttr K D "needs"
def ChAt(D:Addr)(H:Hp)(x:Addr)(c:Ch):Prop:=∃ dx pl nt,H x=some (.ins D dx<|GE pl c.val nt)/\H pl=some (.tup [.int c.blk,.int c.cell])/\H nt=some (.tup<|c.nd.map V.int)
structure BA where
 b:Addr
 gp:Addr
 m:Addr
 mi:Addr
 lt:Addr
 ou:Addr
 ls:qX
 cl:Addr
def BA.F(A:BA)(x:Addr):Prop:=x=A.m\/x=A.mi\/x∈A.ls\/x=A.lt\/x=A.ou\/x=A.cl
def KeysOk(DO:rR)(n:Nat):Prop:=(DO.map (·.1)).Nodup/\∀ p∈DO,∃ x:Nat,p.1=ux (x:Int)/\x<n
def KeysOk.mono(h:KeysOk DO n)(hm:n<=m):KeysOk DO m:={h.1,λp hp=>by obtain⟨x,e,hx⟩:=h.2 p hp;exact{x,e,ψ hx hm}}
def KeysOk.len(h:KeysOk DO n):DO.length<=n:=by
 have:=uv  h.1 λk hk=>by
  obtain⟨p,hp,rfl⟩:=av.mp hk;obtain⟨x,e,hx⟩:=h.2 p hp;rw[e];exact av.mpr {x,ai.mpr hx,rfl}
 simpa using this
def KeysOk.put(h:KeysOk DO n)(hk:k<n)(hn:A5 DO (.inl (k:Int))=none)(v:V):KeysOk (B0 DO (.inl (k:Int)) v) n:=by
 refine{Nk v h.1 hn,λp hp=>?_};rw[j4 v hn]at hp;rcases a_.mp hp with hp|hp
 exact h.2 p hp;rw[aa.mp hp];exact⟨k,rfl,hk⟩
structure BookIn(C D:Addr)(H:Hp)(A:BA)(w:Nat)(cs:Ox)(outs:rW):Prop where
 ob:∃ dx,H A.b=some (.ins C dx<|bf A.gp A.m A.mi A.lt A.ou)
 made:∃ chs:qX,H A.m=some (.lst<|chs.map V.ref)/\Paired (ChAt D H) chs cs
 mil:H A.mi=some (.lst<|A.ls.map V.ref)
 mic:∀ (i:Nat) l,A.ls[i]? =some l->H l=some (.lst<|(C3 cs i).map λ(k:Nat)=>V.int k)
 nd:A.ls.Nodup
 lat:∃ kvs,H A.lt=some (.dT kvs)/\(∀ i j:Int,A5 kvs [.inl i,.inl j]=(DQ cs i j).map λ(k:Nat)=>V.int k)/\kvs.length<=cs.length
 out:∃ DO,H A.ou=some (.dK DO)/\(∀ k:Int,(A5 DO<|.inl k).isSome=outs k)/\KeysOk DO cs.length
 sz:cs.length<=990
 inn:∀ c∈cs,c.blk<A.ls.length/\c.cell<w
 need:∀ (k:Nat) c,cs[k]? =some c->(∀ x∈c.nd,0<=x/\x<k)/\c.nd.Pairwise (· <·)/\c.nd.length<=100
 ap:A.m≠A.mi/\A.m∉A.ls/\A.mi∉A.ls/\A.cl≠A.m/\A.cl≠A.mi/\A.cl∉A.ls
 chn:∀ (k:Nat) c,cs[k]? =some c->∀ j,DQ (cs.take k) c.blk c.cell=some j->(j:Int)∈c.nd
structure BookAt(a:Ad)(C:Addr)(H:Hp)(A:BA)(w:Nat)(rows:qT)(n:Nat)(cs:Ox)(outs:rW):Prop where
 bk:BookIn C (a "Change") H A w cs outs
 pk:PlankAt a H A.gp A.cl w rows n
 nb:A.ls.length=rows.length
def EW(o:Option HO):Prop:=(∀ xs,o≠some (.tup xs))/\∀ C dx fs,o≠some (.ins C dx fs)
def ChAt.sb(s:SameBut G H H')(g:∀ x,G x->EW (H x))(h:ChAt D H x c):ChAt D H' x c:=by
 revert h;apply u3;rintro dx pl nt ⟨e1,e2,e3⟩;exact x3 dx pl nt {s _ _ e1 λz=>(g _ z).2 _ _ _ e1,s _ _ e2 λz=>(g _ z).1 _ e2,s _ _ e3 λz=>(g _ z).1 _ e3}
def BookIn.sb(B:BookIn C D H A w cs outs)(s:SameBut G H H')(g:∀ x,G x->EW (H x))(f:∀ x,G x->¬ A.F x):BookIn C D H' A w cs outs:=by
 obtain⟨⟨dx,e1⟩,⟨chs,e2,e3⟩,e4,e5,e6,⟨kvs,e7,e8⟩,⟨DO,e9,e10⟩,r1,r2,r3,r4,r5⟩:=B;refine⟨{dx,s _ _ e1 λz=>(g _ z).2 _ _ _ e1},{_,s _ _ e2 λz=>f _ z<|.inl rfl,Paired.mapP e3 λx c h=>h.sb s g},s _ _ e4 λz=>f _ z<|.inr<|.inl rfl,λi l h=>s _ _ (e5 i l h) λz=>f _ z<|.inr<|.inr<|.inl<|θ h,e6,
  {_,s _ _ e7 λz=>f _ z<|.inr<|.inr<|.inr<|.inl rfl,e8},{_,s _ _ e9 λz=>f _ z<|.inr<|.inr<|.inr<|.inr<|.inl rfl,e10},r1,r2,r3,r4,r5⟩
def PlankAt.sbL(P:PlankAt a H p cl w rows n)(s:SameBut G H H')(g:∀ x,G x->EW (H x))(h:¬ G cl):PlankAt a H' p cl w rows n:=by
 obtain⟨⟨dx,e1⟩,⟨ts,e2,e3⟩,r1,r2,r3⟩:=P;exact{{dx,s _ _ e1 λz=>(g _ z).2 _ _ _ e1},{ts,s _ _ e2 h,Paired.mapP e3 λt r q=>s _ _ q λz=>(g _ z).1 _ q},r1,r2,r3}
def BookAt.sb(B:BookAt a C H A w rows n cs outs)(s:SameBut G H H')(g:∀ x,G x->EW (H x))(f:∀ x,G x->¬ A.F x):BookAt a C H' A w rows n cs outs :=
 {B.bk.sb s g f,B.pk.sbL s g λz=>f _ z<|.inr<|.inr<|.inr<|.inr<|.inr rfl,B.nb}
def BookAt.same(B:BookAt a C H A w rows n cs outs)(s:Same H H'):BookAt a C H' A w rows n cs outs :=
 B.sb (G:=λy=>False) (Same.sb s) (λy z=>z.elim) λy z=>z.elim
def BookAt.off(B:BookAt a C H A w rows n cs outs)(h:H x=none):¬ A.F x:=by
 obtain⟨⟨y,⟨chs,e2,y⟩,e4,e5,y,⟨kvs,e7,y⟩,⟨DO,e9,y⟩,y⟩,⟨y,⟨ts,e11,y⟩,y⟩,y⟩:=B;rintro (z|z|z|z|z|z);rw[z,e2]at h;cases h;rw[z,e4]at h;cases h;obtain⟨i,hi,e⟩:=jj z;rw[(e5 i x (by rw[<-e];exact η hi))]at h;cases h;rw[z,e7]at h;cases h;rw[z,e9]at h;cases h;rw[z,e11]at h;cases h
def O9{α :Type}{l:List α}{x: α}(h:x∈l):∃ i:Nat,l[i]? =some x:=by
 obtain⟨i,hi,e⟩:=jj h;exact{i,by rw[<-e];exact η hi}
def PD{H:Hp}{x:Addr}{xs:Oj}(h:H x=some (.lst xs)):EW (H x):=by
 rw[h];exact{λy z=>(by cases z),λy y y z=>(by cases z)}
def K3{H:Hp}{x:Addr}{xs:rR}(h:H x=some (.dK xs)):EW (H x):=by
 rw[h];exact{λy z=>(by cases z),λy y y z=>(by cases z)}
def zee{H:Hp}{x:Addr}{xs:rC}(h:H x=some (.dT xs)):EW (H x):=by
 rw[h];exact{λy z=>(by cases z),λy y y z=>(by cases z)}
def BookAt.loose{A:BA}{outs:rW}(B:BookAt a C H A w rows n cs outs)(h:A.F x):EW (H x):=by
 obtain⟨⟨y,⟨chs,e2,y⟩,e4,e5,y,⟨kvs,e7,y⟩,⟨DO,e9,y⟩,y⟩,⟨y,⟨ts,e11,y⟩,y⟩,y⟩:=B;rcases h with z|z|z|z|z|z
 exact PD<|z ▸ e2;exact PD<|z ▸ e4;obtain⟨i,e⟩:=O9 z;exact PD<|e5 i x e;exact zee<|z ▸ e7;exact K3<|z ▸ e9;exact PD<|z ▸ e11
structure SR(cs:Ox)(outs:rW)(ns:r8)(R:rW):Prop where
 all:∀ x∈ns,R x=true
 up:∀ (k:Nat) (c:Ch),cs[k]? =some c->outs k=false->R k=true->∀ y∈c.nd,R y=true
 only:∀ x,R x=true->x∈ns\/∃ (k:Nat) (c:Ch),cs[k]? =some c/\outs k=false/\R k=true/\x∈c.nd
def L7(nd:r8)(there:rW):Option Int:=nd.find? λx=> !there x
def zef(h:∀ x∈nd,there x=true):L7 nd there=none:=ju.mpr λx hx=>by rw[h x hx];exact aw
structure Pass where
 out:Oz
 held:List (Nat × Int)
 gone:Int->Bool
def C4(cs:Ox)(outs:rW)(s:Pass)(k:Nat):Pass :=
 if outs k||s.gone k then s else
  match (cs[k]?).bind λc=>L7 c.nd λx=>outs x||s.gone x with
  |none=>{s.out++[k],s.held,λx=>s.gone x||x ==(k:Int)}
  |some l=>{s.out,s.held++[(k,l)],s.gone}
def outcome(cs:Ox)(outs taken:rW)(b:Nat):Pass:=(C3 cs b).foldl (C4 cs outs) {[],[],taken}
def HA(cs:Ox)(outs:rW)(r:Oj)(k:Nat):Oj :=
 if outs k then match cs[k]? with
  |some c=>r.set c.cell c.val
  |none=>r
 else r
def EM(cs:Ox)(outs:rW)(b:Nat)(row:Oj):Oj:=(C3 cs b).foldl (HA cs outs) row
def C7(cs:Ox)(outs:rW)(b:Nat):Int->Bool:=λx=>outs x||(outcome cs outs (λ_=>false) b).out.any λ(k:Nat)=>x ==(k:Int)
def zeg(r:Oj)(k:Nat):(HA cs outs r k).length=r.length:=by
 unfold HA;split;split;rw[jw]
 rfl
 rfl
def XN:∀ (l:Oz) (r:Oj),(l.foldl (HA cs outs) r).length=r.length
 | [],r=>rfl
 |k::l,r=>by rw[fj,XN l,zeg]
def mU:(EM cs outs b row).length=row.length:=XN _ _
def mV:∀ (l:Oz) (s:Pass),(l.foldl (C4 cs outs) s).out.length+(l.foldl (C4 cs outs) s).held.length<=s.out.length+s.held.length+l.length
 | [],s=>by simp
 |k::l,s=>by
  rw[fj]
  have h2:(C4 cs outs s k).out.length+(C4 cs outs s k).held.length<=s.out.length+s.held.length+1:=by
   unfold C4;split;exact jc _;split<;>simp<;>omega
  have h:=mV (cs:=cs) (outs:=outs) l (C4 cs outs s k);simp only[cv]
  lia
def mW{α β :Type}(f: β -> α -> β)(b: β){l:List α}{i:Nat}{x: α}(h:l[i]? =some x):(l.take<|i+1).foldl f b=f ((l.take i).foldl f b) x:=by
 obtain⟨hi,e⟩:=ε.mp h;rw[<-e,<-ki hi,ka]
 rfl
def mX(b:Nat):∀ l:Ox,GP l b=(ξ l.length).filter λ(k:Nat)=>(l.reverse[k]?).any λc=>c.blk == b
 | []=>rfl
 |c::r=>by
  have e:(ξ r.length).filter (λk=>((c::r).reverse[k]?).any λc=>c.blk==b)=GP r b:=by
   rw[(mX b r)];refine ud λk hk=>?_;rw[oa,ba (by rw[gj];exact ai.mp hk)]
  have e2:(c::r).reverse[r.length]? =some c:=by
   simp
  rw[cv,bt,mn,e]
  show(if c.blk=b then GP r b++[r.length]else GP r b)=_;by_cases h:c.blk=b;simp[h];simp[h]
def mY(cs:Ox)(b:Nat):C3 cs b=(ξ cs.length).filter λ(k:Nat)=>(cs[k]?).any λc=>c.blk==b:=by
 have:=mX b cs.reverse;rw[vd,gj]at this;exact this
def zeh(cs:Ox)(b:Nat):(C3 cs b).Pairwise (· <·):=by
 rw[mY];exact il.filter _
def SS:k∈C3 cs b↔∃ c,cs[k]? =some c/\c.blk=b:=by
 rw[mY,dn,ai];constructor;rintro ⟨h,h2⟩;rw[η h]at h2 ⊢;exact{_,rfl,by simpa using h2};rintro ⟨c,e,rfl⟩;exact{(ε.mp e).1,by rw[e];simp}
def mZ(s:Pass)(k:Nat):C4 cs outs s k=s\/(outs k=false/\C4 cs outs s k={s.out++[k],s.held,λx=>s.gone x||x ==(k:Int)})\/∃ l,C4 cs outs s k={s.out,s.held++[(k,l)],s.gone}:=by
 unfold C4;split;exact .inl rfl;rename_i hc;simp only[vk,not_or,G_]at hc;split;exact .inr<|.inl ⟨hc.1,rfl⟩;exact .inr<|.inr ⟨_,rfl⟩
def ST:∀ (l:Oz) (s:Pass),∃ l',(l.foldl (C4 cs outs) s).out=s.out++l'/\l'.Sublist l/\(∀ k∈l',outs k=false)/\∀ x,(l.foldl (C4 cs outs) s).gone x=(s.gone x||l'.any λ(k:Nat)=>x ==(k:Int))
 | [],s=>{[],by simp,.slnil,by simp,by simp}
 |k::l,s=>by
  rw[fj];obtain⟨l',h1,h2,h3,h4⟩:=ST   l (C4 cs _ s k);rcases mZ   s k with e|⟨ho,e⟩|⟨l0,e⟩
  rw[e]at h1 h4 ⊢;exact{l',h1,h2.cons _,h3,h4};rw[e]at h1 h4 ⊢;refine{_,by rw[h1];simp,h2.cons_cons _,λx hx=>?_,λx=>(by rw[h4,nj,kq])};rcases ax.mp hx with rfl|hx
  exact ho;exact h3 x hx;rw[e]at h1 h4 ⊢;exact{l',h1,h2.cons _,h3,h4}
def SU:(outcome cs outs (λ_=>false) b).out.Pairwise (· <·)/\(∀ k∈(outcome cs outs (λ_=>false) b).out,outs k=false/\k∈C3 cs b)/\∀ x,(outcome cs outs (λ_=>false) b).gone x=(outcome cs outs (λ_=>false) b).out.any λ(k:Nat)=>x ==(k:Int):=by
 obtain⟨l',h1,h2,h3,h4⟩:=ST   _ _
 have e:(outcome cs outs (λz=>false) b).out=l':=by unfold outcome;rw[h1];rfl
 rw[e];exact{(zeh cs b).sublist h2,λk hk=>{h3 k hk,h2.subset hk},λx=>by unfold outcome;rw[h4];simp}
def m7(H:Hp)(t ol hl:Addr)(out:Oz)(held:List (Nat × Int)):Prop:=H t=some (.tup [.ref ol,.ref hl])/\H ol=some (.lst<|out.map λ(k:Nat)=>V.int k)/\∃ hs:qX,H hl=some (.lst<|hs.map V.ref)/\Paired (λx (p:Nat × Int)=>H x=some (.tup [.int p.1,.int p.2])) hs held
def XO(cs:Ox)(r:Oj)(k:Nat):Oj:=match cs[k]? with
 |some c=>r.set c.cell c.val
 |none=>r
def SV(cs:Ox)(ks:Oz)(row:Oj):Oj:=ks.foldl (XO cs) row
def zei(cs:Ox)(O:rW)(b:Nat)(row:Oj):EM cs O b row=SV cs ((C3 cs b).filter λ(k:Nat)=>O k) row:=by
 unfold EM SV;rw[List.foldl_filter]
 rfl
def IT(cs:Ox):Oz->Nat->Option Ch
 | [],_=>none
 |k::r,j=>match IT cs r j with
  |some c=>some c
  |none=>(cs[k]?).filter λc=>c.cell==j
def XQ(cs:Ox)(k:Nat)(r:Oz)(j:Nat):IT cs (k::r) j=match IT cs r j with
  |some c=>some c
  |none=>(cs[k]?).filter λc=>c.cell==j:=rfl
def m8(cs:Ox)(j:Nat):∀ (ks:Oz) (row:Oj),(SV cs ks row)[j]? =(row[j]?).map λv=>((IT cs ks j).map (·.val)).getD v
 | [],row=>by
  show row[j]? =_;cases row[j]? <;>rfl
 | k::r,row=>by
  show(SV cs r _)[j]? =_;rw[m8 cs j r,XQ];cases h:IT cs r j with
  |some c =>
   unfold XO;cases e:cs[k]? with
   |none=>rfl
   |some c0 =>
    rw[Et];by_cases hj:c0.cell=j;subst hj;rw[if_pos rfl];by_cases hl:c0.cell<row.length;rw[if_pos hl,η hl];rfl;rw[if_neg hl,bq<|ck hl];rw[if_neg hj]
  |none =>
   unfold XO;cases e:cs[k]? with
   |none=>rfl
   |some c0 =>
    rw[Et];by_cases hj:c0.cell=j;subst hj;rw[if_pos rfl];by_cases hl:c0.cell<row.length;rw[if_pos hl,η hl];simp[Ba];rw[if_neg hl,bq<|ck hl];rfl;rw[if_neg hj]
    have:(Ba (λc=>c.cell==j) (some c0))=none:=by simp[hj]
    rw[this]
def m9:∀ {ks:Oz},IT cs ks j=some c->∃ k∈ks,cs[k]? =some c/\c.cell=j/\(ks.Pairwise (· <·)->∀ k'∈ks,k<k'->∀ c',cs[k']? =some c'->c'.cell≠j)
 | [],h=>by cases h
 | k::r,h=>by
  rw[XQ]at h;cases e:IT cs r j with
  |some c1 =>
   rw[e]at h;cases h;obtain⟨k1,h1,h2,h3,h4⟩:=m9 e;refine{k1,υ _ h1,h2,h3,λhp k' hk' AY c' ec=>?_};obtain⟨p1,p2⟩:=mj.mp hp;rcases ax.mp hk' with rfl|hk'
   have:=p1 k1 h1;lia;exact h4 p2 k' hk' AY c' ec
  | none =>
   rw[e]at h;cases ec:cs[k]? with
   |none=>rw[ec]at h;cases h
   |some c0 =>
    rw[ec]at h
    have hc:c0.cell=j/\c0=c:=by
     simp only[Ba]at h;split at h;rename_i hh;obtain rfl:=μ h;exact{by simpa using hh,rfl};cases h
    obtain⟨hc,rfl⟩:=hc;refine{k,ω ..,ec,hc,λhp k' hk' AY c' ec'=>?_};rcases ax.mp hk' with rfl|hk'
    lia
    exact lastAt_no e k' hk' c' ec'
where
 lastAt_no {cs:Ox} {j:Nat}:∀ {ks:List _},IT cs ks j=none->∀ k∈ks,∀ c,cs[k]? =some c->c.cell≠j
  | [],_,k,hk=>by cases hk
  |k0::r,h,k,hk=>λc ec hj=>by
   rw[XQ]at h;cases e:IT cs r j with
   |some c1=>rw[e]at h;cases h
   |none =>
    rw[e]at h;rcases ax.mp hk with rfl|hk
    rw[ec]at h;simp[hj]at h;exact lastAt_no e k hk c ec hj
def nB:∀ {l:Ox} {k:Nat} {c:Ch},l.reverse[k]? =some c->(c.blk:Int)=i->(c.cell:Int)=j->∃ j0 c0,L6 l i j=some j0/\k<=j0/\l.reverse[j0]? =some c0/\(c0.blk:Int)=i/\(c0.cell:Int)=j
 | [],k,c,h,_,_=>by simp at h
 |c1::r,k,c,h,h1,h2=>by
  have hk:=(ε.mp h).1;rw[gj]at hk;unfold L6;by_cases hp:c1.blk=i/\c1.cell=j;rw[if_pos hp];refine x2 _ c1 {rfl,fe hk,?_,hp};simp;rw[if_neg hp]
  have AY:k<r.length:=by
   rcases e_ k _ with z|z
   exact z;exfalso
   have  :=jx (fe hk) z;subst this;simp at h;subst h;exact hp ⟨h1,h2⟩
  rw[oa,ba (by rw[gj];exact AY)]at h;refine u2 ?_<|nB h h1 h2;rintro j0 c0 ⟨e1,e2,e3,e4⟩;refine x2 j0 c0 {e1,e2,?_,e4};rw[oa,ba (by rw[gj];exact(XJ e1))];exact e3
def zej(h:cs[k]? =some c):∃ j0 c0,DQ cs c.blk c.cell=some j0/\k<=j0/\cs[j0]? =some c0/\c0.blk=c.blk/\c0.cell=c.cell:=by
 refine u2 ?_ (nB    (by rw[vd];exact h) rfl rfl);rintro j0 c0 ⟨e1,e2,e3,e4,e5⟩;rw[vd]at e3;exact x2 j0 c0 {e1,e2,e3,cg e4,cg e5}
def SW(cs:Ox)(outs:rW):Prop:=∀ (k:Nat) (c:Ch),cs[k]? =some c->outs k=true->∀ y∈c.nd,outs y=true
def zek(s:Pass)(k:Nat)(h:(C4 cs outs s k).out=s.out++[k]):∀ c,cs[k]? =some c->∀ y∈c.nd,(outs y||s.gone y)=true:=λc ec y hy=>by
 unfold C4 at h;split at h;exact absurd h (by intro z;have:=congrArg lu z;simp at this);rw[ec]at h;split at h;rename_i hn
 have:=ju.mp hn y hy;cases e:(outs y||s.gone y)with
 |true=>rfl
 |false =>
  have this:¬ (!(outs y||s.gone y))=true:=this;rw[e]at this;exact absurd rfl this
 exact absurd h (by intro z;have:=congrArg lu z;simp at this)
def nD:∀ (l:Oz) (s:Pass),(∀ k∈s.out,∀ c,cs[k]? =some c->∀ y∈c.nd,(outs y||s.gone y)=true)->∀ k∈(l.foldl (C4 cs outs) s).out,∀ c,cs[k]? =some c->∀ y∈c.nd,(outs y||(l.foldl (C4 cs outs) s).gone y)=true
 | [],s,h=>h
 |k::l,s,h=>by
  refine nD l _ ?_;rcases mZ   s k with e|⟨ho,e⟩|⟨l0,e⟩
  rw[e];exact h;rw[e];intro k' hk' c ec y hy;rcases a_.mp hk' with hk'|hk'
  rw[<-kq,(h k' hk' c ec y hy),pe];rw[aa.mp hk']at ec;rw[<-kq,((zek   s k (by rw[e])) c ec y hy),pe];rw[e];exact h
def zel(cut:SW cs outs)(b:Nat):SW cs (C7 cs outs b):=λk c ec ho y hy=>by
 obtain⟨z,z,hg⟩:=SU;unfold C7 at ho ⊢;rw[vk]at ho;rcases ho with ho|ho
 rw[cut k c ec ho y hy,pe];obtain⟨k',hk',e⟩:=c_.mp ho
 have e:(k:Int)=k':=by simpa using e
 have e:=cg e;subst e;rw[<-hg y];exact(nD   _ _ (by simp) k hk' c ec y hy)
def zem{cs:Ox}{outs:rW}{b k:Nat}:C7 cs outs b k=true↔outs k=true\/k∈(outcome cs outs (λ_=>false) b).out:=by
 unfold C7;rw[vk,c_];constructor;rintro (h|⟨k',hk',e⟩);exact .inl h;exact .inr ((cg (by simpa using e)) ▸ hk');rintro (h|h);exact .inl h;exact .inr {k,h,by simp}
def SY{outs tk:rW}:∀ (l:Oz) (s s':Pass),s.out=s'.out->s.held=s'.held->(∀ x,s.gone x=(tk x||s'.gone x))->(l.foldl (C4 cs outs) s).out=(l.foldl (C4 cs λx=>outs x||tk x) s').out
 | [],s,s',h,_,_=>h
 |k::l,s,s',h1,h2,h3=>by
  rw[fj,fj]
  have ef:(λx=>outs x||s.gone x)=λx=>(outs x||tk x)||s'.gone x:=by funext x;rw[h3,kq]
  have e0:=congrFun ef k;obtain⟨o',h',g'⟩:=s';simp only at h1 h2 h3 ef e0;subst h1 h2;unfold C4;simp only[e0,ef];split;exact SY l _ _ rfl rfl h3;split;exact SY l _ _ rfl rfl λx=>by simp only[h3,kq]
  exact SY l _ _ rfl rfl h3
def zen{outs tk:rW}:(outcome cs outs tk b).out=(outcome cs (λx=>outs x||tk x) (λ_=>false) b).out:=SY _ _ _ rfl rfl λx=>by simp
def zeo{cs:Ox}{outs:rW}{k:Nat}{c:Ch}(ec:cs[k]? =some c)(ho:outs k=false)(hn:∀ x∈c.nd,outs x=true):C7 cs outs c.blk k=true:=by
 obtain⟨l1,l2,e⟩:=List.append_of_mem<|SS.mpr ⟨c,ec,rfl⟩;rw[zem];refine .inr ?_;unfold outcome;obtain⟨l',h1,_,_,h4⟩:=ST   l1 _;rw[e,ka,fj];generalize yo (C4 cs _) _ l1=s at h1 h4
 have st:k∈(C4 cs outs s k).out:=by
  unfold C4;split;rename_i h;rw[ho,h4]at h;obtain⟨y,hy,e⟩:∃ y,y∈l'/\k=(y:Int):=by simpa using h
  rw[h1]
  have:y=k:=by lia
  exact bv _<|this ▸ hy;rw[ec,Ha,zef λx hx=>by rw[hn x hx,pe]];simp
 obtain⟨l'',h5,_⟩:=ST   l2 _;rw[h5];exact ja _ st
inductive HB(cs:Ox):(Int->Bool)->Oz->Oz->Prop
 |nil {outs:rW}:HB cs outs [] []
 |cons {outs:rW} {k:Nat} {r row:Oz} {c:Ch} (e:cs[k]? =some c) (h:HB cs (C7 cs outs c.blk) ((k::r).filter λ(x:Nat)=> !C7 cs outs c.blk x) row):HB cs outs (k::r) (c.blk::row)
abbrev FR(n:Nat)(outs R:rW):Oz:=((ξ n).filter λ(k:Nat)=> !outs k).filter λ(k:Nat)=>R k
def SZ(h:outs x=true):C7 cs outs b x=true:=by unfold C7;rw[h,pe]
def zep(cs:Ox)(n:Nat)(outs R:rW)(b:Nat):(FR n outs R).filter (λ(x:Nat)=> !C7 cs outs b x)=FR n (C7 cs outs b) R:=by
 simp only[Bu];refine ud λx z=>?_;cases h:outs x with
 |true=>rw[SZ h];simp
 |false=>cases R x<;>simp
def zeq(n:Nat)(outs R:rW):(FR n outs R).Pairwise (· <·):=(il.filter _).filter _
def PJ:k∈FR n outs R↔k<n/\outs k=false/\R k=true:=by
 simp only[dn,ai];constructor;rintro ⟨⟨h1,h2⟩,h3⟩;exact{h1,by simpa using h2,h3};rintro ⟨h1,h2,h3⟩;exact{{h1,by rw[h2];rfl},h3}
def zer{cs:Ox}{outs R:rW}{k:Nat}{r:Oz}{c:Ch}(hn:∀ (k:Nat) (c:Ch),cs[k]? =some c->∀ x∈c.nd,0<=x/\x<k)(up:∀ (k:Nat) (c:Ch),cs[k]? =some c->outs k=false->R k=true->∀ y∈c.nd,R y=true)(e:FR cs.length outs R=k::r)(ec:cs[k]? =some c):C7 cs outs c.blk k=true:=by
 have hk:=PJ.mp (show k∈FR _ _ R by rw[e];exact ω ..);refine zeo ec hk.2.1 λx hx=>?_;obtain⟨h1,h2⟩:=hn k c ec x hx;cases ho:outs x with
 |true=>rfl
 |false =>
  obtain⟨y,rfl⟩:∃ y:Nat,x=y:={x.toNat,by lia}
  have rise:=zeq cs.length outs R
  have hy:y∈FR cs.length _ R:=PJ.mpr {by omega,ho,up k c ec hk.2.1 hk.2.2 y hx};rw[e]at hy rise;rcases ax.mp hy with h|h
  omega
  have:=(mj.mp rise).1 y h;omega
def zes{l:Oz}{p:YY}(h:k∈l)(hp:p k=false):(l.filter p).length<l.length:=(List.length_filter_lt_length_iff_exists  ).mpr {k,h,by rw[hp];exact aw}
structure DU(K:ι)(a:Ad):Prop where
 cl:Cls K (a "Layout")
 n1:NoAttr K (a "Layout") "name_blocks"
 n2:NoAttr K (a "Layout") "record_blocks"
 n3:NoAttr K (a "Layout") "piece_blocks"
 n4:NoAttr K (a "Layout") "width"
section
variable{n r c w:Int}
def lf(n r c w:Int):rP:=[("name_blocks",.int n),("record_blocks",.int r),("piece_blocks",.int c),("width",.int w)]
def S0:(lf n r c w).lookup ("name_blocks":Str)=some (V.int n):=by simp[lf]
def PK:(lf n r c w).lookup ("record_blocks":Str)=some (V.int r):=by
 simp[lf,ao,A7 (a:="record_blocks") (b:="name_blocks") (by decide)]
def XR:(lf n r c w).lookup ("piece_blocks":Str)=some (V.int c):=by
 simp[lf,ao,A7 (a:="piece_blocks") (b:="name_blocks") (by decide),A7 (a:="piece_blocks") (b:="record_blocks") (by decide)]
def ND:(lf n r c w).lookup ("width":Str)=some (V.int w):=by
 simp[lf,ao,A7 (a:="width") (b:="name_blocks") (by decide),A7 (a:="width") (b:="record_blocks") (by decide),A7 (a:="width") (b:="piece_blocks") (by decide)]
def BY(h:(DM x "name_blocks" || DM x "record_blocks" || DM x "piece_blocks" || DM x "width")=false:=by decide +kernel):(lf n r c w).lookup x=none:=by
 simp only[ic]at h;obtain⟨⟨⟨h1,h2⟩,h3⟩,h4⟩:=h;simp[lf,ao,A7 h1,A7 h2,A7 h3,A7 h4]
end
structure LayAt(a:Ad)(H:Hp)(p:Addr)(n r c w:Nat):Prop where
 ob:∃ dx,H p=some (.ins (a "Layout") dx (lf n r c w))
 hn:n<=100
 hr:r<=100
 hc:c<=100
 h1:1<=w
 hw:w<=100
def LayAt.same(L:LayAt a H p n r c w)(s:Same H H'):LayAt a H' p n r c w:=by
 obtain⟨⟨dx,e⟩,z1,z2,z3,z4,z5⟩:=L;exact{{dx,s _ _ e},z1,z2,z3,z4,z5}
def LayAt.sb(L:LayAt a H p n r c w)(s:SameBut F H H')(f:¬ F p):LayAt a H' p n r c w:=by
 obtain⟨⟨dx,e⟩,z1,z2,z3,z4,z5⟩:=L;exact{{dx,s _ _ e f},z1,z2,z3,z4,z5}
example:(S5):=∃ (p dx:Addr) (n r c w:Nat),vs=[.ref p,.int n,.int r,.int c,.int w]/\DU K a/\H p=some (.ins (a "Layout") dx [])/\n<=100/\r<=100/\c<=100/\1<=w/\w<=100 ∧
 ∀ H',LayAt a H' p n r c w->SameBut (· =p) H H'->Q .non H'
def GQ(x y:Int)(Q:VK)(H:Hp):Prop:=∀ t,H t=none->Q (.ref t) (upd H t<|.tup [.int x,.int y])
example:(K4):=∃ (p:Addr) (n r c w k:Nat) (b:Int),vs=[.ref p,.int b,.int k]/\DU K a/\LayAt a H p n r c w/\GQ (b+k/w) (k%w) Q H
example:(IU):=∃ (p:Addr) (n r c w k:Nat),vs=[.ref p,.int k]/\DU K a/\LayAt a H p n r c w/\GQ (0+k/w) (k%w) Q H
example:(GR):=∃ (p:Addr) (n r c w k:Nat),vs=[.ref p,.int k]/\DU K a/\LayAt a H p n r c w/\GQ (n+k/w) (k%w) Q H
example:(K5):=∃ (p:Addr) (n r c w k:Nat),vs=[.ref p,.int k]/\DU K a/\LayAt a H p n r c w/\GQ (n+r+k/w) (k%w) Q H
example:(IV):=∃ (p:Addr) (n r c w k:Nat),vs=[.ref p,.int k]/\DU K a/\LayAt a H p n r c w/\GQ (n+r+c+k/w) (k%w) Q H
example:(IW):=∃ (p:Addr) (n r c w k:Nat),vs=[.ref p,.int k]/\DU K a/\LayAt a H p n r c w/\GQ (n+r+c+r+k/w) (k%w) Q H
example:(NE):=∃ (p:Addr) (n r c w:Nat),vs=[.ref p]/\DU K a/\LayAt a H p n r c w/\Q (.int<|n+r+c) H
example:(S6):=∃ (p:Addr) (n r c w:Nat),vs=[.ref p]/\DU K a/\LayAt a H p n r c w/\Q (.int<|n+r+c+r+c) H
example:(K6):=∃ (p:Addr) (n r c w:Nat),vs=[.ref p]/\DU K a/\LayAt a H p n r c w/\∀ t,H t=none->Q (.ref t) (upd H t<|.tup [.int (n*w),.int<|r*w,.int<|c*w])
example:(S7):=∃ (p:Addr) (n r c w:Nat),vs=[.ref p]/\DU K a/\DL K a/\LayAt a H p n r c w /\
 ∀ x cl H',H x=none->H cl=none->PlankAt a H' x cl w (bd (n+r+c+r+c) (bd w .non)) 0->Same H H'->Q (.ref x) H'
inductive CV where
 |no
 |nm (z:Str) (k:Nat)
 |mk (i:Nat)
 |rc (m:Nat) (ps:Oz)
 |tx (z:Str)
abbrev Md:=Nat->Nat->CV
def Md.put(M:Md)(kind k:Nat)(x:CV):Md:=λi j=>if i=kind/\j=k then x else M i j
structure AC where
 kind:Nat
 k:Nat
 x:CV
 nd:Oz
def sh(M0:Md)(C:YY):List AC->Md
 | []=>M0
 |a::r=>if C r.length then(sh M0 C r).put a.kind a.k a.x else sh M0 C r
abbrev hnd(M0:Md)(as:List AC):Md:=sh M0 (λ_=>true) as
def GS(kind k:Nat):List AC->Option Nat
 | []=>none
 |a::r=>if a.kind=kind/\a.k=k then some r.length else GS kind k r
def EX(C:YY):List AC->Prop
 | []=>True
 |a::r=>EX C r/\(C r.length=true->(∀ y∈a.nd,C y=true)/\∀ j,GS a.kind a.k r=some j->C j=true)
section
variable{M0 S:Md}{C:YY}{as:List AC}{kind k m0:Nat}{x:CV}
def CL:S.put kind k x kind k=x:=if_pos ⟨rfl,rfl⟩
def K7(h:i≠kind):S.put kind k x i j=S i j:=if_neg λz=>h z.1
def DD(h:j≠k):S.put kind k x i j=S i j:=if_neg λz=>h z.2
def PL(h:∀ j,GS kind k as=some j->C j=true):sh M0 C as kind k=hnd M0 as kind k:=by
 induction as with
 |nil=>rfl
 |cons a r ih =>
  unfold GS at h;simp only[sh,if_true];by_cases e:a.kind=kind/\a.k=k;rw[if_pos e]at h;obtain⟨rfl,rfl⟩:=e;rw[h _ rfl];simp only[if_true];rw[CL,CL];rw[if_neg e]at h
  have:=ih h
  have e':¬ (kind=a.kind/\k=a.k):=λz=>e ⟨z.1.symm,z.2.symm⟩;unfold Md.put;rw[if_neg e'];by_cases c:C r.length=true;rw[if_pos c,if_neg e'];exact this;rw[if_neg c];exact this
def zet(h:EX C (a::as)):EX C as:=h.1
def J3(h:EX C (a::as))(c:C as.length=true):sh M0 C as a.kind a.k=hnd M0 as a.kind a.k:=PL (h.2 c).2
def HX:hnd M0 (a::as)=(hnd M0 as).put a.kind a.k a.x:=rfl
def CS(c:C as.length=true):sh M0 C (a::as)=(sh M0 C as).put a.kind a.k a.x:=if_pos c
def D4(c:¬ C as.length=true):sh M0 C (a::as)=sh M0 C as:=if_neg c
def FG:CV->Nat->Bool
 |.nm _ r',r=>r'==r
 |_,_=>false
def ld(m0:Nat)(S:Md)(r:Nat):Nat:=(ξ m0).countP λk=>FG (S 0 k) r
def zeu(h:kind≠0):ld m0 (S.put kind k x) r=ld m0 S r:=by
 unfold ld
 congr 1
 funext j;rw[K7 h.symm]
def S8:∀ {m0:Nat},k<m0->ld m0 (S.put 0 k x) r+(if FG (S 0 k) r then 1 else 0)=ld m0 S r+(if FG x r then 1 else 0):=by
 intro m0;unfold ld
 induction m0 with
 |zero=>intro h;exact nZ h
 |succ n ih =>
  rw[bt,tf,tf];simp only[yh,Ik];by_cases e:k=n;subst e
  have:(ξ k).countP (λj=>FG ((S.put 0 k x) 0 j) r)=(ξ k).countP (λj=>FG _ r):=Eu λj hj=>by
   rw[DD (bg<|ai.mp hj)]
  rw[CL]
  lia
  rw[DD (λz=>e z.symm)]
  lia
structure Snd(m0:Nat)(S:Md):Prop where
 nl:∀ k z r,k<m0->S 0 k=.nm z r->∃ m ps,S 3 r=.rc m ps
 ct:∀ r m ps,S 3 r=.rc m ps->ld m0 S r<=m
 mr:∀ r m ps,S 3 r=.rc m ps->S 1 r=.mk 1
 nd:∀ r m ps,S 3 r=.rc m ps->ps.Nodup
 pm:∀ r m ps,S 3 r=.rc m ps->∀ p∈ps,S 2 p=.mk 1/\∃ t,S 4 p=.tx t
 dj:∀ r r' m m' ps ps',r≠r'->S 3 r=.rc m ps->S 3 r'=.rc m' ps'->∀ p∈ps,p∉ps'
 un:∀ k k' z r r',k<m0->k'<m0->S 0 k=.nm z r->S 0 k'=.nm z r'->k=k'
def Snd.rmark(I:Snd m0 S)(h:i=1\/∀ m ps,S 3 r≠.rc m ps):Snd m0 (S.put 1 r<|.mk i):=by
 refine{I.nl,λr' m ps e=>I.ct r' m ps e,λr' m ps e=>?_,I.nd,I.pm,I.dj,I.un};by_cases z:r'=r;subst z;rw[CL];rcases h with h|h
 rw[h];exact absurd e<|h m ps;rw[DD z];exact I.mr r' m ps e
def Snd.pmark(I:Snd m0 S)(h:i=1\/∀ r m ps,S 3 r=.rc m ps->p∉ps):Snd m0 (S.put 2 p<|.mk i):=by
 refine{I.nl,λr' m ps e=>I.ct r' m ps e,I.mr,I.nd,λr' m ps e q hq=>{?_,(I.pm r' m ps e q hq).2},I.dj,I.un};by_cases z:q=p;subst z;rw[CL];rcases h with h|h
 rw[h];exact absurd hq<|h r' m ps e;rw[DD z];exact(I.pm r' m ps e q hq).1
def Snd.text(I:Snd m0 S):Snd m0 (S.put 4 p<|.tx t):=by
 refine{I.nl,λr' m ps e=>I.ct r' m ps e,I.mr,I.nd,λr' m ps e q hq=>{(I.pm r' m ps e q hq).1,?_},I.dj,I.un};by_cases z:q=p;subst z;exact⟨t,CL⟩;rw[DD z];exact(I.pm r' m ps e q hq).2
def Snd.gone(I:Snd m0 S)(hk:k<m0):Snd m0 (S.put 0 k .no):=by
 have at':∀ {j z r},(S.put 0 k .no) 0 j=.nm z r->S 0 j=.nm z r:=λ{j z r} e=>by
  by_cases h:j=k;subst h;rw[CL]at e;cases e;rw[DD h]at e;exact e
 refine{λj z r hj e=>I.nl j z r hj<|at' e,λr m ps e=>?_,I.mr,I.nd,I.pm,I.dj,λj j' z r r' h h' e e'=>I.un j j' z r r' h h' (at' e) (at' e')}
 have l:=S8 (S:=S) (x:=.no) (r:=r) hk
 have c:=I.ct r m ps e;rw[show FG .no r=false from rfl]at l;simp only[wq]at l
 lia
def Snd.fill(I:Snd m0 S)(hk:k<m0)(h3:S 3 r=.rc m ps)(hl:ld m0 S r+1<=m)(hz:∀ j r',j<m0->S 0 j≠.nm z r')(h0:∀ z r,S 0 k≠.nm z r):Snd m0 (S.put 0 k<|.nm z r):=by
 have at':∀ {j y q},(S.put 0 k<|.nm z r) 0 j=.nm y q->(j=k/\y=z/\q=r)\/(j≠k/\S 0 j=.nm y q):=λ{j y q} e=>by
  by_cases h:j=k;subst h;rw[CL]at e;cases e;exact .inl ⟨rfl,rfl,rfl⟩;rw[DD h]at e;exact .inr ⟨h,e⟩
 refine{λj y q hj e=>?_,λq m' ps' e=>?_,I.mr,I.nd,I.pm,I.dj,λj j' y q q' h h' e e'=>?_};rcases at' e with⟨_,_,rfl⟩|⟨_,e⟩
 exact x2 m ps h3;exact I.nl j y q hj e
 have l:=S8 (S:=S) (x:=.nm z r) (r:=q) hk
 have e:S 3 q=.rc m' _:=e;simp only[FG]at l;by_cases z:r=q;subst z;rw[e]at h3;cases h3;simp at l;exact l ▸ hl;simp[z]at l;exact l ▸ (I.ct q m' _ e);rcases at' e with⟨e1,e2,_⟩|⟨e1,e2⟩<;>rcases at' e' with⟨f1,f2,_⟩|⟨f1,f2⟩
 rw[e1,f1];subst e2;exact absurd f2<|hz _ _ h';subst f2;exact absurd e2<|hz _ _ h;exact I.un j j' y q q' h h' e2 f2
def Snd.recd(I:Snd m0 S)(hl:ld m0 S r<=m')(hm:S 1 r=.mk 1)(hn:ps'.Nodup)(hp:∀ p∈ps',(S 2 p=.mk 1/\∃ t,S 4 p=.tx t)/\∀ q m ps,q≠r->S 3 q=.rc m ps->p∉ps):Snd m0 (S.put 3 r<|.rc m' ps'):=by
 have at':∀ {q m ps},(S.put 3 r<|.rc m' ps') 3 q=.rc m ps->(q=r/\m=m'/\ps=ps')\/(q≠r/\S 3 q=.rc m ps):=λ{q m ps} e=>by
  by_cases h:q=r;subst h;rw[CL]at e;cases e;exact .inl ⟨rfl,rfl,rfl⟩;rw[DD h]at e;exact .inr ⟨h,e⟩
 refine{λj z q hj e=>?_,λq m ps e=>?_,λq m ps e=>?_,λq m ps e=>?_,λq m ps e p h=>?_,λq q' m m1 ps ps1 ne e e' p h=>?_,I.un};by_cases h:q=r;subst h;exact x2 m' _ CL;rw[DD h];exact I.nl j z q hj e;rcases at' e with⟨rfl,rfl,_⟩|⟨_,e⟩
 exact hl;exact I.ct q m ps e;rcases at' e with⟨rfl,_,_⟩|⟨_,e⟩
 exact hm;exact I.mr q m ps e;rcases at' e with⟨_,_,rfl⟩|⟨_,e⟩
 exact hn;exact I.nd q m ps e;rcases at' e with⟨_,_,rfl⟩|⟨_,e⟩
 exact(hp p h).1;exact I.pm q m ps e p h;rcases at' e with⟨e1,_,rfl⟩|⟨e1,e2⟩<;>rcases at' e' with⟨f1,_,rfl⟩|⟨f1,f2⟩
 exact absurd (e1.trans f1.symm) ne;exact(hp p h).2 q' m1 _ (λz=>ne<|e1.trans z.symm) f2;exact λz=>(hp p z).2 q m ps (λy=>ne<|y.trans f1.symm) e2 h;exact I.dj q q' m m1 ps _ ne e2 f2 p h
def Snd.count(I:Snd m0 S)(h3:S 3 r=.rc m ps)(hl:ld m0 S r<=m'):Snd m0 (S.put 3 r<|.rc m' ps) :=
 I.recd hl (I.mr r m ps h3) (I.nd r m ps h3) λp hp=>{I.pm r m ps h3 p hp,λq m1 ps1 ne e=>I.dj r q m m1 ps _ ne.symm h3 e p hp}
def Snd.less(I:Snd m0 S)(h3:S 3 r=.rc m ps)(hs:ps'.Sublist ps):Snd m0 (S.put 3 r<|.rc m ps') :=
 I.recd (I.ct r m ps h3) (I.mr r m ps h3) ((I.nd r m ps h3).sublist hs) λp hp=>{I.pm r m ps h3 p<|hs.subset hp,λq m1 ps1 ne e=>I.dj r q m m1 ps _ ne.symm h3 e p<|hs.subset hp}
def Snd.more(I:Snd m0 S)(h3:S 3 r=.rc m ps)(h2:S 2 p=.mk 1)(h4:S 4 p=.tx t)(hu:∀ q m ps,S 3 q=.rc m ps->p∉ps):Snd m0 (S.put 3 r<|.rc m<|ps++[p]):=by
 refine I.recd (I.ct r m ps h3) (I.mr r m ps h3) (n_.mpr {I.nd r m ps h3,by simp,λx hx y hy e=>?_}) λy hy=>?_;rw[aa]at hy;subst hy e;exact hu r m ps h3 hx;rcases a_.mp hy with hy|hy
 exact{I.pm r m ps h3 y hy,λq m1 ps1 ne e=>I.dj r q m m1 ps _ ne.symm h3 e y hy};rw[aa.mp hy];exact{⟨h2,t,h4⟩,λq m1 ps1 z e=>hu q m1 _ e}
def Snd.drop(I:Snd m0 S)(hl:ld m0 S r=0):Snd m0 (S.put 3 r .no):=by
 have at':∀ {q m ps},(S.put 3 r .no) 3 q=.rc m ps->S 3 q=.rc m ps:=λ{q m ps} e=>by
  by_cases h:q=r;subst h;rw[CL]at e;cases e;rw[DD h]at e;exact e
 refine{λj z q hj e=>?_,λq m ps e=>(I.ct q m ps<|at' e),λq m ps e=>I.mr q m ps<|at' e,λq m ps e=>I.nd q m ps<|at' e,λq m ps e=>I.pm q m ps<|at' e,λq q' m m1 ps ps1 ne e e'=>I.dj q q' m m1 ps _ ne (at' e) (at' e'),I.un};by_cases h:q=r;subst h
 have:0<ld m0 S q:=qx.mpr {j,ai.mpr hj,by have e:S 0 j=.nm z q:=e;simp[e,FG]};exact absurd (hl ▸ this) (by decide);rw[DD h];exact I.nl j z q hj e
structure Hist(m0:Nat)(M0:Md)(as:List AC)(t o:Str->Option Nat):Prop where
 sd:∀ C,EX C as->Snd m0 (sh M0 C as)
 k1:∀ z k r,k<m0->hnd M0 as 0 k=.nm z r->GS 0 k as=o z
 k2:∀ z,(∀ k r,k<m0->hnd M0 as 0 k≠.nm z r)->t z=o z
 k3:∀ C z,EX C as->(∀ j,o z=some j->C j=true)->∀ k r,k<m0->(sh M0 C as 0 k=.nm z r↔hnd M0 as 0 k=.nm z r)
def S9:∀ as:List AC,EX (λ_=>true) as
 | []=>trivial
 |_::r=>{S9 r,λ_=>{λ_ _=>rfl,λ_ _=>rfl}}
variable{t o:Str->Option Nat}
def Hist.now(I:Hist m0 M0 as t o):Snd m0 (hnd M0 as):=I.sd _<|S9 as
def Hist.step(I:Hist m0 M0 as t o)(ha:a.kind≠0)(h:∀ C,EX C (a::as)->C as.length=true->Snd m0 ((sh M0 C as).put a.kind a.k a.x)):Hist m0 M0 (a::as) t o:=by
 have s0:∀ (C:YY) (k:Nat),sh M0 C _ 0 k=sh M0 C as 0 k:=λC k=>by
  by_cases c:C as.length=true;rw[CS c,K7 ha.symm];rw[D4 c]
 have s1:∀ k:Nat,hnd M0 _ 0 k=hnd M0 as 0 k:=s0 _;refine{λC hC=>?_,λz k r hk e=>?_,λz e=>I.k2 z λk r hk=>by rw[<-s1];exact e k r hk,λC z hC ho k r hk=>?_};by_cases c:C as.length=true;rw[CS c];exact h C hC c;rw[D4 c];exact I.sd C hC.1;rw[s1]at e;unfold GS;rw[if_neg λz=>ha z.1];exact I.k1 z k r hk e;rw[s0,s1];exact I.k3 C z hC.1 ho k r hk
def EC(f:Str->Option Nat)(z:Str)(j:Nat):Str->Option Nat:=λy=>if y=z then some j else f y
def Hist.fill(I:Hist m0 M0 as t o)(hk:k<m0)(h0:hnd M0 as 0 k=.no)(hz:∀ j r,j<m0->hnd M0 as 0 j≠.nm z r)(ht:∀ j,t z=some j->j∈nd)
  (h:∀ C,EX C ({0,k,.nm z r,nd}::as)->C as.length=true->∃ m ps,sh M0 C as 3 r=.rc m ps/\ld m0 (sh M0 C as) r+1<=m):Hist m0 M0 ({0,k,.nm z r,nd}::as) t (EC o z as.length):=by
 have hnk:∀ {j y q},j<m0->hnd M0 as 0 j=.nm y q->j≠k/\y≠z:=λ{j y q} hj e=>{λe'=>(by rw[e',h0]at e;cases e),λe'=>hz j q hj<|e' ▸ e}
 have free:∀ C,EX C ({0,k,.nm z r,nd}::as)->C _=true->sh M0 C as 0 k=.no/\∀ j q,j<m0->sh M0 C as 0 j≠.nm z q:=λC hC c=>{by rw[J3  hC c];exact h0,λj q hj e=>(hz j q hj ((I.k3 C z hC.1 (λi ei=>(hC.2 c).1 i (ht i (by rw[(I.k2 z hz),ei]))) j q hj).mp e))}
 refine{λC hC=>?_,λy j q hj e=>?_,λy e=>?_,λC y hC ho j q hj=>?_};by_cases c:C as.length=true;refine u2 ?_<|h C hC c;rintro m ps ⟨h3,hl⟩;obtain⟨f1,f2⟩:=free C hC c;rw[CS c];exact(I.sd C hC.1).fill hk h3 hl f2 λz r e=>by rw[f1]at e;cases e
 rw[D4 c];exact I.sd C hC.1;rw[HX]at e;unfold GS;by_cases z':j=k;subst z';rw[CL]at e;cases e;rw[if_pos ⟨rfl,rfl⟩];exact(if_pos rfl).symm;rw[DD z']at e;rw[if_neg λw=>z' w.2.symm];unfold EC;rw[if_neg (hnk hj e).2];exact I.k1 y j q hj e
 have ny:y≠z:=λw=>by
  subst w;exact e k r hk (by rw[HX,CL])
 unfold EC;rw[if_neg ny];refine I.k2 y λj q hj e'=>e j q hj ?_;rw[HX,DD (hnk hj e').1];exact e';rw[HX];by_cases c:C as.length=true;obtain⟨f1,f2⟩:=free C hC c;rw[CS c];by_cases z':j=k;subst z';rw[CL,CL];rw[DD z',DD z'];by_cases w:y=z;subst w;exact{λe=>absurd e<|f2 j q hj,λe=>absurd e<|hz j q hj};unfold EC at ho;rw[if_neg w]at ho;exact I.k3 C y hC.1 ho j q hj;rw[D4 c];unfold EC at ho;by_cases w:y=z;subst w;rw[if_pos rfl]at ho;exact absurd (ho _ rfl) c;rw[if_neg w]at ho
 have k3:=I.k3 C y hC.1 ho j q hj;by_cases z':j=k;subst z';rw[CL];refine{λe=>?_,λe=>absurd (by cases e;rfl) w}
 have:=k3.mp e;rw[h0]at this;cases this;rw[DD z'];exact k3
def Hist.gone(I:Hist m0 M0 as t o)(hk:k<m0)(h0:hnd M0 as 0 k=.nm z r):Hist m0 M0 ({0,k,.no,nd}::as) (EC t z as.length) (EC o z as.length):=by
 have un:=I.now.un
 have only:=λ{j q} hj e=>un j k z q r hj hk e h0;refine{λC hC=>?_,λy j q hj e=>?_,λy e=>?_,λC y hC ho j q hj=>?_};by_cases c:C as.length=true;rw[CS c];exact(I.sd C hC.1).gone hk;rw[D4 c];exact I.sd C hC.1;rw[HX]at e;by_cases z':j=k;subst z';rw[CL]at e;cases e;rw[DD z']at e;unfold GS EC;rw[if_neg λw=>z' w.2.symm,if_neg λw=>z'<|only hj (w ▸ e)];exact I.k1 y j q hj e;unfold EC;by_cases w:y=z;rw[if_pos w,if_pos w];rw[if_neg w,if_neg w];refine I.k2 y λj q hj e'=>e j q hj ?_
 have:j≠k:=λz'=>by rw[z',h0]at e';cases e';exact w rfl
 rw[HX,DD this];exact e';rw[HX];unfold EC at ho;by_cases c:C as.length=true;rw[CS c];by_cases z':j=k;subst z';rw[CL,CL];rw[DD z',DD z'];by_cases w:y=z;subst w;exact{λe=>absurd ((I.sd C hC.1).un j k y q r hj hk e (by rw[J3  hC c];exact h0)) z',λe=>absurd (only hj e) z'};rw[if_neg w]at ho;exact I.k3 C y hC.1 ho j q hj;rw[D4 c];by_cases w:y=z;subst w;rw[if_pos rfl]at ho;exact absurd (ho _ rfl) c;rw[if_neg w]at ho
 have k3:=I.k3 C y hC.1 ho j q hj;by_cases z':j=k;subst z';rw[CL];refine{λe=>?_,λe=>by cases e}
 have:=k3.mp e;rw[h0]at this;cases this;exact absurd rfl w;rw[DD z'];exact k3
def Snd.ld0(I:Snd m0 S)(h:∀ m ps,S 3 r≠.rc m ps):ld m0 S r=0:=by
 refine List.countP_eq_zero.mpr λk hk e=>?_;cases e0:S 0 k with
 |nm z q =>
  simp only[e0,FG,beq_iff_eq]at e;subst e;refine u2 ?_<|I.nl k z q (ai.mp hk) e0;rintro m ps e;exact h m ps e
 |_=>simp[e0,FG]at e
def Hist.make(I:Hist m0 M0 as t o)(hk:k<m0)(h0:hnd M0 as 0 k=.no)(hz:∀ j r,j<m0->hnd M0 as 0 j≠.nm z r)(h1:hnd M0 as 1 r≠.mk 1)(hn:as.length+1∈nd)(ht:∀ j,t z=some j->j∈nd) :
  Hist m0 M0 ({0,k,.nm z r,nd}::{3,r,.rc 1 [],[as.length]}::{1,r,.mk 1,[]}::as) t (EC o z<|as.length+2):=by
 have I1:=I.step (a:={1,r,_,[]}) (by simp) λC hC y=>(I.sd C hC.1).rmark (.inl rfl)
 have no:∀ C,EX C ({3,r,.rc 1 [],[as.length]}::{1,r,_,[]}::as)->C _=true->ld m0 _ r=0:=λC hC c=>by
  refine(I1.sd C hC.1).ld0 λm ps e=>?_;rw[J3  hC c]at e;exact h1<|I.now.mr r m ps e
 have I2:=I1.step (a:={3,r,_,_}) (by simp) λC hC c=>by
  refine(I1.sd C hC.1).recd (by rw[no C hC c];decide) ?_ jr (by simp);rw[CS ((hC.2 c).1 _ (by simp)),CL]
 refine I2.fill hk (h0) (λj q hj=>hz j q hj) ht λC hC c=>?_
 have cL:=(hC.2 c).1 _ hn;refine x2 1 [] {by rw[CS cL,CL],?_};rw[CS cL,zeu (by simp),no C hC.1 cL];exact ρ 1
def Hist.link(I:Hist m0 M0 as t o)(hk:k<m0)(h0:hnd M0 as 0 k=.no)(hz:∀ j r,j<m0->hnd M0 as 0 j≠.nm z r)(h3:hnd M0 as 3 r=.rc m ps)(hn:as.length∈nd)(ht:∀ j,t z=some j->j∈nd) :
  Hist m0 M0 ({0,k,.nm z r,nd}::{3,r,.rc (m+1) ps,[]}::as) t (EC o z<|as.length+1):=by
 have a3:∀ C,EX C ({3,r,.rc (m+1) ps,[]}::as)->C _=true->sh M0 C as 3 r=.rc m ps:=λC hC c=>by
  rw[J3  hC c];exact h3
 refine(I.step  (by simp) λC hC c=>(I.sd C hC.1).count (a3 C hC c) (bz<|(I.sd C hC.1).ct r m ps (a3 C hC c))).fill hk (h0) (λj q hj=>hz j q hj) ht λC hC c=>?_
 have cL:=(hC.2 c).1 _ hn;refine x2 _ ps {by rw[CS cL,CL],?_};rw[CS cL];exact Go<|(I.sd C hC.1.1).ct r m ps (a3 C hC.1 cL)
def Hist.fewer(I:Hist m0 M0 as t o)(hk:k<m0)(h0:hnd M0 as 0 k=.nm z r)(h3:hnd M0 as 3 r=.rc m ps)(hb:b.kind=3/\b.k=r/\as.length∈b.nd)(hC:EX C (b::{0,k,.no,nd}::as))(c:C (as.length+1)=true) :
  sh M0 C ({0,k,.no,nd}::as) 3 r=.rc m ps/\ld m0 (sh M0 C ({0,k,.no,nd}::as)) r+1<=m/\sh M0 C as 3 r=.rc m ps:=by
 obtain⟨b1,b2,b3⟩:=hb
 have cL:=(hC.2 c).1 _ b3
 have e3:sh M0 C ({0,k,.no,nd}::as) 3 r=.rc m ps:=by
  have:=J3 (M0:=M0) hC c;rw[b1,b2]at this;rw[this];exact h3
 have f3:sh M0 C as 3 r=.rc m ps:=by
  rw[CS cL]at e3;exact e3
 have f0:sh M0 C as 0 k=.nm z r:=by rw[J3  hC.1 cL];exact h0
 have l:=S8 (S:=sh M0 C as) (x:=.no) (r:=r) hk;refine{e3,?_,f3};rw[f0,show FG _ r=true from by simp[FG]]at l
 have e:ld m0 (sh M0 C ({0,k,.no,nd}::as)) r=ld m0 ((sh M0 C as).put 0 k .no) r:=by rw[CS cL]
 exact e ▸ l ▸ ((I.sd C hC.1.1).ct r m ps f3)
def Hist.unlead(I:Hist m0 M0 as t o)(hk:k<m0)(h0:hnd M0 as 0 k=.nm z r)(h3:hnd M0 as 3 r=.rc (m+1) ps) :
  Hist m0 M0 ({3,r,.rc m ps,[as.length]}::{0,k,.no,nd}::as) (EC t z as.length) (EC o z as.length):=by
 have I1:=I.gone (nd:=nd) hk h0;exact I1.step  (by simp) λC hC c=>by
  obtain⟨e1,e2,y⟩:=I.fewer hk h0 h3 {rfl,rfl,by simp} hC c;exact(I1.sd C hC.1).count e1 (yv e2)
def Hist.unmark:∀ {ps:Oz} {bs:List AC},Hist m0 M0 bs t o->(∀ C,EX C bs->C d=true->∀ q m ps',sh M0 C bs 3 q=.rc m ps'->∀ p∈ps,p∉ps')->Hist m0 M0 ((ps.map λp=>({2,p,.mk 0,[d]}:AC)).reverse++bs) t o
 | [],bs,I,_=>I
 | p::ps,bs,I,h=>by
  have:=Hist.unmark  (I.step (a:={2,p,.mk 0,[d]}) (by simp) λC hC c=>(I.sd C hC.1).pmark (.inr λr m ps' e=>h C hC.1 ((hC.2 c).1 d (by simp)) r m _ e p ω)) λC hC cd q m ps' e p' hp'=>by
   have e':sh M0 C bs 3 q=.rc m ps':=by
    by_cases c:C bs.length=true;rw[CS c]at e;exact e;rw[D4 c]at e;exact e
   exact h C hC.1 cd q m _ e' p'<|υ _ hp'
  rw[dk,oa,gr];exact this
def zev(h:∀ a∈cs,a.kind≠i):sh M0 C (cs++as) i j=sh M0 C as i j:=by
 induction cs with
 |nil=>rfl
 |cons a r ih =>
  have ih:=ih λb hb=>h b<|υ _ hb;rw[ul];by_cases c:C (r++as).length=true;rw[CS c,K7 (h a ω).symm];exact ih;rw[D4 c];exact ih
def Hist.dropped(I:Hist m0 M0 as t o)(hk:k<m0)(h0:hnd M0 as 0 k=.nm z r)(h3:hnd M0 as 3 r=.rc m ps)(hm:m<=1) :
  Hist m0 M0 ({1,r,.mk 0,[as.length+1]}::((ps.map λp=>({2,p,.mk 0,[as.length+1]}:AC)).reverse++{3,r,.no,[as.length]}::{0,k,.no,nd}::as)) (EC t z as.length) (EC o z as.length):=by
 have I1:=I.gone (nd:=nd) hk h0
 have I2:=I1.step (a:={3,r,_,[as.length]}) (by simp) λC hC c=>by
  obtain⟨e1,e2,x⟩:=I.fewer hk h0 h3 {rfl,rfl,by simp} hC c;exact(I1.sd C hC.1).drop (Nat.le_zero.mp<|yv<|ψ e2 hm)
 have I3:=Hist.unmark   I2 λC hC cd q m' ps' e p hp=>by
  obtain⟨x,x,f3⟩:=I.fewer hk h0 h3 {rfl,rfl,by simp} hC cd;rw[CS cd]at e;by_cases z:q=r;subst z;rw[CL]at e;cases e;rw[DD z,CS ((hC.2 cd).1 _ (by simp))]at e;exact(I.sd C hC.1.1).dj r q m m' ps _ (λy=>z y.symm) f3 e p hp
 refine I3.step  (by simp) λC hC c=>(I3.sd C hC.1).rmark (.inr λm' ps' e=>?_);rw[zev (λa ha=>by
  obtain⟨p,x,rfl⟩:=av.mp<|He.mp ha;simp),CS ((hC.2 c).1 _ (by simp)),CL]at e
 cases e
def Hist.put(I:Hist m0 M0 as t o){r m p:Nat}{ps:Oz}{x:Str}(h2:hnd M0 as 2 p≠.mk 1)(h3:hnd M0 as 3 r=.rc m ps) :
  Hist m0 M0 ({3,r,.rc m<|ps++[p],[as.length+1]}::{4,p,.tx x,[as.length]}::{2,p,.mk 1,[]}::as) t o:=by
 have I1:=I.step (a:={2,p,_,[]}) (by simp) λC hC z=>(I.sd C hC.1).pmark (.inl rfl)
 have I2:=I1.step (a:={4,p,.tx x,[as.length]}) (by simp) λC hC z=>(I1.sd C hC.1).text;refine I2.step  (by simp) λC hC c=>?_
 have c1:C (as.length+1)=true:=(hC.2 c).1 _ (by simp)
 have c0:C as.length=true:=(hC.1.2 c1).1 _ (by simp);refine(I2.sd C hC.1).more  ?_ ?_ (by rw[CS c1,CL]) λq m' ps' e hp=>?_;rw[J3  hC c];exact h3;rw[CS c1,K7 (by simp),CS c0,CL];rw[CS c1,CS c0]at e
 have:=((I.sd C hC.1.1.1).pm q m' _ e p hp).1;rw[J3  hC.1.1 c0]at this;exact h2 this
def Hist.take(I:Hist m0 M0 as t o)(h3:hnd M0 as 3 r=.rc m ps)(hi:ps[i]? =some p) :
  Hist m0 M0 ({2,p,.mk 0,[as.length]}::{3,r,.rc m<|ps.eraseIdx i,[]}::as) t o:=by
 have a3:∀ C,EX C ({3,r,.rc m<|ps.eraseIdx i,[]}::as)->C _=true->sh M0 C as 3 r=.rc m ps:=λC hC c=>by
  rw[J3  hC c];exact h3
 have I1:=I.step  (by simp) λC hC c=>(I.sd C hC.1).less (a3 C hC c) (List.eraseIdx_sublist ..);refine I1.step  (by simp) λC hC c=>(I1.sd C hC.1).pmark (.inr λq m' ps' e=>?_)
 have c0:C as.length=true:=(hC.2 c).1 _ (by simp)
 have e3:=a3 C hC.1 c0;rw[CS c0]at e;by_cases z:q=r;subst z;rw[CL]at e;cases e;exact λh=>by
  obtain⟨j,hj,ej⟩:=List.mem_eraseIdx_iff_getElem?.mp h;exact hj ((List.getElem?_inj ((ε.mp hi).1) ((I.sd C hC.1.1).nd q m ps e3)).mp (hi.trans ej.symm)).symm
 rw[DD z]at e;exact(I.sd C hC.1.1).dj r q m m' ps _ (λy=>z y.symm) e3 e p (θ hi)
end
abbrev HC(a:Ad):Addr:=a "Hold"
def TC(ns:r8)(k:Nat):Int:=ns.getD k 0
example:(TD):=∃ (s:Addr) (ns:r8) (k:Nat),vs=[.ref s,.int k]/\SqL K H s (ns.map V.int)/\ns.length<=1000/\Q (.int<|TC ns k) H
abbrev TB(K:ι)(a:Ad):Prop:=mT K (HC a) (a "Change")
abbrev DR(a:Ad)(H:Hp)(A:BA)(w:Nat)(rows:qT)(n:Nat)(cs:Ox)(outs:rW):Prop:=BookAt a (HC a) H A w rows n cs outs
def TF:Option Nat->V
 |none=>.non
 |some k=>.int k
def FH(n:Nat)(outs:rW):Oz:=(ξ n).filter λ(k:Nat)=> !outs k
def AQ(l:Oz):Oj:=l.map λ(k:Nat)=>V.int k
abbrev onPl(rows:qT)(w:Nat)(i j:Int):Prop:=0<=i/\i<rows.length/\0<=j/\j<w
example:(TJ):=∃ x dx pl v nt,vs=[.ref x,.ref pl,v,.ref nt]/\TB K a/\H x=some (.ins (a "Change") dx [])/\Q .non (upd H x<|.ins (a "Change") dx (GE pl v nt))
example:(PN):=∃ (b gp cl dx:Addr) (w:Nat) (rows:qT) (n:Nat),vs=[.ref b,.ref gp]/\TB K a/\DL K a/\PlankAt a H gp cl w rows n/\H b=some (.ins (HC a) dx []) /\
 ∀ (m mi lt ou:Addr) (ls:qX) (H':Hp),H m=none->H mi=none->H lt=none->H ou=none->(∀ l∈ls,H l=none)->DR a H' ⟨b,gp,m,mi,lt,ou,ls,cl⟩ w rows n [] (λ_=>false)->SameBut (· =b) H H'->Q .non H'
example:(TK):=∃ (nl:Addr) (ns:r8) (o:Option Nat),vs=[.ref nl,TF o]/\SqL K H nl (ns.map V.int)/\ns.length<=60 /\
 ∀ (t:Addr) (ks:r8) (H':Hp),Same H H'->H' t=some (.tup<|ks.map V.int)->ks.Pairwise (· <·)->(∀ x,x∈ks↔x∈ns\/∃ k:Nat,o=some k/\x=k)->ks.length<=ns.length+1->Q (.ref t) H'
example:(TM):=∃ (A:BA) (w:Nat) (rows:qT) (n:Nat) (cs:Ox) (outs:rW) (pl:Addr) (i j:Int),vs=[.ref A.b,.ref pl]/\TB K a/\DL K a/\DR a H A w rows n cs outs/\H pl=some (.tup [.int i,.int j]) /\
 (onPl rows w i j->Q .non H)/\(¬ onPl rows w i j->E (.ref<|a "NoBlock") none H)
example:(NF):=∃ (A:BA) (w:Nat) (rows:qT) (n:Nat) (cs:Ox) (outs:rW) (pl:Addr) (i j:Int),vs=[.ref A.b,.ref pl]/\TB K a/\DL K a/\DR a H A w rows n cs outs/\H pl=some (.tup [.int i,.int j]) /\
 (onPl rows w i j->Q (TF<|DQ cs i j) H)/\(¬ onPl rows w i j->E (.ref<|a "NoBlock") none H)
abbrev known(cs:Ox)(x:Int):Prop:=0<=x/\x<cs.length
example:(PQ):=∃ (A:BA) (w:Nat) (rows:qT) (n:Nat) (cs:Ox) (outs:rW) (nl:Addr) (ns:r8),vs=[.ref A.b,.ref nl]/\TB K a/\DR a H A w rows n cs outs/\SqL K H nl (ns.map V.int) /\
 ((∀ x∈ns,known cs x)->Q .non H)/\((∃ x∈ns,¬ known cs x)->E (.ref<|a "NoChange") none H)
example:(FS):=∃ (A:BA) (w:Nat) (rows:qT) (n:Nat) (cs:Ox) (outs:rW) (pl nl:Addr) (v:V) (ns:r8) (i j:Int),vs=[.ref A.b,.ref pl,v,.ref nl]/\TB K a/\DL K a/\DR a H A w rows n cs outs/\H pl=some (.tup [.int i,.int j])/\SqL K H nl (ns.map V.int)/\ns.length<=60/\cs.length<990 /\
 (onPl rows w i j->(∀ x∈ns,known cs x)->∀ (nd:r8) (H':Hp),nd.Pairwise (· <·)->(∀ x,x∈nd↔x∈ns\/∃ k:Nat,DQ cs i j=some k/\x=k)->DR a H' A w rows n (cs++[⟨i.toNat,j.toNat,v,nd⟩]) outs->SameBut A.F H H'->Q (.int cs.length) H') /\
 (¬ onPl rows w i j->E (.ref<|a "NoBlock") none H)/\(onPl rows w i j->(∃ x∈ns,¬ known cs x)->E (.ref<|a "NoChange") none H)
example:(NG):=∃ (A:BA) (w:Nat) (rows:qT) (n:Nat) (cs:Ox) (outs:rW),vs=[.ref A.b]/\TB K a/\DR a H A w rows n cs outs /\
 ∀ (l:Addr) (H':Hp),H l=none->Same H H'->H' l=some (.lst<|AQ<|FH cs.length outs)->Q (.ref l) H'
example:(TN):=∃ (A:BA) (w:Nat) (rows:qT) (n:Nat) (cs:Ox) (outs:rW) (nl:Addr) (ns:r8),vs=[.ref A.b,.ref nl]/\TB K a/\DR a H A w rows n cs outs/\SqL K H nl (ns.map V.int)/\ns.length<=1000 /\
  ((∀ x∈ns,known cs x)->∀ (l:Addr) (H':Hp) (R:rW),(∀ x∈ns,R x=true)->(∀ (k:Nat) (c:Ch),cs[k]? =some c->outs k=false->R k=true->∀ y∈c.nd,R y=true)->(∀ x,R x=true->x∈ns\/∃ (k:Nat) (c:Ch),cs[k]? =some c/\outs k=false/\R k=true/\x∈c.nd) ->
    H l=none->Same H H'->H' l=some (.lst<|AQ<|(FH cs.length outs).filter λ(k:Nat)=>R k)->Q (.ref l) H') /\
  ((∃ x∈ns,¬ known cs x)->E (.ref<|a "NoChange") none H)
def ED(cs:Ox)(rows:qT)(i j:Int):Option V:=match DQ cs i j with
 |some k=>(cs[k]?).map (·.val)
 |none=>(rows[i.toNat]?).bind λr=>r[j.toNat]?
example:(L8):=∃ (A:BA) (w:Nat) (rows:qT) (n:Nat) (cs:Ox) (outs:rW) (pl:Addr) (i j:Int),vs=[.ref A.b,.ref pl]/\TB K a/\DL K a/\DR a H A w rows n cs outs/\H pl=some (.tup [.int i,.int j]) /\
 (onPl rows w i j->∀ (v:V) (H':Hp),ED cs rows i j=some v->Same H H'->Q v H')/\(¬ onPl rows w i j->E (.ref<|a "NoBlock") none H)
def XS:Option Int->V
 |none=>.non
 |some k=>.int k
abbrev BU(kvs:rR)(x:Int):Bool:=(A5 kvs<|.inl x).isSome
example:(TQ):=∃ (A:BA) (w:Nat) (rows:qT) (n:Nat) (cs:Ox) (outs:rW) (k:Nat) (c:Ch) (g:Addr) (kvg:rR),vs=[.ref A.b,.int k,.ref g]/\TB K a/\DR a H A w rows n cs outs/\cs[k]? =some c/\H g=some (.dK kvg) /\
 Q (XS (L7 c.nd λx=>outs x||BU kvg x)) H
example:(PR):=∃ (A:BA) (w:Nat) (rows:qT) (n:Nat) (cs:Ox) (outs:rW) (b:Nat) (tk:Addr) (kvt:rR),vs=[.ref A.b,.int b,.ref tk]/\TB K a/\DR a H A w rows n cs outs/\b<rows.length/\H tk=some (.dK kvt)/\kvt.length<=1000 /\
 ∀ (t ol hl:Addr) (H':Hp),H ol=none->H hl=none->ol≠hl->Same H H'->m7 H' t ol hl (outcome cs outs (BU kvt) b).out (outcome cs outs (BU kvt) b).held->Q (.ref t) H'
example:(TR):=∃ (A:BA) (w:Nat) (rows:qT) (n:Nat) (cs:Ox) (outs:rW) (b:Nat) (vl:Addr) (row:Oj),vs=[.ref A.b,.ref vl,.int b]/\TB K a/\DR a H A w rows n cs outs/\b<rows.length/\H vl=some (.lst row)/\row.length=w /\
 ∀ (l:Addr) (H':Hp),H l=none->Same H H'->H' l=some (.lst<|EM cs outs b row)->Q (.ref l) H'
example:(TU):=∃ (A:BA) (w:Nat) (rows:qT) (n:Nat) (cs:Ox) (outs:rW) (b:Int),vs=[.ref A.b,.int b]/\TB K a/\DL K a/\DR a H A w rows n cs outs /\
 (∀ (b':Nat) (row:Oj) (t ol hl:Addr) (H':Hp),b=b'->rows[b']? =some row->H ol=none->H hl=none->ol≠hl->m7 H' t ol hl (outcome cs outs (λ_=>false) b').out (outcome cs outs (λ_=>false) b').held ->
  DR a H' A w (rows.set b'<|EM cs (C7 cs outs b') b' row) (n+1) cs (C7 cs outs b')->SameBut (λx=>A.F x\/x=A.gp) H H'->Q (.ref t) H') /\
 (b<0\/rows.length<=b->E (.ref<|a "NoBlock") none H)
example:(XT):=∃ (A:BA) (w:Nat) (rows:qT) (n:Nat) (cs:Ox) (outs:rW) (k:Nat) (c:Ch),vs=[.ref A.b,.int k]/\TB K a/\DR a H A w rows n cs outs/\cs[k]? =some c/\Q (.int c.blk) H
example:(XU):=∃ (A:BA) (w:Nat) (rows:qT) (n:Nat) (cs:Ox) (outs:rW) (nl:Addr) (ns:r8),vs=[.ref A.b,.ref nl]/\TB K a/\DR a H A w rows n cs outs/\SqL K H nl (ns.map V.int)/\ns.length<=1000 /\
 ((∀ x∈ns,known cs x)->∀ (l:Addr) (row:Oz) (R:rW) (H':Hp),SR cs outs ns R->HB cs outs (FR cs.length outs R) row->row.length<=cs.length->H l=none->Same H H'->H' l=some (.lst<|AQ row)->Q (.ref l) H') /\
 ((∃ x∈ns,¬ known cs x)->∀ H',Same H H'->E (.ref<|a "NoChange") none H')
def GoodV:Nat->Hp->V->Prop
 |0,_,_=>False
 |_+1,_,.int _=>True
 |_+1,_,.non=>True
 |_+1,_,.str z=>ce z=true
 |n+1,H,.ref p=>∃ xs,H p=some (.tup xs)/\xs.length<=100/\∀ v∈xs,GoodV n H v
 |_,_,_=>False
def TX(v:V):Prop:=v=.non\/∃ i,v=.int i
def BG(n r c w kind k:Nat):Nat:=(if kind=0 then 0 else if kind=1 then n+r+c else if kind=2 then n+r+c+r else if kind=3 then n else n+r)+k/w
def BH(n r c w kind:Nat):Nat:=(if kind=0 then n else if kind=1 then r else if kind=2 then c else if kind=3 then r else c)*w
def K8(kind:Nat)(v:V):Bool:=decide (v=.non)||(decide (0<kind)&&decide (v=.int 0))
def EE(f:YY)(m:Nat):Int:=match (ξ m).find? f with
 |some k=>k
 |none=> -1
def PU(H:Hp)(rows:qT):Prop:=∀ r∈rows,∀ v∈r,GoodV 4 H v
def goodH(H:Hp)(cs:Ox)(rows:qT):Prop:=PU H rows/\∀ c∈cs,GoodV 4 H c.val
def L9(cs:Ox)(rows:qT)(n r c w kind:Nat)(k:Nat):Bool:=match ED cs rows (BG n r c w kind k:Nat) (k%w:Nat)with
 |some v=>K8 kind v
 |none=>false
example:(MA):=∃ (A:BA) (w:Nat) (rows:qT) (n:Nat) (cs:Ox) (outs:rW) (pl vl:Addr) (ts:qX) (xs:Oj) (f:YY) (m:Nat),vs=[.ref A.b,.ref pl,.ref vl]/\TB K a/\DL K a/\DR a H A w rows n cs outs/\H pl=some (.lst<|ts.map V.ref)/\ts.length=m/\m<=1000/\H vl=some (.tup xs)/\(∀ z∈xs,TX z) /\
 (∀ k t,ts[k]? =some t->∃ i j v,H t=some (.tup [.int i,.int j])/\onPl rows w i j/\ED cs rows i j=some v/\GoodV 4 H v/\f k=decide (v∈xs)) /\
 (∀ k:Nat,EE f m=k->∀ H',Same H H'->Q (.int k) H')/\(EE f m= -1->∀ H',Same H H'->E (.ref<|a "NoRoom") none H')
def TY(kind:Nat)(K:ι)(a:Ad)(p b:Addr)(H:Hp)(Q:VK)(E:XK):Prop:=∃ (A:BA) (n r c w:Nat) (rows:qT) (nn:Nat) (cs:Ox) (outs:rW),b=A.b/\TB K a/\DL K a/\DU K a/\LayAt a H p n r c w/\n<=6/\r<=6/\c<=6/\w<=6/\DR a H A w rows nn cs outs/\rows.length=n+r+c+r+c/\(∀ i j v,ED cs rows i j=some v->GoodV 4 H v) /\
 (∀ k:Nat,EE (L9 cs rows n r c w kind) (BH n r c w kind)=k->∀ H',Same H H'->Q (.int k) H')/\(EE (L9 cs rows n r c w kind) (BH n r c w kind)= -1->∀ H',Same H H'->E (.ref<|a "NoRoom") none H')
example:(PY):=∃ p b,vs=[.ref p,.ref b]/\TY 0 K a p b H Q E
example:(TZ):=∃ p b,vs=[.ref p,.ref b]/\TY 1 K a p b H Q E
example:(T2):=∃ p b,vs=[.ref p,.ref b]/\TY 2 K a p b H Q E
def XV(c:Nat):Bool:=decide (32<=c)&&decide (c<=126)&&decide (c≠37)
def XW(c:Nat):Bool:=decide (97<=c)&&decide (c<=122)
def CI(z:Str):Bool:=decide (1<=z.length)&&decide (z.length<=8)&&z.cps.toList.all XW
def NH(z:Str):Bool:=decide (1<=z.length)&&decide (z.length<=40)&&z.cps.toList.all XV
example:(XX):=∃ c:Nat,vs=[.str {#[c]}]/\Q (.bl<|XV c) H
example:(XY):=∃ z:Str,vs=[.str z]/\z.length<=1000/\∀ H',Same H H'->Q (.bl<|CI z) H'
example:(XZ):=∃ z:Str,vs=[.str z]/\z.length<=1000/\∀ H',Same H H'->Q (.bl<|NH z) H'
structure PZ(K:ι)(a:Ad):Prop where
 cl:Cls K (a "Store")
 n1:NoAttr K (a "Store") "plan"
 n2:NoAttr K (a "Store") "book"
 n3:NoAttr K (a "Store") "taken_out"
def sf(lp b tk:Addr):rP:=[("plan",.ref lp),("book",.ref b),("taken_out",.ref tk)]
structure SA where
 A:BA
 st:Addr
 lp:Addr
 tk:Addr
structure Hs where
 b:Md
 as:List AC
abbrev Hs.f(M:Hs):Md:=hnd M.b M.as
instance:CoeFun Hs λ_=>Nat->Nat->CV:=⟨Hs.f⟩
def Hs.put(M:Hs)(kind k:Nat)(x:CV)(nd:Oz):Hs:={M.b,⟨kind,k,x,nd⟩::M.as}
def Hs.put_at{M:Hs}:(M.put kind k x nd) i j=if i=kind/\j=k then x else M i j:=rfl
def RepC(H:Hp):CV->V->Prop
 |.no,v=>v=.non
 |.nm z k,v=>∃ t,v=.ref t/\H t=some (.tup [.str z,.int k])
 |.mk i,v=>v=.int i
 |.rc m ps,v=>∃ t u,v=.ref t/\H t=some (.tup [.int m,.ref u])/\H u=some (.tup<|AQ ps)
 |.tx z,v=>v=.str z
def DS:Nat->CV->Prop
 |_,.no=>True
 |0,.nm _ _=>True
 |1,.mk i=>i<=1
 |2,.mk i=>i<=1
 |3,.rc _ _=>True
 |4,.tx _=>True
 |_,_=>False
inductive LaidA(n r c w:Nat)(H:Hp):Ox->List AC->Prop
 |nil:LaidA n r c w H [] []
 |snoc {cs:Ox} {as:List AC} {ch:Ch} {x:AC}:LaidA n r c w H cs as->ch.blk=BG n r c w x.kind x.k->ch.cell=x.k%w->RepC H x.x ch.val->(∀ y:Int,y∈ch.nd↔(∃ j∈x.nd,y=(j:Nat))\/∃ j:Nat,GS x.kind x.k as=some j/\y=j)->x.kind<5->x.k<BH n r c w x.kind->LaidA n r c w H (cs++[ch]) (x::as)
structure SM(a:Ad)(H:Hp)(S:SA)(n r c w:Nat)(rows:qT)(nn:Nat)(cs:Ox)(outs:rW)(tks:rR)(M:Hs):Prop where
 ob:∃ dx,H S.st=some (.ins (a "Store") dx (sf S.lp S.A.b S.tk))
 ly:LayAt a H S.lp n r c w
 bk:DR a H S.A w rows nn cs outs
 tk:H S.tk=some (.dK tks)
 tl:tks.length<=cs.length
 tv:∀ z v,A5 tks (.inr z)=some v->∃ k:Nat,v=.int k/\k<cs.length
 ap:¬ S.A.F S.tk
 sz:n<=6/\r<=6/\c<=6/\w<=6/\rows.length=n+r+c+r+c
 gd:goodH H cs rows
 rp:∀ kind k v,kind<5->k<BH n r c w kind->ED cs rows (BG n r c w kind k:Nat) (k%w:Nat)=some v->RepC H (M kind k) v
 ok:∀ kind k,kind<5->k<BH n r c w kind->DS kind (M kind k)
 la:LaidA n r c w H cs M.as
def EF(M:Hs)(k:Nat):Option (Str × Nat):=match M 0 k with
 |.nm z r=>some (z,r)
 |_=>none
def K9(M:Hs)(m:Nat):qZ:=(ξ m).filterMap λk=>(EF M k).map (·.1)
def cellOf(M:Hs)(m:Nat)(z:Str):Option Nat:=(ξ m).find? λk=>(EF M k).any λp=>decide<|p.1=z
def GT(kind:Nat):CV->Bool
 |.no=>true
 |.mk i=>decide (0<kind)&&decide (i=0)
 |_=>false
def GU(M:Hs)(kind m:Nat):Int:=EE (λk=>GT kind<|M kind k) m
abbrev CK(K:ι)(a:Ad):Prop:=TB K a/\DL K a/\DU K a/\PZ K a
abbrev nH(cs:Ox)(i j:Int)(x:Int):Prop:=∃ k:Nat,DQ cs i j=some k/\x=k
structure SX where
 S:SA
 n:Nat
 r:Nat
 c:Nat
 w:Nat
 rows:qT
 nn:Nat
 outs:Int->Bool
abbrev SX.at(X:SX)(a:Ad)(H:Hp)(cs:Ox)(tks:rR)(M:Hs):Prop:=SM a H X.S X.n X.r X.c X.w X.rows X.nn cs X.outs tks M
abbrev SX.m0(X:SX):Nat:=X.n*X.w
example:(NI):=∃ (x dx lp gp cl:Addr) (n r c w:Nat) (rows:qT) (nn:Nat) (M:Md),vs=[.ref x,.ref lp,.ref gp]/\CK K a/\H x=some (.ins (a "Store") dx [])/\LayAt a H lp n r c w/\PlankAt a H gp cl w rows nn/\(n<=6/\r<=6/\c<=6/\w<=6/\rows.length=n+r+c+r+c)/\PU H rows/\(∀ kind k v,kind<5->k<BH n r c w kind->ED [] rows (BG n r c w kind k:Nat) (k%w:Nat)=some v->RepC H (M kind k) v)/\(∀ kind k,kind<5->k<BH n r c w kind->DS kind (M kind k)) ∧
 ∀ (S:SA) (H':Hp),S.st=x->S.lp=lp->S.A.gp=gp->S.A.cl=cl->(∀ y o,H y=some o->y=cl\/¬ S.A.F y)->H S.tk=none->SM a H' S n r c w rows nn [] (λ_=>false) [] {M,[]}->SameBut (· =x) H H'->Q .non H'
example:(P0):=∃ (x dx lp b tk:Addr),vs=[.ref x]/\PZ K a/\H x=some (.ins (a "Store") dx (sf lp b tk))/\Q (.ref b) H
example:(NJ):=∃ (X:SX) (cs:Ox) (tks:rR) (M:Hs),vs=[.ref X.S.st]/\CK K a/\X.at a H cs tks M /\
 ∀ (l:Addr) (xs:Oj) (H':Hp),Same H H'->H' l=some (.lst xs)->xs.length=X.m0->(∀ k v,xs[k]? =some v->RepC H' (M 0 k) v)->Q (.ref l) H'
example:(P7):=∃ (X:SX) (cs:Ox) (tks:rR) (M:Hs),vs=[.ref X.S.st]/\CK K a/\X.at a H cs tks M /\
 ∀ (l:Addr) (ks:qZ) (H':Hp),H l=none->Same H H'->H' l=some (.lst<|ks.map V.str)->ks.Perm (K9 M X.m0)->sortedS ks=true->Q (.ref l) H'
example:(MB):=∃ (X:SX) (cs:Ox) (tks:rR) (M:Hs) (z:Str),vs=[.ref X.S.st,.str z]/\CK K a/\X.at a H cs tks M/\∀ (H':Hp),Same H H'->Q (TF<|cellOf M X.m0 z) H'
example:(IX):=∃ (X:SX) (cs:Ox) (tks:rR) (M:Hs) (z:Str),vs=[.ref X.S.st,.str z]/\CK K a/\X.at a H cs tks M /\
 (∀ cell k,cellOf M X.m0 z=some cell->cell<X.m0->M 0 cell=.nm z k->∀ H',Same H H'->Q (.int k) H')/\(cellOf M X.m0 z=none->∀ H',Same H H'->E (.ref<|a "NoName") none H')
example:(HY):=∃ (X:SX) (cs:Ox) (tks:rR) (M:Hs) (rec:Nat),vs=[.ref X.S.st,.int rec]/\CK K a/\X.at a H cs tks M/\rec<X.r*X.w/\∀ v H',RepC H' (M 3 rec) v->Same H H'->Q v H'
example:(P8):=∃ (X:SX) (cs:Ox) (tks:rR) (M:Hs) (z:Str) (gl:Addr) (zs:qZ),vs=[.ref X.S.st,.str z,.ref gl]/\CK K a/\X.at a H cs tks M/\H gl=some (.lst<|zs.map V.str)/\zs.length<=60/\(∀ y∈zs,y.length<=1000) /\
 (zs.all CI=true->cellOf M X.m0 z=none->∀ H',Same H H'->Q .non H')/\(zs.all CI=false->∀ H',Same H H'->E (.ref<|a "NoName") none H')/\(zs.all CI=true->(∃ k,cellOf M X.m0 z=some k)->∀ H',Same H H'->E (.ref<|a "Twice") none H')
def T3(X:SX)(a:Ad)(H:Hp)(cs:Ox)(tks:rR)(M':Hs)(Q:VK):Prop:=∀ (ch:Ch) (H':Hp),X.at a H' (cs++[ch]) tks M'->SameBut X.S.A.F H H'->Q (.int cs.length) H'
def EY(tks:rR)(z:Str):Oz:=match A5 tks (.inr z)with
 |some (.int k)=>[k.toNat]
 |_=>[]
abbrev LA(ns:r8):Oz:=ns.map Int.toNat
example:(P9):=∃ (X:SX) (cs:Ox) (tks:rR) (M:Hs) (cell rec need:Nat) (z:Str),vs=[.ref X.S.st,.int cell,.str z,.int rec,.int need]/\CK K a/\X.at a H cs tks M/\cell<X.m0/\need<cs.length/\cs.length<980/\ce z=true/\T3 X a H cs tks (M.put 0 cell (.nm z rec) (need::EY tks z)) Q
example:(NK):=∃ (X:SX) (cs:Ox) (tks:rR) (M:Hs) (rec m m':Nat) (more:Int) (ps:Oz) (nl:Addr) (ns:r8),vs=[.ref X.S.st,.int rec,.int more,.ref nl]/\CK K a/\X.at a H cs tks M/\rec<X.r*X.w/\M 3 rec=.rc m ps/\(m:Int)+more=m'/\ps.length<=100/\H nl=some (.lst<|ns.map V.int)/\ns.length<=60/\(∀ x∈ns,known cs x)/\cs.length<980/\T3 X a H cs tks (M.put 3 rec (.rc m' ps) (LA ns)) Q
example:(QC):=∃ (X:SX) (cs:Ox) (tks:rR) (M:Hs) (rec m:Nat) (ps ps':Oz) (pl nl:Addr) (ns:r8),vs=[.ref X.S.st,.int rec,.ref pl,.ref nl]/\CK K a/\X.at a H cs tks M/\rec<X.r*X.w/\M 3 rec=.rc m ps/\H pl=some (.tup<|AQ ps')/\ps'.length<=100/\H nl=some (.lst<|ns.map V.int)/\ns.length<=60/\(∀ x∈ns,known cs x)/\cs.length<980/\T3 X a H cs tks (M.put 3 rec (.rc m ps') (LA ns)) Q
example:(QD):=∃ (X:SX) (cs:Ox) (tks:rR) (M:Hs) (cell:Nat) (z:Str) (nl:Addr) (ns:r8),vs=[.ref X.S.st,.str z,.ref nl]/\CK K a/\X.at a H cs tks M/\cellOf M X.m0 z=some cell/\cell<X.m0/\H nl=some (.lst<|ns.map V.int)/\ns.length<=60/\(∀ x∈ns,known cs x)/\cs.length<980 /\
 ∀ (ch:Ch) (H':Hp),X.at a H' (cs++[ch]) (B0 tks (.inr z) (.int cs.length)) (M.put 0 cell .no<|LA ns)->SameBut (λx=>X.S.A.F x\/x=X.S.tk) H H'->Q (.int cs.length) H'
def Hs.unmark(M:Hs)(d:Nat)(ps:Oz):Hs:=ps.foldl (λM p=>M.put 2 p (.mk 0) [d]) M
example:(T5):=∃ (X:SX) (cs:Ox) (tks:rR) (M:Hs) (rec m gone:Nat) (ps:Oz),vs=[.ref X.S.st,.int rec,.int gone]/\CK K a/\X.at a H cs tks M/\rec<X.r*X.w/\M 3 rec=.rc m ps/\gone<cs.length/\(∀ p∈ps,p<X.c*X.w)/\ps.length<=36/\cs.length<940 /\
 ∀ (ex:Ox) (l:Addr) (H':Hp),H l=none->H' l=some (.lst (AQ ((ξ<|ps.length+2).map (cs.length+·))))->ex.length=ps.length+2->X.at a H' (cs++ex) tks (((M.put 3 rec .no [gone]).unmark cs.length ps).put 1 rec (.mk 0) [cs.length])->SameBut X.S.A.F H H'->Q (.ref l) H'
def MC(X:SX)(a:Ad)(H:Hp)(cs:Ox)(d:Nat)(tks':rR)(M':Hs)(Q:VK):Prop:=∀ (ex:Ox) (l:Addr) (H':Hp),ex.length=d->H l=none->H' l=some (.lst (AQ ((ξ d).map (cs.length+·))))->X.at a H' (cs++ex) tks' M'->SameBut (λx=>X.S.A.F x\/x=X.S.tk) H H'->Q (.ref l) H'
def D5(a:Ad)(H:Hp)(c:String)(E:XK):Prop:=∀ H',Same H H'->E (.ref<|a c) none H'
example:(T6):=∃ (X:SX) (cs:Ox) (tks:rR) (M:Hs) (z:Str),vs=[.ref X.S.st,.str z]/\CK K a/\X.at a H cs tks M/\z.length<=1000/\cs.length<930 /\
 (CI z=true->cellOf M X.m0 z=none->∀ rec cell:Nat,GU M 1 (X.r*X.w)=rec->GU M 0 X.m0=cell->rec<X.r*X.w->cell<X.m0->MC X a H cs 3 tks (((M.put 1 rec (.mk 1) []).put 3 rec (.rc 1 []) [cs.length]).put 0 cell (.nm z rec) ((cs.length+1)::EY tks z)) Q) /\
 (CI z=false->D5 a H "NoName" E)/\(CI z=true->(∃ k,cellOf M X.m0 z=some k)->D5 a H "Twice" E) ∧
 (CI z=true->cellOf M X.m0 z=none->(GU M 1 (X.r*X.w)= -1\/GU M 0 X.m0= -1)->D5 a H "NoRoom" E)
example:(QE):=∃ (X:SX) (cs:Ox) (tks:rR) (M:Hs) (y z:Str),vs=[.ref X.S.st,.str y,.str z]/\CK K a/\X.at a H cs tks M/\y.length<=1000/\z.length<=1000/\cs.length<930 /\
 (CI y=true->CI z=true->cellOf M X.m0 z=none->∀ old rec cell:Nat,cellOf M X.m0 y=some old->old<X.m0->M 0 old=.nm y rec->rec<X.r*X.w/\∃ m ps,M 3 rec=.rc m ps/\ps.length<=100/\(GU M 0 X.m0=cell->cell<X.m0->MC X a H cs 2 tks ((M.put 3 rec (.rc (m+1) ps) []).put 0 cell (.nm z rec) (cs.length::EY tks z)) Q)) /\
 ((CI y&&CI z)=false->D5 a H "NoName" E)/\(CI y=true->CI z=true->(∃ k,cellOf M X.m0 z=some k)->D5 a H "Twice" E)/\(CI y=true->CI z=true->cellOf M X.m0 z=none->cellOf M X.m0 y=none->D5 a H "NoName" E) ∧
 (CI y=true->CI z=true->cellOf M X.m0 z=none->(∃ k,cellOf M X.m0 y=some k)->GU M 0 X.m0= -1->D5 a H "NoRoom" E)
example:(T7):=∃ (X:SX) (cs:Ox) (tks:rR) (M:Hs) (z:Str),vs=[.ref X.S.st,.str z]/\CK K a/\X.at a H cs tks M/\cs.length<930 /\
 (∀ cell rec:Nat,cellOf M X.m0 z=some cell->cell<X.m0->M 0 cell=.nm z rec->rec<X.r*X.w/\∃ m ps,M 3 rec=.rc m ps/\(∀ p∈ps,p<X.c*X.w)/\ps.length<=36 /\
  (1<m->MC X a H cs 2 (B0 tks (.inr z) (.int cs.length)) ((M.put 0 cell .no []).put 3 rec (.rc (m-1) ps) [cs.length]) Q)/\(m<=1->MC X a H cs (ps.length+3) (B0 tks (.inr z) (.int cs.length)) ((((M.put 0 cell .no []).put 3 rec .no [cs.length]).unmark (cs.length+1) ps).put 1 rec (.mk 0) [cs.length+1]) Q)) /\
 (cellOf M X.m0 z=none->D5 a H "NoName" E)
example:(T8):=∃ (X:SX) (cs:Ox) (tks:rR) (M:Hs) (z t:Str),vs=[.ref X.S.st,.str z,.str t]/\CK K a/\X.at a H cs tks M/\t.length<=1000/\ce t=true/\cs.length<930 /\
 (∀ cell rec:Nat,cellOf M X.m0 z=some cell->cell<X.m0->M 0 cell=.nm z rec->NH t=true->∀ p:Nat,GU M 2 (X.c*X.w)=p->p<X.c*X.w->rec<X.r*X.w/\∃ m ps,M 3 rec=.rc m ps/\ps.length<=90/\MC X a H cs 3 tks (((M.put 2 p (.mk 1) []).put 4 p (.tx t) [cs.length]).put 3 rec (.rc m<|ps++[p]) [cs.length+1]) Q) /\
 (cellOf M X.m0 z=none->D5 a H "NoName" E)/\((∃ k,cellOf M X.m0 z=some k)->NH t=false->D5 a H "NoPiece" E)/\((∃ k,cellOf M X.m0 z=some k)->NH t=true->GU M 2 (X.c*X.w)= -1->D5 a H "NoRoom" E)
example:(QF):=∃ (X:SX) (cs:Ox) (tks:rR) (M:Hs) (z:Str),vs=[.ref X.S.st,.str z]/\CK K a/\X.at a H cs tks M /\
 (∀ cell rec:Nat,cellOf M X.m0 z=some cell->cell<X.m0->M 0 cell=.nm z rec->rec<X.r*X.w/\∃ m ps,M 3 rec=.rc m ps/\ps.length<=100/\∃ ts:qZ,Paired (λp t=>p<X.c*X.w/\M 4 p=.tx t) ps ts/\∀ l H',H l=none->Same H H'->H' l=some (.lst<|ts.map V.str)->Q (.ref l) H') /\
 (cellOf M X.m0 z=none->D5 a H "NoName" E)
example:(T9):=∃ (X:SX) (cs:Ox) (tks:rR) (M:Hs) (z:Str) (x:Int),vs=[.ref X.S.st,.str z,.int x]/\CK K a/\X.at a H cs tks M/\cs.length<930 /\
 (∀ cell rec:Nat,cellOf M X.m0 z=some cell->cell<X.m0->M 0 cell=.nm z rec->rec<X.r*X.w/\∃ m ps,M 3 rec=.rc m ps/\ps.length<=100/\((x<0\/ps.length<=x)->D5 a H "NoPiece" E)/\(∀ (k p:Nat),x=k->ps[k]? =some p->p<X.c*X.w/\MC X a H cs 2 tks ((M.put 3 rec (.rc m<|ps.eraseIdx k) []).put 2 p (.mk 0) [cs.length]) Q)) ∧
 (cellOf M X.m0 z=none->D5 a H "NoName" E)
example:(UA):=∃ (X:SX) (cs:Ox) (tks:rR) (M:Hs) (y z:Str),vs=[.ref X.S.st,.str y,.str z]/\CK K a/\X.at a H cs tks M/\y.length<=1000/\z.length<=1000/\cs.length<920 /\
 (CI y=true->CI z=true->cellOf M X.m0 z=none->∀ old rec cell:Nat,cellOf M X.m0 y=some old->old<X.m0->M 0 old=.nm y rec->rec<X.r*X.w/\∃ m ps,M 3 rec=.rc m ps/\ps.length<=100/\(GU M 0 X.m0=cell->cell<X.m0->MC X a H cs 4 (B0 tks (.inr y) (.int (cs.length+2:Nat))) ((((M.put 3 rec (.rc (m+1) ps) []).put 0 cell (.nm z rec) (cs.length::EY tks z)).put 0 old .no [cs.length+1]).put 3 rec (.rc m ps) [cs.length+2]) Q)) /\
 ((CI y&&CI z)=false->D5 a H "NoName" E)/\(CI y=true->CI z=true->(∃ k,cellOf M X.m0 z=some k)->D5 a H "Twice" E)/\(CI y=true->CI z=true->cellOf M X.m0 z=none->cellOf M X.m0 y=none->D5 a H "NoName" E) ∧
 (CI y=true->CI z=true->cellOf M X.m0 z=none->(∃ k,cellOf M X.m0 y=some k)->GU M 0 X.m0= -1->D5 a H "NoRoom" E)
abbrev UB(X:SX)(p:Nat × Nat):Oj:=[.int (BG X.n X.r X.c X.w p.1 p.2:Nat),.int (p.2%X.w:Nat)]
def HD(cell rec:Nat)(ps:Oz):List (Nat × Nat):=(0,cell)::(3,rec)::ps.map λp=>(4,p)
example:(X0):=∃ (X:SX) (cs:Ox) (tks:rR) (M:Hs) (z:Str),vs=[.ref X.S.st,.str z]/\CK K a/\X.at a H cs tks M /\
 (∀ cell rec,cellOf M X.m0 z=some cell->cell<X.m0->M 0 cell=.nm z rec->rec<X.r*X.w/\∃ m ps,M 3 rec=.rc m ps/\ps.length<=100/\(∀ p∈ps,p<X.c*X.w)/\∀ l ts H',Same H H'->H' l=some (.lst<|ts.map V.ref)->Paired (λt p=>H' t=some (.tup<|UB X p)) ts (HD cell rec ps)->Q (.ref l) H') /\
 (cellOf M X.m0 z=none->D5 a H "NoName" E)
def NL(X:SX)(cs:Ox)(ts:List (Nat × Nat)):r8:=ts.filterMap λp=>(DQ cs (BG X.n X.r X.c X.w p.1 p.2:Nat) (p.2%X.w:Nat)).map λ(k:Nat)=>(k:Int)
example:(UC):=∃ (X:SX) (cs:Ox) (tks:rR) (M:Hs) (z:Str),vs=[.ref X.S.st,.str z]/\CK K a/\X.at a H cs tks M /\
 (∀ cell rec,cellOf M X.m0 z=some cell->cell<X.m0->M 0 cell=.nm z rec->rec<X.r*X.w/\∃ m ps,M 3 rec=.rc m ps/\ps.length<=100/\(∀ p∈ps,p<X.c*X.w)/\∀ l row R H',SR cs X.outs (NL X cs<|HD cell rec ps) R->HB cs X.outs (FR cs.length X.outs R) row->row.length<=cs.length->H l=none->Same H H'->H' l=some (.lst<|AQ row)->Q (.ref l) H') /\
 (cellOf M X.m0 z=none->D5 a H "NoName" E)
abbrev NM:=Option<|Str × Nat
abbrev IY:=Option<|Int × Oz
structure Vw where
 nm:List NM
 rc:List IY
 pc:List (Option Str)
 rm:List (Option Int)
 pm:List (Option Int)
def AX{α :Type}(l:List (Option α))(k:Nat):Option α :=(l[k]?).join
def LB:IY->Oz
 |none=>[]
 |some (_,ps)=>ps
def IZ(nm:List NM):Oz:=nm.filterMap λc=>c.map (·.2)
def EN(rc:List IY):Oz:=rc.flatMap LB
def led(vw:Vw)(r:Nat):Nat:=(IZ vw.nm).count r
def EO(vw:Vw)(p:Nat):Nat:=(EN vw.rc).count p
def LC(vw:Vw):List IY:=((ξ vw.rc.length).filter λr=>decide<|0<led vw r).map (AX vw.rc)
def HZ(vw:Vw)(p:Nat):Nat:=(EN<|LC vw).count p
abbrev _root_.rT:=Nat->List V
def C9(n:Nat)(p:YY)(f:rT):qT:=((ξ n).filter p).map f
def HE(vw:Vw)(k:Nat):Bool:=match AX vw.nm k with
 |none=>false
 |some c=>(AX vw.rc c.2).isNone
def IA(vw:Vw)(k:Nat):Bool:=match AX vw.nm k with
 |none=>false
 |some c=>(ξ k).any λj=>match AX vw.nm j with
  |none=>false
  |some d=>decide<|d.1=c.1
def JA(vw:Vw)(r:Nat):Bool:=match AX vw.rc r with
 |none=>false
 |some c=>decide<|c.1<(led vw r:Int)
def GW(vw:Vw)(r:Nat):Bool:=match AX vw.rc r with
 |none=>false
 |some c=>decide (0<led vw r)&&decide ((led vw r:Int)<c.1)
def QH(vw:Vw):qT:=C9 vw.nm.length (HE vw) (λk=>[.str "lost",.int k])++C9 vw.nm.length (IA vw) (λk=>[.str "twice",.int k])
def QI(vw:Vw):qT:=C9 vw.pc.length (λp=>decide<|1<EO vw p) (λp=>[.str "shared",.int p])++C9 vw.pc.length (λp=>decide (0<EO vw p)&&(AX vw.pc p).isNone) (λp=>[.str "empty",.int p])++C9 vw.rc.length (JA vw) (λr=>[.str "few",.int r])
def QJ(vw:Vw):qT:=C9 vw.rc.length (λr=>decide (0<led vw r) && !decide (AX vw.rm r=some 1)) (λr=>[.str "free",.str "record",.int r])++C9 vw.pc.length (λp=>decide (0<EO vw p) && !decide (AX vw.pm p=some 1)) (λp=>[.str "free",.str "piece",.int p])
def faults(vw:Vw):qT:=QH vw++QI vw++QJ vw
def QK(vw:Vw):qT:=C9 vw.rc.length (GW vw) (λr=>[.str "many",.int r,.int<|led vw r])++C9 vw.rc.length (λr=>(AX vw.rc r).isSome&&decide (led vw r=0)) (λr=>[.str "left",.str "record",.int r])
def QL(vw:Vw):qT:=C9 vw.pc.length (λp=>decide (AX vw.pm p=some 1)&&decide (HZ vw p=0)) (λp=>[.str "left",.str "piece",.int p])
def QM(vw:Vw):qT:=C9 vw.rc.length (λr=>decide (AX vw.rm r=some 1)&&(AX vw.rc r).isNone) (λr=>[.str "marked",.int r])
def MD(vw:Vw):qT:=QK vw++QL vw++QM vw
structure D9(vw:Vw):Prop where
 n1:∀ c,some c∈vw.nm->c.2<vw.rc.length/\ce c.1=true
 n2:∀ c,some c∈vw.rc->(∀ p∈c.2,p<vw.pc.length)/\c.2.length<=20
 n3:∀ s,some s∈vw.pc->ce s=true
 l1:vw.rm.length=vw.rc.length
 l2:vw.pm.length=vw.pc.length
 bn:vw.nm.length<=100
 br:vw.rc.length<=100
 bp:vw.pc.length<=100
def NmV(H:Hp)(v:V):NM->Prop
 |none=>v=.non
 |some c=>∃ p,v=.ref p/\H p=some (.tup [.str c.1,.int c.2])
def RcV(H:Hp)(v:V):IY->Prop
 |none=>v=.non
 |some c=>∃ p q,v=.ref p/\H p=some (.tup [.int c.1,.ref q])/\H q=some (.tup<|AQ c.2)
def PcV(_:Hp)(v:V):Option Str->Prop
 |none=>v=.non
 |some s=>v=.str s
def MkV(_:Hp)(v:V):Option Int->Prop
 |none=>v=.non
 |some i=>v=.int i
def LstAt{α :Type}(R:Hp->V-> α ->Prop)(H:Hp)(p:Addr)(cs:List α):Prop:=∃ vs,H p=some (.lst vs)/\Paired (R H) vs cs
def FindsL(H:Hp)(l:Addr)(fs:qT):Prop:=∃ ps:qX,H l=some (.lst<|ps.map V.ref)/\Paired (λp f=>H p=some (.tup f)) ps fs
structure TV(K:ι)(a:Ad):Prop where
 cl:Cls K (a "View")
 n1:NoAttr K (a "View") "name_values"
 n2:NoAttr K (a "View") "record_values"
 n3:NoAttr K (a "View") "piece_values"
 n4:NoAttr K (a "View") "record_marks"
 n5:NoAttr K (a "View") "piece_marks"
 n6:NoAttr K (a "View") "leads"
 n7:NoAttr K (a "View") "namings"
 n8:NoAttr K (a "View") "reached"
def nJ(a:Ad)(H:Hp)(x:Addr)(f:Str)(v:V):Prop:=∃ dx fs,H x=some (.ins (a "View") dx fs)/\fs.lookup f=some v
structure VA where
 n:Addr
 r:Addr
 p:Addr
 rm:Addr
 pm:Addr
 ld:Addr
 ng:Addr
 rh:Addr
def vf(A:VA):rP:=[("name_values",.ref A.n),("record_values",.ref A.r),("piece_values",.ref A.p),("record_marks",.ref A.rm),("piece_marks",.ref A.pm),("leads",.ref A.ld),("namings",.ref A.ng),("reached",.ref A.rh)]
structure ViewAt(a:Ad)(H:Hp)(x:Addr)(A:VA)(vw:Vw):Prop where
 ob:∃ dx,H x=some (.ins (a "View") dx (vf A))
 n:LstAt NmV H A.n vw.nm
 r:LstAt RcV H A.r vw.rc
 p:LstAt PcV H A.p vw.pc
 rm:LstAt MkV H A.rm vw.rm
 pm:LstAt MkV H A.pm vw.pm
 ld:H A.ld=some (.lst<|AQ<|(ξ vw.rc.length).map (led vw))
 ng:H A.ng=some (.lst<|AQ<|(ξ vw.pc.length).map (EO vw))
 rh:H A.rh=some (.lst<|AQ<|(ξ vw.pc.length).map (HZ vw))
 ok:D9 vw
structure PlV(H:Hp)(rows:qT)(n r c w:Nat)(vw:Vw):Prop where
 vs:∃ v1 v2 v3 v4 v5:Oj,rows.flatten=v1++v2++v3++v4++v5/\Paired (NmV H) v1 vw.nm/\Paired (RcV H) v2 vw.rc/\Paired (PcV H) v3 vw.pc/\Paired (MkV H) v4 vw.rm/\Paired (MkV H) v5 vw.pm
 ln:vw.nm.length=n*w
 lr:vw.rc.length=r*w
 lp:vw.pc.length=c*w
 ok:D9 vw
def newL(vs:Oj)(H:Hp)(Q:VK):Prop:=∀ l H',H l=none->Same H H'->H' l=some (.lst vs)->Q (.ref l) H'
def newF(fs:qT)(H:Hp)(Q:VK):Prop:=∀ l H',H l=none->Same H H'->FindsL H' l fs->Q (.ref l) H'
def LD(rows:qT)(b j:Nat):V:=(((rows[b]?).bind (·[j]?)).getD .non)
example:(LE):=∃ (gp cl pl:Addr) (w:Nat) (rows:qT) (m:Nat) (ts:qX) (ps:List (Nat × Nat)),vs=[.ref gp,.ref pl]/\DL K a/\PlankAt a H gp cl w rows m/\H pl=some (.lst<|ts.map V.ref)/\Paired (λt (ij:Nat × Nat)=>H t=some (.tup [.int ij.1,.int ij.2])) ts ps/\(∀ ij∈ps,ij.1<rows.length/\ij.2<w)/\ps.length<=1000 /\
 newL (ps.map λij=>LD rows ij.1 ij.2) H Q
example:(QN):=∃ (many:Nat) (nl:Addr) (ks:Oz),vs=[.int many,.ref nl]/\H nl=some (.lst<|AQ ks)/\(∀ k∈ks,k<many)/\many<=1000/\ks.length<=10000/\newL (AQ<|(ξ many).map λk=>ks.count k) H Q
example:(UD):=∃ (rl:Addr) (cs:List IY),vs=[.ref rl]/\LstAt RcV H rl cs/\cs.length<=100/\(∀ c,some c∈cs->c.2.length<=20)/\newL (AQ<|EN cs) H Q
example:(X1):=∃ (x ar al:Addr) (vw:Vw),vs=[.ref x]/\TV K a/\nJ a H x "record_values" (.ref ar)/\nJ a H x "leads" (.ref al)/\LstAt RcV H ar vw.rc/\H al=some (.lst<|AQ<|(ξ vw.rc.length).map (led vw))/\vw.rc.length<=100/\∀ l H',H l=none->Same H H'->LstAt RcV H' l (LC vw)->Q (.ref l) H'
example:(UE):=∃ (x:Addr) (A:VA) (vw:Vw),vs=[.ref x]/\TV K a/\ViewAt a H x A vw/\newL (AQ<|(ξ vw.rc.length).filter λr=>(AX vw.rc r).isSome) H Q
example:(QQ):=∃ (x:Addr) (A:VA) (vw:Vw),vs=[.ref x]/\TV K a/\ViewAt a H x A vw/\newL (AQ<|(ξ vw.pc.length).filter λp=>decide<|0<EO vw p) H Q
example:(UF):=∃ (x:Addr) (A:VA) (vw:Vw) (r:Nat) (c:Int × Oz),vs=[.ref x,.int r]/\TV K a/\ViewAt a H x A vw/\AX vw.rc r=some c/\Q (.int c.1) H
def LF(f:Vw->qT)(K:ι)(a:Ad):Sp:=λvs H Q _=>∃ (x:Addr) (A:VA) (vw:Vw),vs=[.ref x]/\TV K a/\ViewAt a H x A vw/\newF (f vw) H Q
def X2(K:ι)(a:Ad):Sp:=LF QH K a
def X3(K:ι)(a:Ad):Sp:=LF QI K a
def X4(K:ι)(a:Ad):Sp:=LF QJ K a
def UG(K:ι)(a:Ad):Sp:=LF faults K a
def X5(K:ι)(a:Ad):Sp:=LF QK K a
def X6(K:ι)(a:Ad):Sp:=LF QL K a
def X7(K:ι)(a:Ad):Sp:=LF QM K a
def X8(K:ι)(a:Ad):Sp:=LF MD K a
example:(QR):=∃ (x dx ly gp cl:Addr) (n r c w:Nat) (rows:qT) (m:Nat) (vw:Vw),vs=[.ref x,.ref ly,.ref gp]/\TV K a/\DU K a/\DL K a/\H x=some (.ins (a "View") dx [])/\LayAt a H ly n r c w/\PlankAt a H gp cl w rows m/\rows.length=n+r+c+r+c/\PlV H rows n r c w vw ∧
 ∀ (A:VA) (H':Hp),ViewAt a H' x A vw->SameBut (· =x) H H'->Q .non H'
def Ground(K:ι)(a:Ad)(H:Hp)(ly gp:Addr)(vw:Vw):Prop:=∃ (cl:Addr) (n r c w:Nat) (rows:qT) (m:Nat),TV K a/\DU K a/\DL K a/\LayAt a H ly n r c w/\PlankAt a H gp cl w rows m/\rows.length=n+r+c+r+c/\PlV H rows n r c w vw
example:(X9):=∃ (ly gp:Addr) (vw:Vw),vs=[.ref ly,.ref gp]/\Ground K a H ly gp vw/\newF (faults vw++MD vw) H Q
example:(YA):=∃ (ly gp:Addr) (vw:Vw),vs=[.ref ly,.ref gp]/\Ground K a H ly gp vw/\∀ H',Same H H'->Q (.bl<|decide<|faults vw=[]) H'
def EZ(vw:Vw)(r:Nat):IY:=match AX vw.rc r with
 |none=>none
 |some c=>if led vw r=0 then none else some ((led vw r:Int),c.2)
def J5(vw:Vw)(r:Nat):Option Int:=match AX vw.rc r with
 |none=>if AX vw.rm r=some 1 then some 0 else AX vw.rm r
 |some _=>if led vw r=0 then some 0 else AX vw.rm r
def ME(vw:Vw)(p:Nat):Option Int:=if AX vw.pm p=some 1/\HZ vw p=0 then some 0 else AX vw.pm p
def mended(vw:Vw):Vw:={vw.nm,(ξ vw.rc.length).map (EZ vw),vw.pc,(ξ vw.rc.length).map (J5 vw),(ξ vw.pc.length).map (ME vw)}
inductive Cel where
 |nm (c:NM)
 |rc (c:IY)
 |pc (c:Option Str)
 |mk (c:Option Int)
deriving DecidableEq
def CelV(H:Hp)(v:V):Cel->Prop
 |.nm c=>NmV H v c
 |.rc c=>RcV H v c
 |.pc c=>PcV H v c
 |.mk c=>MkV H v c
def Cel.kind:Cel->Nat
 |.nm _=>0
 |.rc _=>1
 |.pc _=>2
 |.mk _=>3
def Cel.ok:Cel->Prop
 |.nm (some c)=>ce c.1=true
 |.pc (some s)=>ce s=true
 |_=>True
abbrev _root_.Oq:=List Cel
def DE(vw:Vw):Oq:=vw.nm.map .nm++vw.rc.map .rc++vw.pc.map .pc++vw.rm.map .mk++vw.pm.map .mk
def DF(w:Nat)(cs:Oq)(b:Nat):Oq:=(cs.drop<|b*w).take w
def NN(w n:Nat)(cs cs':Oq):Nat:=((ξ n).filter λb=> !decide (DF w cs b=DF w cs' b)).length
inductive Lv where
 |many (r:Nat)
 |leftR (r:Nat)
 |leftP (p:Nat)
 |marked (r:Nat)
def E3(vw:Vw):List Lv:=((ξ vw.rc.length).filter (GW vw)).map .many++((ξ vw.rc.length).filter λr=>(AX vw.rc r).isSome&&decide (led vw r=0)).map .leftR++((ξ vw.pc.length).filter λp=>decide (AX vw.pm p=some 1)&&decide (HZ vw p=0)).map .leftP++((ξ vw.rc.length).filter λr=>decide (AX vw.rm r=some 1)&&(AX vw.rc r).isNone).map .marked
def nK(vw:Vw):Lv->Oj
 |.many r=>[.str "many",.int r,.int<|led vw r]
 |.leftR r=>[.str "left",.str "record",.int r]
 |.leftP p=>[.str "left",.str "piece",.int p]
 |.marked r=>[.str "marked",.int r]
def EQ(vw:Vw)(n r c w:Nat):Lv->List (Nat × Cel)
 |.many k=>[(n*w+k,.rc<|EZ vw k)]
 |.leftR k=>[(n*w+k,.rc none),((n+r+c)*w+k,.mk<|some 0)]
 |.leftP k=>[((n+r+c+r)*w+k,.mk<|some 0)]
 |.marked k=>[((n+r+c)*w+k,.mk<|some 0)]
def pk(w f:Nat):List AN:=[.inl ((f/w:Nat):Int),.inl ((f%w:Nat):Int)]
structure Site(K:ι)(a:Ad)(H:Hp)(ly gp cl:Addr)(n r c w:Nat)(rows:qT)(m:Nat)(vw:Vw):Prop where
 tv:TV K a
 tl:DU K a
 tp:DL K a
 la:LayAt a H ly n r c w
 pl:PlankAt a H gp cl w rows m
 rl:rows.length=n+r+c+r+c
 pv:PlV H rows n r c w vw
 w1:1<=w
 w6:w<=6
 n6:n<=6
 r6:r<=6
 c6:c<=6
example:(YB):=∃ (ly gp cl fd:Addr) (n r c w:Nat) (rows:qT) (m:Nat) (vw:Vw) (lv:Lv),vs=[.ref ly,.ref gp,.ref fd]/\Site K a H ly gp cl n r c w rows m vw/\lv∈E3 vw/\H fd=some (.tup<|nK vw lv) /\
 ∀ (dl:Addr) (more:rC) (H':Hp),H dl=none->Same H H'->H' dl=some (.dT more)->Paired (λ(kv:List AN × V) (fx:Nat × Cel)=>kv.1=pk w fx.1/\CelV H' kv.2 fx.2) more (EQ vw n r c w lv)->SF more->Q (.ref dl) H'
example:(YC):=∃ (gp cl dl:Addr) (w:Nat) (rows:qT) (m:Nat) (kvs:rC) (cs cs':Oq),vs=[.ref gp,.ref dl]/\DL K a/\PlankAt a H gp cl w rows m/\rows.length<=30/\1<=w/\w<=6/\H dl=some (.dT kvs)/\Paired (CelV H) rows.flatten cs/\cs'.map Cel.kind=cs.map Cel.kind/\(∀ c∈cs,c.ok)/\(∀ c∈cs',c.ok) /\
 (∀ (f:Nat) (c c':Cel),cs[f]? =some c->cs'[f]? =some c'->(A5 kvs (pk w f)=none/\c'=c)\/∃ v,A5 kvs (pk w f)=some v/\CelV H v c') /\
 ∀ (rows':qT) (H':Hp),PlankAt a H' gp cl w rows' (m+NN w rows.length cs cs')->rows'.length=rows.length->Paired (CelV H') rows'.flatten cs'->SameBut (λx=>x=gp\/x=cl) H H'->Q .non H'
example:(nQ):=∃ (ly gp cl:Addr) (n r c w:Nat) (rows:qT) (m:Nat) (vw:Vw),vs=[.ref ly,.ref gp]/\Site K a H ly gp cl n r c w rows m vw/\faults vw=[] /\
 ∀ (fo:Addr) (rows':qT) (H':Hp),H fo=none->FindsL H' fo (MD vw)->PlankAt a H' gp cl w rows' (m+NN w rows.length (DE vw) (DE<|mended vw))->rows'.length=n+r+c+r+c->PlV H' rows' n r c w (mended vw)->SameBut (λx=>x=gp\/x=cl) H H'->Q (.ref fo) H'
def SX.wr(X:SX)(cs:Ox)(b:Nat)(row:Oj):SX:={ X with rows:=X.rows.set b<|EM cs (C7 cs X.outs b) b row,nn:=X.nn+1,outs:=C7 cs X.outs b }
example:(QS):=∃ (X:SX) (cs:Ox) (tks:rR) (M:Hs) (b:Nat) (row:Oj),vs=[.ref X.S.st,.int b]/\CK K a/\X.at a H cs tks M/\X.rows[b]? =some row/\∀ t H',(X.wr cs b row).at a H' cs tks M->SameBut (λx=>X.S.A.F x\/x=X.S.A.gp) H H'->Q (.ref t) H'
def LG(tks:rR):Str->Option Nat:=λz=>(EY tks z).head?
def RowsAre(H:Hp)(n r c w:Nat)(rows:qT)(S:Md):Prop:=∀ kind k v,kind<5->k<BH n r c w kind->(rows[BG n r c w kind k]?).bind (λq=>q[k%w]?)=some v->RepC H (S kind k) v
structure InL(n r c w:Nat)(S:Md):Prop where
 no:∀ kind k,¬ k<BH n r c w kind->S kind k=.no
 ok:∀ kind k,DS kind<|S kind k
abbrev SX.C(X:SX):Nat->Bool:=λj=>X.outs (j:Nat)
structure C6(a:Ad)(H:Hp)(X:SX)(cs:Ox)(tks:rR)(M:Hs):Prop where
 st:X.at a H cs tks M
 hi:∃ o,Hist X.m0 M.b M.as (LG tks) o
 bo:InL X.n X.r X.c X.w M.b
 cut:SW cs X.outs
 rows:RowsAre H X.n X.r X.c X.w X.rows (sh M.b X.C M.as)
 few:X.c*X.w<=18
 ok:∀ x∈M.as,DS x.kind x.x
 w1:1<=X.w
def NO:CV->NM
 |.nm z r=>some (z,r)
 |_=>none
def MF:CV->IY
 |.rc m ps=>some ((m:Int),ps)
 |_=>none
def QT:CV->Option Str
 |.tx z=>some z
 |_=>none
def GG:CV->Option Int
 |.mk i=>some (i:Int)
 |_=>none
def BV(n r c w:Nat)(S:Md):Vw:={(ξ<|n*w).map λk=>NO<|S 0 k,(ξ<|r*w).map λk=>MF<|S 3 k,(ξ<|c*w).map λk=>QT<|S 4 k,(ξ<|r*w).map λk=>GG<|S 1 k,(ξ<|c*w).map λk=>GG<|S 2 k}
def D6(n r c w:Nat)(S:Md):Md:=λkind k =>
 if kind=1 then(match S 3 k with
  |.rc _ _=>if ld (n*w) S k=0 then .mk 0 else S 1 k
  |_=>match S 1 k with
   |.mk i=>if i=1 then .mk 0 else .mk i
   |x=>x)
 else if kind=2 then(match S 2 k with
  |.mk i=>if i=1/\HZ (BV n r c w S) k=0 then .mk 0 else .mk i
  |x=>x)
 else if kind=3 then(match S 3 k with
  |.rc _ ps=>if ld (n*w) S k=0 then .no else .rc (ld (n*w) S k) ps
  |x=>x)
 else S kind k
structure Gnd(K:ι)(a:Ad)(H:Hp)(ly gp cl:Addr)(n r c w:Nat)(rows:qT)(nn:Nat)(S:Md):Prop where
 tv:TV K a
 t4:CK K a
 la:LayAt a H ly n r c w
 pl:PlankAt a H gp cl w rows nn
 sz:n<=6/\r<=6/\c<=6/\w<=6/\rows.length=n+r+c+r+c
 few:c*w<=18
 w1:1<=w
 gd:PU H rows
 rw:RowsAre H n r c w rows S
 bo:InL n r c w S
 sd:Snd (n*w) S
def YD(K:ι)(a:Ad):Sp:=nQ K a
example:(QU):=∃ (ly gp cl:Addr) (n r c w:Nat) (rows:qT) (nn:Nat) (S:Md),vs=[.ref ly,.ref gp]/\Gnd K a H ly gp cl n r c w rows nn S /\
 ∀ (X:SX) (H':Hp),X.S.lp=ly->X.S.A.gp=gp->X.S.A.cl=cl->X.n=n->X.r=r->X.c=c->X.w=w->(∀ y o,H y=some o->y=cl\/¬ X.S.A.F y)->H X.S.tk=none->C6 a H' X [] [] {D6 n r c w S,[]}->SameBut (λx=>x=gp\/x=cl) H H'->Q (.ref X.S.st) H'
example:(NP):=∃ (c:Int) (m:Nat),vs=[.int c,.int m]/\m<=100/\∀ l (xs:r8) H',H l=none->Same H H'->H' l=some (.lst<|xs.map V.int)->xs.length=m->(∀ x∈xs,0<=x/\x<2000000000)->Q (.ref l) H'
example:(YE):=∃ x:Int,vs=[.int x]/\∀ (z:Str) H',ce z=true->z.length<=1000->Same H H'->Q (.str z) H'
example:(YF):=∃ x:Int,vs=[.int x]/\∀ (t:Addr) (n r c w:Nat) H',Same H H'->H' t=some (.tup [.int n,.int r,.int c,.int w])->1<=n->n<=3->1<=r->r<=3->1<=c->c<=3->1<=w->w<=6->Q (.ref t) H'
example:(YG):=∃ (c:Int) (m:Nat),vs=[.int c,.int m]/\m<=36/\∀ l (zs:qZ) H',H l=none->Same H H'->H' l=some (.lst<|zs.map V.str)->zs.length=m->(∀ z∈zs,ce z=true/\z.length<=8)->Q (.ref l) H'
structure QW(K:ι)(a:Ad):Prop where
 h:∀ c:String,(c="NoName"\/c="Twice"\/c="NoPiece"\/c="NoRoom")->wf K (.ref<|a c) (.ref<|a "HoldError")=some true
def OutAt(X:SX)(M:Hs)(kind k:Nat):Prop:=∀ j,GS kind k M.as=some j->X.C j=true
def KN(X:SX)(M:Hs)(z:Str):Prop:=∃ k r,k<X.m0/\M 0 k=.nm z r/\OutAt X M 0 k
def KX(X:SX)(M:Hs)(z:Str)(ts:qZ):Prop:=∃ k r ps,k<X.m0/\M 0 k=.nm z r/\OutAt X M 0 k/\∀ C,EX C M.as->(∀ j,X.C j=true->C j=true)->(∃ m,sh M.b C M.as 3 r=.rc m ps)/\Paired (λp t=>sh M.b C M.as 4 p=.tx t) ps ts
structure Kept(H:Hp)(X:SX)(M:Hs)(kt:Addr)(kvs:rR):Prop where
 e:H kt=some (.dK kvs)
 v:∀ k v,A5 kvs k=some v->∃ z,k=.inr z/\KN X M z/\(v=.non\/∃ l ts,v=.ref l/\l≠kt/\¬ X.S.A.F l/\H l=some (.lst<|ts.map V.str)/\KX X M z ts/\∀ t∈ts,ce t=true)
def NQ:CV->Bool
 |.mk i=>i==1
 |_=>false
def DG(c:Nat)(S:Md):Nat:=(ξ c).countP λp=>NQ<|S 2 p
structure Dd(X:SX)(M M':Hs)(z:Str)(kind:Int)(d:Bool):Prop where
 kn:∀ y,(d=false\/kind<=5\/y≠z)->KN X M y->KN X M' y
 kt:∀ y ts,(d=false\/(kind<=5\/y≠z)/\¬ (3<=kind/\kind<=5))->KX X M y ts->KX X M' y ts
def QX(H:Hp)(nl:Addr)(zs:qZ):Prop:=H nl=some (.lst<|zs.map V.str)/\zs.length=5/\∀ z∈zs,ce z=true/\z.length<=8
example:(YH):=∃ (X:SX) (cs:Ox) (tks:rR) (M:Hs) (x:Int) (nl:Addr) (zs:qZ),vs=[.ref X.S.st,.int x,.ref nl]/\CK K a/\QW K a/\C6 a H X cs tks M/\cs.length<900/\QX H nl zs /\
 ∀ (t:Addr) (z:Str) (d:Bool) (cs':Ox) (tks':rR) (M':Hs) (H':Hp),z∈zs->H' t=some (.tup [.str z,.bl d])->C6 a H' X cs' tks' M'->cs'.length+DG (X.c*X.w) M'<=cs.length+DG (X.c*X.w) M+4->Dd X M M' z (x%8) d->SameBut (λx=>X.S.A.F x\/x=X.S.tk) H H'->Q (.ref t) H'
example:(UH):=∃ (X:SX) (cs:Ox) (tks:rR) (M:Hs) (kt:Addr) (kvs:rR) (x:Int) (nl:Addr) (zs:qZ),vs=[.ref X.S.st,.ref kt,.int x,.ref nl]/\CK K a/\QW K a/\C6 a H X cs tks M/\cs.length<900/\QX H nl zs/\Kept H X M kt kvs/\kvs.length<=100/\¬ X.S.A.F kt/\kt≠X.S.tk /\
 ∀ (cs':Ox) (tks':rR) (M':Hs) (kvs':rR) (H':Hp),C6 a H' X cs' tks' M'->cs'.length+DG (X.c*X.w) M'<=cs.length+DG (X.c*X.w) M+4->Kept H' X M' kt kvs'->kvs'.length<=kvs.length->SameBut (λx=>X.S.A.F x\/x=X.S.tk\/x=kt) H H'->Q .non H'
example:(UI):=∃ (X:SX) (cs:Ox) (tks:rR) (M:Hs) (kt:Addr) (kvs:rR) (z:Str),vs=[.ref X.S.st,.ref kt,.str z]/\CK K a/\C6 a H X cs tks M/\cs.length<900/\ce z=true/\Kept H X M kt kvs/\kvs.length<=100/\¬ X.S.A.F kt/\kt≠X.S.tk /\
 ∀ (X':SX) (kvs':rR) (H':Hp),X'.S=X.S->X'.n=X.n->X'.r=X.r->X'.c=X.c->X'.w=X.w->C6 a H' X' cs tks M->Kept H' X' M kt kvs'->kvs'.length<=kvs.length+1->SameBut (λx=>X.S.A.F x\/x=X.S.A.gp\/x=kt) H H'->Q .non H'
example:(QY):=∃ (X:SX) (S:Md) (kt:Addr) (kvs:rR),vs=[.ref X.S.st,.ref kt]/\CK K a/\C6 a H X [] [] {S,[]}/\Kept H X {S,[]} kt kvs/\kvs.length<=100/\¬ X.S.A.F kt/\kt≠X.S.tk/\∀ H',SameBut (· =kt) H H'->H' kt=H kt->Q (.bl true) H'
example:(nR):=∃ (s:Addr) (ns:r8),vs=[.ref s]/\TV K a/\CK K a/\QW K a/\SqL K H s (ns.map V.int)/\ns.length<=63/\∀ H',Q (.bl true) H'
abbrev FK:=ι
abbrev XE:=St->XK
abbrev RT:=FK->Ad->XE->XE->TS
def A3{f g:RT}(h:∀ K a E E1,f K a E E1=g K a E E1){K a E E1 D σ H}:f K a E E1 D σ H=g K a E E1 D σ H:=by rw[h]
abbrev DN:TE:=tC<|.int 0
abbrev DA:TE:=tC<|.int 1
abbrev NR:TE:=tC<|.int 2
abbrev IB:TE:=tC<|.int 3
abbrev YI:TE:=tC<|.int 4
abbrev J6:TE:=tC<|.int 5
abbrev MG:TE:=tC<|.int 6
abbrev zew:TE:=tC<|.int 7
abbrev ER:TE:=tC<|.int 8
abbrev FI(n:Int):TE:=tC<|.int n
abbrev AG(x0:TE):TA:=DT x0 BF
abbrev A8(x0 x1:TE):TA:=DT x0<|DT x1 BF
abbrev CW(x0 x1 x2:TE):TA:=DT x0<|DT x1<|DT x2 BF
abbrev QZ(x0 x1 x2 x3:TE):TA:=DT x0<|DT x1<|DT x2<|DT x3 BF
abbrev BD(K:ι)(x:TE)(n:Int):TE:=AF (BX K) x (tC<|.int n)
abbrev AB:TE:=DP 0
abbrev AL:TE:=DP 1
abbrev YJ:TE:=DP 10
abbrev zex:TE:=DP 11
abbrev AU:TE:=DP 2
abbrev A6:TE:=DP 3
abbrev BJ:TE:=DP 4
abbrev CB:TE:=DP 5
abbrev E4:TE:=DP 6
abbrev IC:TE:=DP 7
abbrev nS:TE:=DP 8
abbrev nT:TE:=DP 9
section
variable{K:FK}{a:Ad}{n:Nat}{E E1:XE}{D:Ends}{σ:St}{H:Hp}
local macro_rules
 |`(command|example : $x:term := [$p,*])=>do
  let i:=Lean.mkIdent
  let f:=fun (y:Lean.Term)=>`($y $(i `K) $(i `a) $(i `E) $(i `E))
  let q:=p.getElems
  let t<-q.pop.foldrM (fun y z=>do `(AI $(<-f y) $z)) (<-f q.back!)
  `(command|def $(i x.raw.getId):ident ($(i `K):ident:FK) ($(i `a):ident:Ad) ($(i `E):ident:XE):TS:=$t)
 |`(command|example : $x:term := $t:term)=>do
  let i:=Lean.mkIdent
  let n:=x.raw.getId
  return Lean.mkNullNode #[←`(command|def $(i n):ident : RT := fun $(i `K):ident $(i `a):ident $(i `E):ident $(i `E1):ident => $t),←`(command|theorem $(i<|n.appendAfter "_"):ident : type_of%(@A3 _ _ $(i<|n++`eq_1)) := rfl)]
example:zey:=(AZ<|BS (FF K<|AG<|AR K AB "record_values") (E8 K 2<|DJ (AE 0) (DJ (AE 1) E7)) (A9<|AF G6 (AF (BX K) (AR K AU "leads") AB) DN) AL 2 [0])
example:nU:=[zey]
example:zez:=(AZ<|BS (FF K<|AG<|AR K AB "record_values") (E8 K 2<|DJ (AE 0) (DJ (AE 1) E7)) (A9<|AF GD AL<|tC .non) AB 2 [])
example:nX:=[zez]
example:ze0:=(AZ<|BS (FF K<|AG<|AR K AB "namings") (E8 K 2<|DJ (AE 0) (DJ (AE 1) E7)) (A9<|AF G6 AL DN) AB 2 [])
example:nY:=[ze0]
example:ze1:=(AZ<|BD K (AF (BX K) (AR K AB "record_values") AL) 0)
example:n0:=[ze1]
example:ze2:=(AS (BZ BF) (AE 1))
example:ze3:=(AS (BZ BF) (AE 2))
example:ze4:=(AS IN<|AE 3)
example:oE:=(B9<|EB K "list" EL AL<|AG<|CU<|A8 (tC<|.str "lost") BJ)
example:oF:=(BQ (A9<|AF G9 (AF (BX K) (AR K AB "record_values") (BD K CB 1)) (tC .non)) (oE K a E E) B2)
example:oI:=(B9<|EB K "list" EL AU<|AG<|CU<|A8 (tC<|.str "twice") BJ)
example:YK:=(BQ (A9<|IR (BD K CB 0) A6) (oI K a E E) B2)
example:UJ:=(FQ A6 (BD K CB 0) (tC<|.bl true))
example:oJ:=(BQ (A9<|AF GD CB<|tC .non) (AI (oF K a E E) (AI (YK K a E E) (UJ K a E E))) B2)
example:zfb:=(CZ (FF K<|AG<|AR K AB "name_values") (J1 K 2<|GO (AE 4) (GO (AE 5) J2)) (oJ K a E E))
example:UK:=(AZ<|AF (BL K) AL AU)
example:oM:=[ze2,ze3,ze4,zfb,UK]
example:oN:=(AS (BS (FF K<|AG<|AR K AB "piece_marks") (E8 K 2<|DJ (AE 0) (DJ (AE 1) E7)) (A9<|AF (CQ K) AL DA) AB 2 []) (AE 1))
example:zfe:=(AZ<|BS (B7 K AL) (AE 0) (A9<|AF (CQ K) (AF (BX K) (AR K AL "reached") AB) DN) (CU<|CW (tC<|.str "left") (tC<|.str "piece") AB) 1 [0])
example:YL:=[oN,zfe]
example:oO:=(AS (BS (FF K<|AG<|AR K AB "record_marks") (E8 K 2<|DJ (AE 0) (DJ (AE 1) E7)) (A9<|AF (CQ K) AL DA) AB 2 []) (AE 1))
example:zfg:=(AZ<|BS (B7 K AL) (AE 0) (A9<|AF G9 (AF (BX K) (AR K AL "record_values") AB) (tC .non)) (CU<|A8 (tC<|.str "marked") AB) 1 [0])
example:YM:=[oO,zfg]
example:oP:=(AS (BS (DK<|AG AB) (AE 0) CO DN 1 []) (AE 2))
example:oQ:=(SE K AU A6 DA OG)
example:zfj:=(CZ (B7 K AL) (AE 3) (oQ K a E E))
example:zfk:=(AZ AU)
example:YN:=[oP,zfj,zfk]
example:zfl:=(AS (BZ BF) (AE 1))
example:oR:=(B9<|EB K "list" (W3 K) AL (AG<|BD K AU 1))
example:oU:=(BQ (A9<|AF GD AU<|tC .non) (oR K a E E) B2)
example:zfo:=(CZ (B7 K AB) (AE 2) (oU K a E E))
example:zfp:=(AZ AL)
example:oV:=[zfl,zfo,zfp]
example:zfq:=(C0 K AB AL "place")
example:zfr:=(C0 K AB AU "value")
example:zfs:=(C0 K AB A6 "needs")
example:oX:=[zfq,zfr,zfs]
example:zft:=(AZ<|BS (DK<|AG<|C2 (FE K) (AG<|AR K AB "made")) (AE 0) (A9<|HW AB<|AR K AL "outs") AB 1 [0])
example:oY:=[zft]
example:zfu:=(AZ<|BD K (AR K (AF (BX K) (AR K AB "made") AL) "place") 0)
example:oZ:=[zfu]
example:o5:=(F9 (a "NoChange") E (AG<|tC<|.str "there is no change of such a number"))
example:o6:=(BQ (G2<|A9<|FO EK FB DN AU<|C2 (FE K) (AG<|AR K AB "made")) (o5 K a E E) B2)
example:zfx:=(CZ (B7 K AL) (AE 2) (o6 K a E E))
example:o7:=[zfx]
example:o8:=(AZ<|C2 (KY K) (AG<|R7 K AB))
example:o9:=(BQ (A9<|AF G9 AL<|tC .non) (o8 K a E E) B2)
example:pB:=(AZ<|C2 (KY K) (AG<|R7 K<|AF (BL K) (C2 (KW K) (AG AB)) (BZ<|AG AL)))
example:UL:=[o9,pB]
example:zf0:=(AZ A6)
example:zf1:=(BQ (JL (A9<|HW A6<|AR K AB "outs") (A9<|HW A6 AU)) (zf0 K a E E) B2)
example:zf2:=(CZ (B7 K<|AR K (AF (BX K) (AR K AB "made") AL) "needs") (AE 3) (zf1 K a E E))
example:zf3:=(AZ<|tC .non)
example:pC:=[zf2,zf3]
example:zf4:=(AS (C2 (KW K) (AG AL)) (AE 3))
example:pD:=(AS (AR K (AF (BX K) (AR K AB "made") BJ) "value") (N8 A6 (BD K (AR K (AF (BX K) (AR K AB "made") BJ) "place") 1) OR))
example:pE:=(BQ (A9<|IR BJ<|AR K AB "outs") (pD K a E E) B2)
example:zf7:=(CZ (B7 K<|AF (BX K) (AR K AB "made_in") AU) (AE 4) (pE K a E E))
example:zf8:=(AZ A6)
example:pF:=[zf4,zf7,zf8]
example:pG:=(AZ<|KU (FO EK EK (tC<|.str " ") AB (tC<|.str "~")) (AF (D3 K) (C2 (OV K) (AG AB)) (FI 37)))
example:YO:=[pG]
example:pH:=(AZ<|KU (FO EK EK DA (C2 (FE K) (AG AB)) ER) (C2 (M5 K) (AG<|BS (OU AB) (AE 0) CO (FO EK EK (tC<|.str "a") AB (tC<|.str "z")) 1 [])))
example:YQ:=[pH]
example:zgb:=(AZ<|AR K AB "book")
example:pJ:=[zgb]
example:pK:=(C0 K AB (BS (DK<|AG AL) (AE 0) CO (AF (EV K) (CU<|AG<|tC .non) AL) 1 [2]) "contents")
example:zgd:=(C0 K AB AU "width")
example:zge:=(C0 K AB DN "written")
example:YR:=[pK,zgd,zge]
example:zgf:=(AZ<|C2 (FE K) (AG<|AR K AB "contents"))
example:pL:=[zgf]
example:zgg:=(AZ<|AR K AB "width")
example:pM:=[zgg]
example:zgh:=(F9 (a "NoBlock") E (AG<|tC<|.str "there is no such block"))
example:pN:=(BQ (G2<|A9<|FO EK FB DN AL<|C2 (FE K) (AG<|AR K AB "contents")) (zgh K a E E) B2)
example:YS:=[pN]
example:zgj:=(C0 K AB AL "name_blocks")
example:zgk:=(C0 K AB AU "record_blocks")
example:zgl:=(C0 K AB A6 "piece_blocks")
example:zgm:=(C0 K AB BJ "width")
example:pO:=[zgj,zgk,zgl,zgm]
example:zgn:=(AZ<|CU<|CW (AF (EV K) (AR K AB "name_blocks") (AR K AB "width")) (AF (EV K) (AR K AB "record_blocks") (AR K AB "width")) (AF (EV K) (AR K AB "piece_blocks") (AR K AB "width")))
example:pP:=[zgn]
example:zgo:=(AZ<|AF (BL K) (AF (BL K) (AR K AB "name_blocks") (AR K AB "record_blocks")) (AR K AB "piece_blocks"))
example:pQ:=[zgo]
example:zgp:=(AZ<|CU<|A8 (AF (BL K) AL (AF FD AU<|AR K AB "width")) (AF CA AU<|AR K AB "width"))
example:pR:=[zgp]
example:zgq:=(AZ<|AF (BX K) AB AL)
example:pT:=(BQ (A9<|AF FB AL<|C2 (FE K) (AG AB)) (zgq K a E E) B2)
example:zgs:=(AZ DN)
example:YT:=[pT,zgs]
example:pU:=(AS (AF (BL K) (AF CA AB<|FI 920419823) J6) (AE 2))
example:pV:=(AS (AF (BL K) (AF CA (AF FD AB<|FI 920419823) (FI 899809363)) IB) (AE 3))
example:pW:=(AS (BZ BF) (AE 4))
example:pX:=(AS (AF CA (AF (BL K) (AF (EV K) AU (FI 70001)) A6) (FI 920419823)) (AE 2))
example:pY:=(AS (AF CA (AF (BL K) (AF (BL K) (AF (EV K) A6 (FI 60013)) (AF (EV K) AU AU)) CB) (FI 899809363)) (AE 3))
example:pZ:=(B9<|EB K "list" EL BJ<|AG<|AF (BL K) AU A6)
example:zgz:=(CZ (DK<|AG AL) (AE 5) (AI (pX K a E E) (AI (pY K a E E) (pZ K a E E))))
example:zg0:=(AZ BJ)
example:YU:=[pU,pV,pW,zgz,zg0]
example:p0:=(AS (BS (B7 K<|AM (a "View") "pieces_named" (QQ K a) E AB BF) (AE 0) (A9<|AF G6 (AF (BX K) (AR K AL "namings") AB) DA) (CU<|A8 (tC<|.str "shared") AB) 1 [0]) (AE 1))
example:p5:=(AS (BS (B7 K<|AM (a "View") "pieces_named" (QQ K a) E AB BF) (AE 0) (A9<|AF G9 (AF (BX K) (AR K AL "piece_values") AB) (tC .non)) (CU<|A8 (tC<|.str "empty") AB) 1 [0]) (AE 2))
example:p6:=(AS (BS (B7 K<|AM (a "View") "records_standing" (UE K a) E AB BF) (AE 0) (A9<|AF FB (AM (a "View") "count_of" (UF K a) (λ_=>E0) AL (AG AB)) (AF (BX K) (AR K AL "leads") AB)) (CU<|A8 (tC<|.str "few") AB) 1 [0]) (AE 3))
example:zg4:=(AZ<|AF (BL K) (AF (BL K) AL AU) A6)
example:YV:=[p0,p5,p6,zg4]
example:p7:=(AS (BS (FF K<|AG<|AR K AB "leads") (E8 K 2<|DJ (AE 0) (DJ (AE 1) E7)) (A9<|AF G6 AL DN) AB 2 []) (AE 1))
example:p8:=(AS (BS (B7 K AL) (AE 0) (A9<|AF (D3 K) (AF (BX K) (AR K AL "record_marks") AB) DA) (CU<|CW (tC<|.str "free") (tC<|.str "record") AB) 1 [0]) (AE 2))
example:p9:=(AS (BS (B7 K<|AM (a "View") "pieces_named" (QQ K a) E AB BF) (AE 0) (A9<|AF (D3 K) (AF (BX K) (AR K AL "piece_marks") AB) DA) (CU<|CW (tC<|.str "free") (tC<|.str "piece") AB) 1 [0]) (AE 3))
example:zg8:=(AZ<|AF (BL K) AU A6)
example:YW:=[p7,p8,p9,zg8]
example:zg9:=(AS (BZ BF) (AE 1))
example:zha:=(AS (BZ BF) (AE 2))
example:zhb:=(AS (AF (BX K) (AR K AB "leads") A6) (AE 4))
example:qB:=(B9<|EB K "list" EL AU<|AG<|CU<|CW (tC<|.str "left") (tC<|.str "record") A6)
example:qG:=(B9<|EB K "list" EL AL<|AG<|CU<|CW (tC<|.str "many") A6 BJ)
example:zhe:=(BQ (A9<|AF G6 (AM (a "View") "count_of" (UF K a) E AB (AG A6)) BJ) (qG K a E E) B2)
example:qH:=(BQ (A9<|AF (CQ K) BJ DN) (qB K a E E) (zhe K a E E))
example:zhg:=(CZ (B7 K<|AM (a "View") "records_standing" (UE K a) E AB BF) (AE 3) (AI (zhb K a E E) (qH K a E E)))
example:zhh:=(AZ<|AF (BL K) AL AU)
example:qI:=[zg9,zha,zhg,zhh]
example:qJ:=(C0 K AB AL "ground")
example:qK:=(C0 K AB (BZ BF) "made")
example:qM:=(C0 K AB (BS (DK<|AG<|AM (a "Plank") "blocks" (L4 K a) E AL BF) (AE 0) CO (BZ BF) 1 []) "made_in")
example:zhl:=(C0 K AB OQ "latest")
example:zhm:=(C0 K AB IN "outs")
example:YX:=[qJ,qK,qM,zhl,zhm]
example:qN:=(B9<|AM (a "Hold") "ask_for_changes" (PQ K a) E AB (AG AL))
example:qP:=(AS IN<|AE 2)
example:qS:=(FQ AU A6<|tC<|.bl true)
example:qU:=(CZ (B7 K AL) (AE 3) (qS K a E E))
example:qW:=(FQ AU BJ<|tC<|.bl true)
example:qY:=(CZ (B7 K<|AR K (AF (BX K) (AR K AB "made") A6) "needs") (AE 4) (qW K a E E))
example:rA:=(BQ (A9<|IR A6 AU) (qY K a E E) B2)
example:rE:=(CZ (SB K<|AG<|AM (a "Hold") "waiting" (NG K a) E AB BF) (AE 3) (rA K a E E))
example:rF:=(AZ<|BS (B7 K<|AM (a "Hold") "waiting" (NG K a) E AB BF) (AE 0) (A9<|IR AB AL) AB 1 [2])
example:rG:=[qN,qP,qU,rE,rF]
example:zhn:=(F9 (a "NoBlock") E (AG<|tC<|.str "there is no such place on the plank"))
example:zho:=(BQ (MS (G2<|A9<|FO EK FB DN (BD K AL 0) (AM (a "Plank") "blocks" (L4 K a) E (AR K AB "ground") BF)) (G2<|A9<|FO EK FB DN (BD K AL 1) (AM (a "Plank") "cells" (SO K a) E (AR K AB "ground") BF))) (zhn K a E E) B2)
example:rH:=[zho]
example:rJ:=(AS (C2 (OY K) (AG AU)) (AE 3))
example:rM:=(AS (BZ BF) (AE 4))
example:rO:=(AS (BZ BF) (AE 5))
example:rQ:=(AS (AM (a "Hold") "lack_of" (TQ K a) E AB (A8 E4 A6)) (AE 7))
example:rS:=(FQ A6 E4<|tC<|.bl true)
example:rV:=(B9<|EB K "list" EL BJ<|AG E4)
example:rX:=(B9<|EB K "list" EL CB<|AG<|CU<|A8 E4 IC)
example:rZ:=(BQ (A9<|AF G9 IC<|tC .non) (AI (rS K a E E) (rV K a E E)) (rX K a E E))
example:sA:=(BQ (JL (A9<|HW E4<|AR K AB "outs") (A9<|HW E4 A6)) (AI (rQ K a E E) (rZ K a E E)) B2)
example:sC:=(CZ (B7 K<|AF (BX K) (AR K AB "made_in") AL) (AE 6) (sA K a E E))
example:sD:=(AZ<|CU<|A8 BJ CB)
example:Y0:=[rJ,rM,rO,sC,sD]
example:sE:=(AZ<|KU (FO EK EK DA (C2 (FE K) (AG AB)) (FI 40)) (C2 (M5 K) (AG<|BS (OU AB) (AE 0) CO (BI (XX K a) (λ_=>E0) (AG AB)) 1 [])))
example:Y1:=[sE]
example:sG:=(B9<|AM (a "Plank") "ask_for_block" (L5 K a) E AB (AG AL))
example:zht:=(AZ<|C2 (KW K) (AG<|AF (BX K) (AR K AB "contents") AL))
example:Y2:=[sG,zht]
example:sI:=(B9<|AM (a "Plank") "ask_for_block" (L5 K a) E AB (AG AL))
example:zhv:=(F9 (a "NoBlock") E (AG<|tC<|.str "the list is not as long as a block"))
example:sJ:=(BQ (A9<|AF (D3 K) (C2 (FE K) (AG AU)) (AR K AB "width")) (zhv K a E E) B2)
example:sK:=(AS (C2 (KY K) (AG AU)) (N8 (AR K AB "contents") AL OR))
example:sL:=(RQ K AB DA OG "written")
example:Y3:=[sI,sJ,sK,sL]
example:zhz:=(AZ<|AM (a "Layout") "place_from" (K4 K a) E AB (A8 DN AL))
example:sM:=[zhz]
example:zh0:=(AZ<|AM (a "Layout") "place_from" (K4 K a) E AB (A8 (AR K AB "name_blocks") AL))
example:sN:=[zh0]
example:zh1:=(AZ<|AM (a "Layout") "place_from" (K4 K a) E AB (A8 (AF (BL K) (AR K AB "name_blocks") (AR K AB "record_blocks")) AL))
example:sO:=[zh1]
example:zh2:=(AZ<|AM (a "Layout") "place_from" (K4 K a) E AB (A8 (AM (a "Layout") "blocks_ahead_of_marks" (NE K a) E AB BF) AL))
example:sP:=[zh2]
example:zh3:=(AZ<|AM (a "Layout") "place_from" (K4 K a) E AB (A8 (AF (BL K) (AM (a "Layout") "blocks_ahead_of_marks" (NE K a) E AB BF) (AR K AB "record_blocks")) AL))
example:sQ:=[zh3]
example:zh4:=(AZ<|AF (BL K) (AF (BL K) (AM (a "Layout") "blocks_ahead_of_marks" (NE K a) E AB BF) (AR K AB "record_blocks")) (AR K AB "piece_blocks"))
example:sR:=[zh4]
example:zh5:=(AS (tC<|.str "abcdefghijklmnopqrstuvwxyz") (AE 2))
example:zh6:=(AS (BI (NP K a) E (A8 (AF FD AB NR) (FI 12))) (AE 3))
example:sT:=(AZ<|BS (DK<|AG AL) (AE 0) CO (AF (EV K) (AF (BX K) AL (AF CA (AF (BL K) (BD K AU 0) (AF FD AB ER)) (FI 26))) (AF (BL K) DA (AF CA AB ER))) 1 [2,3])
example:sU:=(BQ (A9<|AF (CQ K) (AF CA AB NR) DA) (sT K a E E) B2)
example:sV:=(AS (AF (BL K) NR (AF CA (BD K A6 0) zew)) (AE 4))
example:sW:=(AS (AF CA (BD K A6 1) BJ) (AE 5))
example:sX:=(AS (AF CA (AF (BL K) (AF (BL K) CB DA) (AF CA (BD K A6 2) (AF SK BJ DA))) BJ) (AE 6))
example:sY:=(AS (BZ BF) (AE 7))
example:sZ:=(AS (tC<|.str "") (AE 9))
example:tD:=(AS (AF (BL K) (AF (EV K) nS (C2 (R1 K) (AG<|AF (CQ K) YJ CB))) (AF (EV K) (AF FD nS<|FI 26) (C2 (R1 K) (AG<|AF (CQ K) YJ E4)))) (AE 11))
example:tE:=(AS (AF (BL K) nT (AF (BX K) AU (AF CA (AF (BL K) (AF (BX K) A6 (AF (BL K) IB YJ)) zex) (FI 26)))) (AE 9))
example:tF:=(CZ (DK<|AG BJ) (AE 10) (AI (tD K a E E) (tE K a E E)))
example:tG:=(B9<|EB K "list" EL IC<|AG nT)
example:tH:=(CZ (DK<|AG AL) (AE 8) (AI (sZ K a E E) (AI (tF K a E E) (tG K a E E))))
example:tI:=(AZ IC)
example:tJ:=[zh5,zh6,sU,sV,sW,sX,sY,tH,tI]
example:zik:=(AS (tC<|.str " !\"#$&'()*+,-./0123456789:;<=>?@ABCDEFGHIJKLMNOPQRSTUVWXYZ[\\]^_`") (AE 1))
example:zil:=(AS (AF (BL K) AL (tC<|.str "abcdefghijklmnopqrstuvwxyz{|}~")) (AE 1))
example:zim:=(AS (BI (NP K a) E (A8 AB IB)) (AE 2))
example:zin:=(AS (AF (BL K) DA (AF CA (BD K AU 0) MG)) (AE 3))
example:tK:=(AS (FI 40) (AE 3))
example:tL:=(BQ (A9<|AF (CQ K) (AF CA (AF FD (BD K AU 0) MG) ER) DN) (tK K a E E) B2)
example:Y4:=(AZ<|EB K "str" (WX K) (tC<|.str "") (AG<|BS (DK<|AG A6) (AE 0) CO (AF (BX K) AL (AF CA (AF (BL K) (BD K AU 1) (AF (EV K) (AF FD AB<|AF (BL K) DA (AF CA (BD K AU 2) IB)) (BD K AU 2))) (FI 94))) 1 [1,2]))
example:tM:=[zik,zil,zim,zin,tL,Y4]
example:zis:=(AS (BI (NP K a) E (A8 (AF FD AB MG) IB)) (AE 1))
example:zit:=(AZ<|CU<|QZ (AF (BL K) DA (AF CA (BD K AL 0) IB)) (AF (BL K) DA (AF CA (BD K AL 1) IB)) (AF (BL K) DA (AF CA (BD K AL 2) IB)) (AF (BL K) DA (AF CA AB MG)))
example:tN:=[zis,zit]
example:ziu:=(AZ<|AF (BL K) (AF (BL K) (BI (X2 K a) E (AG AB)) (BI (X3 K a) E (AG AB))) (BI (X4 K a) E (AG AB)))
example:tO:=[ziu]
example:ziv:=(AZ<|AF (BL K) (AF (BL K) (BI (X5 K a) E (AG AB)) (BI (X6 K a) E (AG AB))) (BI (X7 K a) E (AG AB)))
example:tP:=[ziv]
example:ziw:=(AZ<|BS (B7 K AL) (E8 K 2<|DJ (AE 0) (DJ (AE 1) E7)) CO (AF (BX K) (AM (a "Plank") "read" (K2 K a) (λ_=>E0) AU (AG AB)) AL) 2 [0])
example:tQ:=[ziw]
example:zix:=(AS (AM (a "Layout") "record_at" (GR K a) E AB (AG<|BD K AU 1)) (AE 3))
example:tR:=(AZ<|LZ [ (A6 ,(CU<|A8 (BD K AU 2) (BD K (AF (BX K) (AM (a "Plank") "read" (K2 K a) E AL (AG<|BD K A6 0)) (BD K A6 1)) 1))) ])
example:tS:=(BQ (A9<|AF (CQ K) (BD K AU 0) (tC<|.str "many")) (AI (zix K a E E) (tR K a E E)) B2)
example:tT:=(AZ<|LZ [ ((AM (a "Layout") "record_mark" (IV K a) E AB (AG<|BD K AU 1)) ,DN) ])
example:tU:=(BQ (A9<|AF (CQ K) (BD K AU 0) (tC<|.str "marked")) (tT K a E E) B2)
example:zi2:=(AZ<|LZ [ ((AM (a "Layout") "record_at" (GR K a) E AB (AG<|BD K AU 2)) ,(tC .non)) ,((AM (a "Layout") "record_mark" (IV K a) E AB (AG<|BD K AU 2)) ,DN) ])
example:tV:=(BQ (A9<|AF (CQ K) (BD K AU 1) (tC<|.str "record")) (zi2 K a E E) B2)
example:tW:=(AZ<|LZ [ ((AM (a "Layout") "piece_mark" (IW K a) E AB (AG<|BD K AU 2)) ,DN) ])
example:Y5:=[tS,tU,tV,tW]
example:tX:=(AS (AM (a "Plank") "read" (K2 K a) E AB (AG AU)) (AE 3))
example:tY:=(AS (BS (FF K<|AG A6) (E8 K 2<|DJ (AE 0) (DJ (AE 1) E7)) CO (VU AU (CU<|A8 A6 AB) AL) 2 [1,2]) (AE 4))
example:tZ:=(B9<|AM (a "Plank") "write" (O6 K a) E AB (A8 AU BJ))
example:t3:=(BQ (A9<|AF (D3 K) BJ A6) (tZ K a E E) B2)
example:t5:=(CZ (DK<|AG<|AM (a "Plank") "blocks" (L4 K a) E AB BF) (AE 2) (AI (tX K a E E) (AI (tY K a E E) (t3 K a E E))))
example:Y6:=[t5]
example:zja:=(AS (BZ BF) (AE 2))
example:zjb:=(AS IN<|AE 3)
example:zjc:=(AS (AM (a "Hold") "closure" (TN K a) E AB (AG AL)) (AE 4))
example:zjd:=(AS (AM (a "Hold") "block_of" (XT K a) E AB (AG<|BD K BJ 0)) (AE 5))
example:t7:=(B9<|EB K "list" EL AU<|AG CB)
example:t8:=(FQ A6 E4<|tC<|.bl true)
example:zjg:=(CZ (B7 K<|BD K (AM (a "Hold") "outcome" (PR K a) E AB (A8 CB A6)) 0) (AE 6) (t8 K a E E))
example:uA:=(AS (BS (B7 K BJ) (AE 0) (A9<|HW AB AL) AB 1 [3]) (AE 4))
example:zji:=(i4 (G8 K BJ) (AI (zjd K a E E) (AI (t7 K a E E) (AI (zjg K a E E) (uA K a E E)))))
example:zjj:=(AZ AU)
example:uB:=[zja,zjb,zjc,zji,zjj]
example:zjk:=(B9<|AM (a "Hold") "ask_for_place" (TM K a) E AB (AG AL))
example:zjl:=(AZ<|NA (AR K AB "latest") AL)
example:uC:=[zjk,zjl]
example:zjm:=(AS (AM (a "Plank") "read" (K2 K a) E (AR K AB "ground") (AG AL)) (AE 2))
example:zjn:=(AS (AM (a "Hold") "outcome" (PR K a) E AB (A8 AL IN)) (AE 3))
example:uD:=(FQ (AR K AB "outs") BJ (tC<|.bl true))
example:zjp:=(CZ (B7 K<|BD K A6 0) (AE 4) (uD K a E E))
example:zjq:=(B9<|AM (a "Plank") "write" (O6 K a) E (AR K AB "ground") (A8 AL<|AM (a "Hold") "laid_over" (TR K a) E AB (A8 AU AL)))
example:zjr:=(AZ A6)
example:uE:=[zjm,zjn,zjp,zjq,zjr]
example:zjs:=(AZ<|GL (a "Plank") (SN K a) E (A8 (AM (a "Layout") "blocks" (S6 K a) E AB BF) (AR K AB "width")))
example:uF:=[zjs]
example:zjt:=(AS (AM (a "Layout") "counts" (K6 K a) E AL BF) (AE 3))
example:zju:=(AS (BD K A6 1) (AE 4))
example:zjv:=(AS (BD K A6 2) (AE 5))
example:uG:=(C0 K AB (BI (LE K a) E (A8 AU<|BS (DK<|AG<|BD K A6 0) (AE 0) CO (AM (a "Layout") "name_at" (IU K a) (λ_=>E0) AL (AG AB)) 1 [1])) "name_values")
example:uH:=(C0 K AB (BI (LE K a) E (A8 AU<|BS (DK<|AG BJ) (AE 0) CO (AM (a "Layout") "record_at" (GR K a) (λ_=>E0) AL (AG AB)) 1 [1])) "record_values")
example:uI:=(C0 K AB (BI (LE K a) E (A8 AU<|BS (DK<|AG CB) (AE 0) CO (AM (a "Layout") "piece_at" (K5 K a) (λ_=>E0) AL (AG AB)) 1 [1])) "piece_values")
example:uJ:=(C0 K AB (BI (LE K a) E (A8 AU<|BS (DK<|AG BJ) (AE 0) CO (AM (a "Layout") "record_mark" (IV K a) (λ_=>E0) AL (AG AB)) 1 [1])) "record_marks")
example:uK:=(C0 K AB (BI (LE K a) E (A8 AU<|BS (DK<|AG CB) (AE 0) CO (AM (a "Layout") "piece_mark" (IW K a) (λ_=>E0) AL (AG AB)) 1 [1])) "piece_marks")
example:uL:=(C0 K AB (BI (QN K a) E (A8 BJ<|BS (B7 K<|AR K AB "name_values") (AE 0) (A9<|AF GD AB<|tC .non) (BD K AB 1) 1 [])) "leads")
example:uM:=(C0 K AB (BI (QN K a) E (A8 CB<|BI (UD K a) E (AG<|AR K AB "record_values"))) "namings")
example:uN:=(C0 K AB (BI (QN K a) E (A8 CB<|BI (UD K a) E (AG<|AM (a "View") "records_led_to" (X1 K a) E AB BF))) "reached")
example:uO:=[zjt,zju,zjv,uG,uH,uI,uJ,uK,uL,uM,uN]
example:zj4:=(AS (AM (a "Hold") "newest" (NF K a) E AB (AG AL)) (AE 4))
example:zj5:=(B9<|AM (a "Hold") "ask_for_changes" (PQ K a) E AB (AG A6))
example:zj6:=(AS (C2 (FE K) (AG<|AR K AB "made")) (AE 5))
example:zj7:=(B9<|EB K "list" EL (AR K AB "made") (AG<|GL (a "Change") (TJ K a) E (CW AL AU<|BI (TK K a) E (A8 A6 BJ))))
example:zj8:=(B9<|EB K "list" EL (AF (BX K) (AR K AB "made_in") (BD K AL 0)) (AG CB))
example:zj9:=(FQ (AR K AB "latest") AL CB)
example:zka:=(AZ CB)
example:uP:=[zj4,zj5,zj6,zj7,zj8,zj9,zka]
example:zkb:=(AS (AM (a "Hold") "newest" (NF K a) E AB (AG AL)) (AE 2))
example:zkc:=(AZ<|AF (BX K) (AM (a "Plank") "read" (K2 K a) E (AR K AB "ground") (AG<|BD K AL 0)) (BD K AL 1))
example:zkd:=(BQ (A9<|AF G9 AU<|tC .non) (zkc K a E E) B2)
example:zke:=(AZ<|AR K (AF (BX K) (AR K AB "made") AU) "value")
example:uQ:=[zkb,zkd,zke]
example:zkf:=(C0 K AB AL "plan")
example:zkg:=(C0 K AB (GL (a "Hold") (PN K a) E (AG AU)) "book")
example:zkh:=(C0 K AB IN "taken_out")
example:uR:=[zkf,zkg,zkh]
example:zki:=(AZ<|AM (a "Hold") "write" (TU K a) E (AR K AB "book") (AG AL))
example:uS:=[zki]
example:zkj:=(AZ A6)
example:zkk:=(BQ (A9<|AF (OZ K) (AM (a "Hold") "in_hand" (L8 K a) E AB (AG BJ)) AU) (zkj K a E E) B2)
example:zkl:=(CZ (FF K<|AG AL) (J1 K 2<|GO (AE 3) (GO (AE 4) J2)) (zkk K a E E))
example:zkm:=(F9 (a "NoRoom") E (AG<|tC<|.str "nothing of what is to be taken is free"))
example:uT:=[zkl,zkm]
example:uU:=(AZ<|BS (DK<|AG<|BD K (AM (a "Layout") "counts" (K6 K a) E (AR K AB "plan") BF) 0) (AE 0) CO (AM (a "Hold") "in_hand" (L8 K a) (λ_=>E0) (AR K AL "book") (AG<|AM (a "Layout") "name_at" (IU K a) (λ_=>E0) (AR K AL "plan") (AG AB))) 1 [0])
example:Y7:=[uU]
example:uV:=(AZ<|AM (a "Hold") "in_hand" (L8 K a) E (AR K AB "book") (AG<|AM (a "Layout") "record_at" (GR K a) E (AR K AB "plan") (AG AL)))
example:Y8:=[uV]
example:uW:=(AS (BZ<|AG BJ) (AE 5))
example:zkq:=(B9<|EB K "list" EL CB<|AG<|KZ (AR K AB "taken_out") AU)
example:zkr:=(BQ (A9<|IR AU<|AR K AB "taken_out") (zkq K a E E) B2)
example:Y9:=(AZ<|AM (a "Hold") "change" (FS K a) E (AR K AB "book") (CW (AM (a "Layout") "name_at" (IU K a) E (AR K AB "plan") (AG AL)) (CU<|A8 AU A6) CB))
example:ZA:=[uW,zkr,Y9]
example:zkt:=(AS (GL (a "View") (QR K a) E (A8 AB AL)) (AE 2))
example:zku:=(AZ<|AF (BL K) (BI (UG K a) E (AG AU)) (BI (X8 K a) E (AG AU)))
example:uX:=[zkt,zku]
example:uY:=(AZ<|AF (CQ K) (C2 (FE K) (AG<|BI (UG K a) E (AG<|GL (a "View") (QR K a) E (A8 AB AL)))) DN)
example:ZB:=[uY]
example:uZ:=(AS (BS (DK<|AG<|BD K (AM (a "Layout") "counts" (K6 K a) E AB BF) 0) (AE 0) CO (AM (a "Layout") "name_at" (IU K a) (λ_=>E0) AL (AG AB)) 1 [0]) (AE 2))
example:zkx:=(AZ<|BI (MA K a) E (CW AL AU<|CU<|AG<|tC .non))
example:ZC:=[uZ,zkx]
example:vA:=(AS (BS (DK<|AG<|BD K (AM (a "Layout") "counts" (K6 K a) E AB BF) 1) (AE 0) CO (AM (a "Layout") "record_mark" (IV K a) (λ_=>E0) AL (AG AB)) 1 [0]) (AE 2))
example:zkz:=(AZ<|BI (MA K a) E (CW AL AU<|CU<|A8 (tC .non) DN))
example:ZD:=[vA,zkz]
example:vB:=(AS (BS (DK<|AG<|BD K (AM (a "Layout") "counts" (K6 K a) E AB BF) 2) (AE 0) CO (AM (a "Layout") "piece_mark" (IW K a) (λ_=>E0) AL (AG AB)) 1 [0]) (AE 2))
example:zk1:=(AZ<|BI (MA K a) E (CW AL AU<|CU<|A8 (tC .non) DN))
example:ZE:=[vB,zk1]
example:vC:=(AZ<|C2 (W1 K) (AG<|BS (B7 K<|AM (a "Store") "name_cells" (NJ K a) E AB BF) (AE 0) (A9<|AF GD AB<|tC .non) (BD K AB 0) 1 []))
example:ZF:=[vC]
example:vD:=(AZ AU)
example:vE:=(BQ (JL (A9<|AF GD A6<|tC .non) (A9<|AF (CQ K) (BD K A6 0) AL)) (vD K a E E) B2)
example:zk5:=(CZ (FF K<|AG<|AM (a "Store") "name_cells" (NJ K a) E AB BF) (J1 K 2<|GO (AE 2) (GO (AE 3) J2)) (vE K a E E))
example:zk6:=(AZ<|tC .non)
example:vF:=[zk5,zk6]
example:zk7:=(AS (AM (a "Store") "standing" (HY K a) E AB (AG AL)) (AE 4))
example:vG:=(AZ<|AM (a "Hold") "change" (FS K a) E (AR K AB "book") (CW (AM (a "Layout") "record_at" (GR K a) E (AR K AB "plan") (AG AL)) (CU<|A8 (AF (BL K) (BD K BJ 0) AU) (BD K BJ 1)) A6))
example:vH:=[zk7,vG]
example:vI:=(AZ<|AM (a "Hold") "change" (FS K a) E (AR K AB "book") (CW (AM (a "Layout") "record_at" (GR K a) E (AR K AB "plan") (AG AL)) (CU<|A8 (BD K (AM (a "Store") "standing" (HY K a) E AB (AG AL)) 0) AU) A6))
example:ZG:=[vI]
example:zla:=(AS (BD K (AM (a "Store") "standing" (HY K a) E AB (AG AL)) 1) (AE 3))
example:vJ:=(AS (AM (a "Hold") "change" (FS K a) E (AR K AB "book") (CW (AM (a "Layout") "record_at" (GR K a) E (AR K AB "plan") (AG AL)) (tC .non) (BZ<|AG AU))) (AE 4))
example:vK:=(AS (BZ<|AG BJ) (AE 5))
example:vL:=(B9<|EB K "list" EL CB<|AG<|AM (a "Hold") "change" (FS K a) E (AR K AB "book") (CW E4 DN<|BZ<|AG BJ))
example:vM:=(CZ (B7 K<|AF (BL K) (BS (B7 K A6) (AE 0) CO (AM (a "Layout") "piece_mark" (IW K a) (λ_=>E0) (AR K AL "plan") (AG AB)) 1 [0]) (BZ<|AG<|AM (a "Layout") "record_mark" (IV K a) E (AR K AB "plan") (AG AL))) (AE 6) (vL K a E E))
example:zlf:=(AZ CB)
example:vN:=[zla,vJ,vK,vM,zlf]
example:zlg:=(F9 (a "NotSound") E (AG<|tC<|.str "the plank has faults"))
example:zlh:=(BQ (G2<|G8 K<|BI (YA K a) E (A8 AB AL)) (zlg K a E E) B2)
example:zli:=(AS (BI (X9 K a) E (A8 AB AL)) (AE 2))
example:zlj:=(AS OQ<|AE 3)
example:vO:=(B9<|EB K "dict" XC A6<|AG<|BI (YB K a) E (CW AB AL BJ))
example:zll:=(CZ (B7 K AU) (AE 4) (vO K a E E))
example:vP:=(B9<|BI (YC K a) E (A8 AL A6))
example:vQ:=(AZ AU)
example:ZH:=[zlh,zli,zlj,zll,vP,vQ]
example:zlo:=(F9 (a "NoName") E (AG<|tC<|.str "the text is no name"))
example:vR:=(BQ (G2<|G8 K<|C2 (M5 K) (AG<|BS (B7 K AU) (AE 0) CO (BI (XY K a) (λ_=>E0) (AG AB)) 1 [])) (zlo K a E E) B2)
example:zlq:=(F9 (a "Twice") E (AG<|tC<|.str "the new name stands already"))
example:zlr:=(BQ (A9<|AF GD (AM (a "Store") "cell_of" (MB K a) E AB (AG AL)) (tC .non)) (zlq K a E E) B2)
example:ZI:=[vR,zlr]
example:zls:=(AS (AM (a "Store") "cell_of" (MB K a) E AB (AG AL)) (AE 2))
example:zlt:=(F9 (a "NoName") E (AG<|tC<|.str "no such name stands"))
example:zlu:=(BQ (A9<|AF G9 AU<|tC .non) (zlt K a E E) B2)
example:zlv:=(AZ<|BD K (AF (BX K) (AM (a "Store") "name_cells" (NJ K a) E AB BF) AU) 1)
example:vS:=[zls,zlu,zlv]
example:vT:=(AS (AM (a "Hold") "change" (FS K a) E (AR K AB "book") (CW (AM (a "Layout") "name_at" (IU K a) E (AR K AB "plan") (AG<|AM (a "Store") "cell_of" (MB K a) E AB (AG AL))) (tC .non) AU)) (AE 3))
example:zlx:=(FQ (AR K AB "taken_out") AL A6)
example:zly:=(AZ A6)
example:ZJ:=[vT,zlx,zly]
example:vU:=(B9<|AM (a "Store") "ask_for_new_name" (P8 K a) E AB (A8 AL<|BZ<|AG AL))
example:zl0:=(AS (BI (TZ K a) E (A8 (AR K AB "plan") (AR K AB "book"))) (AE 2))
example:zl1:=(AS (BI (PY K a) E (A8 (AR K AB "plan") (AR K AB "book"))) (AE 3))
example:vV:=(AS (AM (a "Hold") "change" (FS K a) E (AR K AB "book") (CW (AM (a "Layout") "record_mark" (IV K a) E (AR K AB "plan") (AG AU)) DA (BZ BF))) (AE 4))
example:vW:=(AS (AM (a "Hold") "change" (FS K a) E (AR K AB "book") (CW (AM (a "Layout") "record_at" (GR K a) E (AR K AB "plan") (AG AU)) (CU<|A8 DA<|CU BF) (BZ<|AG BJ))) (AE 5))
example:vX:=(AZ<|BZ<|CW BJ CB<|AM (a "Store") "fill_cell" (P9 K a) E AB (QZ A6 AL AU CB))
example:ZK:=[vU,zl0,zl1,vV,vW,vX]
example:vY:=(B9<|AM (a "Store") "ask_for_new_name" (P8 K a) E AB (A8 AU<|BZ<|A8 AL AU))
example:zl6:=(AS (AM (a "Store") "record_of" (IX K a) E AB (AG AL)) (AE 3))
example:zl7:=(AS (BI (PY K a) E (A8 (AR K AB "plan") (AR K AB "book"))) (AE 4))
example:zl8:=(AS (AM (a "Store") "recount" (NK K a) E AB (CW A6 DA<|BZ BF)) (AE 5))
example:vZ:=(AZ<|BZ<|A8 CB<|AM (a "Store") "fill_cell" (P9 K a) E AB (QZ BJ AU A6 CB))
example:ZL:=[vY,zl6,zl7,zl8,vZ]
example:zma:=(AS (AM (a "Store") "record_of" (IX K a) E AB (AG AL)) (AE 2))
example:zmb:=(AS (AM (a "Store") "empty_cell" (QD K a) E AB (A8 AL<|BZ BF)) (AE 3))
example:v6:=(AZ<|BZ<|A8 A6<|AM (a "Store") "recount" (NK K a) E AB (CW AU (OA O5 DA) (BZ<|AG A6)))
example:zmd:=(BQ (A9<|AF G6 (BD K (AM (a "Store") "standing" (HY K a) E AB (AG AU)) 0) DA) (v6 K a E E) B2)
example:v7:=(AZ<|AF (BL K) (BZ<|AG A6) (AM (a "Store") "drop_record" (T5 K a) E AB (A8 AU A6)))
example:v8:=[zma,zmb,zmd,v7]
example:zmf:=(AS (AM (a "Store") "record_of" (IX K a) E AB (AG AL)) (AE 3))
example:zmg:=(F9 (a "NoPiece") E (AG<|tC<|.str "the text is none of a piece"))
example:zmh:=(BQ (G2<|G8 K<|BI (XZ K a) E (AG AU)) (zmg K a E E) B2)
example:zmi:=(AS (BI (T2 K a) E (A8 (AR K AB "plan") (AR K AB "book"))) (AE 4))
example:v9:=(AS (AM (a "Hold") "change" (FS K a) E (AR K AB "book") (CW (AM (a "Layout") "piece_mark" (IW K a) E (AR K AB "plan") (AG BJ)) DA (BZ BF))) (AE 5))
example:wA:=(AS (AM (a "Hold") "change" (FS K a) E (AR K AB "book") (CW (AM (a "Layout") "piece_at" (K5 K a) E (AR K AB "plan") (AG BJ)) AU (BZ<|AG CB))) (AE 6))
example:wB:=(AZ<|BZ<|CW CB E4<|AM (a "Store") "regroup" (QC K a) E AB (CW A6 (AF (BL K) (BD K (AM (a "Store") "standing" (HY K a) E AB (AG A6)) 1) (CU<|AG BJ)) (BZ<|AG E4)))
example:wC:=[zmf,zmh,zmi,v9,wA,wB]
example:zmm:=(AS (AM (a "Store") "record_of" (IX K a) E AB (AG AL)) (AE 3))
example:zmn:=(AS (BD K (AM (a "Store") "standing" (HY K a) E AB (AG A6)) 1) (AE 4))
example:zmo:=(F9 (a "NoPiece") E (AG<|tC<|.str "the record has no piece at that place"))
example:wD:=(BQ (G2<|A9<|FO EK FB DN AU<|C2 (FE K) (AG BJ)) (zmo K a E E) B2)
example:zmq:=(AS (AM (a "Store") "regroup" (QC K a) E AB (CW A6 (AF (BL K) (MZ (M4 K) BJ MY (K0 AU)) (MZ (M4 K) BJ (K0<|AF (BL K) AU DA) MY)) (BZ BF))) (AE 5))
example:wE:=(AZ<|BZ<|A8 CB<|AM (a "Hold") "change" (FS K a) E (AR K AB "book") (CW (AM (a "Layout") "piece_mark" (IW K a) E (AR K AB "plan") (AG<|AF (BX K) BJ AU)) DN (BZ<|AG CB)))
example:wF:=[zmm,zmn,wD,zmq,wE]
example:zms:=(AS (BD K (AM (a "Store") "standing" (HY K a) E AB (AG<|AM (a "Store") "record_of" (IX K a) E AB (AG AL))) 1) (AE 2))
example:zmt:=(AZ<|BS (B7 K AU) (AE 0) CO (AM (a "Hold") "in_hand" (L8 K a) (λ_=>E0) (AR K AL "book") (AG<|AM (a "Layout") "piece_at" (K5 K a) (λ_=>E0) (AR K AL "plan") (AG AB))) 1 [0])
example:wG:=[zms,zmt]
example:zmu:=(AS (AM (a "Store") "record_of" (IX K a) E AB (AG AL)) (AE 2))
example:wH:=(AS (BZ<|A8 (AM (a "Layout") "name_at" (IU K a) E (AR K AB "plan") (AG<|AM (a "Store") "cell_of" (MB K a) E AB (AG AL))) (AM (a "Layout") "record_at" (GR K a) E (AR K AB "plan") (AG AU))) (AE 3))
example:wI:=(AZ<|AF (BL K) A6 (BS (B7 K<|BD K (AM (a "Store") "standing" (HY K a) E AB (AG AU)) 1) (AE 0) CO (AM (a "Layout") "piece_at" (K5 K a) (λ_=>E0) (AR K AL "plan") (AG AB)) 1 [0]))
example:wJ:=[zmu,wH,wI]
example:zmx:=(B9<|BI (YD K a) E (A8 AB AL))
example:zmy:=(AZ<|GL (a "Store") (NI K a) E (A8 AB AL))
example:wK:=[zmx,zmy]
example:zmz:=(AS (AM (a "Store") "link" (QE K a) E AB (A8 AL AU)) (AE 3))
example:zm0:=(AS (AM (a "Store") "record_of" (IX K a) E AB (AG AL)) (AE 4))
example:wL:=(AS (AM (a "Store") "empty_cell" (QD K a) E AB (A8 AL<|BZ<|AG<|BD K A6 1)) (AE 5))
example:wM:=(AZ<|AF (BL K) A6 (BZ<|A8 CB<|AM (a "Store") "recount" (NK K a) E AB (CW BJ (OA O5 DA) (BZ<|AG CB))))
example:wN:=[zmz,zm0,wL,wM]
example:zm3:=(AS (AM (a "Store") "hold" (P0 K a) E AB BF) (AE 2))
example:wO:=(AS (BS (B7 K<|AM (a "Store") "places_of" (X0 K a) E AB (AG AL)) (AE 0) CO (AM (a "Hold") "newest" (NF K a) (λ_=>E0) AL (AG AB)) 1 [2]) (AE 3))
example:wP:=(AZ<|BI (XU K a) E (A8 AU<|BS (B7 K A6) (AE 0) (A9<|AF GD AB<|tC .non) AB 1 []))
example:wQ:=[zm3,wO,wP]
example:zm6:=(AS (BI (NP K a) E (A8 (AF FD AL ER) YI)) (AE 3))
example:zm7:=(AS (AF (BX K) AU (AF CA (BD K A6 0) J6)) (AE 4))
example:zm8:=(AS (AF (BX K) AU (AF CA (BD K A6 1) J6)) (AE 5))
example:wR:=(AS (tC<|.bl true) (AE 6))
example:zna:=(B9<|AM (a "Store") "make" (T6 K a) E1 AB (AG BJ))
example:znb:=(B9<|AM (a "Store") "link" (QE K a) E1 AB (A8 BJ CB))
example:znc:=(B9<|AM (a "Store") "put" (T8 K a) E1 AB (A8 BJ<|BI (YE K a) E1 (AG<|BD K A6 2)))
example:znd:=(B9<|AM (a "Store") "take" (T9 K a) E1 AB (A8 BJ<|AF CA (BD K A6 2) IB))
example:wS:=(B9<|AM (a "Store") "move" (UA K a) E1 AB (A8 BJ CB))
example:wT:=(B9<|AM (a "Store") "cut" (T7 K a) E1 AB (AG BJ))
example:wU:=(BQ (A9<|AF (CQ K) (AF CA AL ER) MG) (wS K a E E1) (wT K a E E1))
example:wV:=(BQ (A9<|AF (CQ K) (AF CA AL ER) J6) (znd K a E E1) (wU K a E E1))
example:wW:=(BQ (A9<|AF FB (AF CA AL ER) J6) (znc K a E E1) (wV K a E E1))
example:wX:=(BQ (A9<|AF (CQ K) (AF CA AL ER) NR) (znb K a E E1) (wW K a E E1))
example:wY:=(BQ (A9<|AF FB (AF CA AL ER) NR) (zna K a E E1) (wX K a E E1))
example:ZM:=(AS (tC<|.bl false) (AE 6))
example:wZ:=(WG (λE1=>(wY K a E E1)) (WF (λcls=>wf K cls<|.ref<|a "HoldError") (ZM K a E E) WE))
example:Q0:=(AZ<|CU<|A8 BJ E4)
example:w5:=[zm6,zm7,zm8,wR,wZ,Q0]
example:zno:=(AS (AM (a "Store") "texts" (QF K a) E AB (AG AU)) (AE 3))
example:w8:=(B9<|AM (a "Store") "write" (QS K a) E AB (AG BJ))
example:znq:=(CZ (B7 K<|BI (UC K a) E (A8 AB AU)) (AE 4) (w8 K a E E))
example:w9:=(FQ AL AU A6)
example:zns:=(BQ (A9<|AF (M6 K) AU (AM (a "Store") "names" (P7 K a) E AB BF)) (AI (zno K a E E) (AI (znq K a E E) (w9 K a E E))) B2)
example:xA:=[zns]
example:znt:=(AS (AM (a "Store") "names" (P7 K a) E AB BF) (AE 2))
example:znu:=(AZ<|tC<|.bl false)
example:xB:=(BQ (MS (A9<|AF (WU K) A6 AU) (JL (A9<|AF GD (KZ AL A6) (tC .non)) (A9<|AF (D3 K) (AM (a "Store") "texts" (QF K a) E AB (AG A6)) (KZ AL A6)))) (znu K a E E) B2)
example:xC:=(XD AL (AE 3) (xB K a E E))
example:znx:=(AZ<|tC<|.bl false)
example:xD:=(BQ (A9<|AF (D3 K) (BI (UC K a) E (A8 AB A6)) (BZ BF)) (znx K a E E) B2)
example:znz:=(CZ (B7 K AU) (AE 3) (xD K a E E))
example:xE:=(AZ<|AF (CQ K) (AM (a "Hold") "waiting" (NG K a) E (AM (a "Store") "hold" (P0 K a) E AB BF) BF) (BZ BF))
example:xF:=[znt,xC,znz,xE]
example:zn1:=(AS (BI (YH K a) E (CW AB AU A6)) (J1 K 2<|GO (AE 4) (GO (AE 5) J2)))
example:xG:=(B9<|VW AL BJ<|tC .non)
example:xH:=(BQ (JL (G8 K CB) (A9<|AF G6 (AF CA AU ER) J6)) (xG K a E E) B2)
example:xI:=(FQ AL E4<|tC .non)
example:xJ:=(CZ (B7 K<|C2 (O0 K) (AG AL)) (AE 6) (xI K a E E))
example:xK:=(BQ (JL (G8 K CB) (A9<|AF (M6 K) (AF CA AU ER) (CU<|CW IB YI J6))) (xJ K a E E) B2)
example:xL:=[zn1,xH,xK]
example:zn6:=(AS (BI (YF K a) E (AG<|BI (TD K a) E (A8 AB DN))) (AE 1))
example:zn7:=(AS (BI (YG K a) E (A8 (BI (TD K a) E (A8 AB DA)) J6)) (AE 2))
example:zn8:=(AS (GL (a "Layout") (S5 K a) E (QZ (BD K AL 0) (BD K AL 1) (BD K AL 2) (BD K AL 3))) (AE 3))
example:zn9:=(AS (AM (a "Layout") "plank" (S7 K a) E A6 BF) (AE 4))
example:zoa:=(AS (GL (a "Store") (NI K a) E (A8 A6 BJ)) (AE 5))
example:zob:=(AS IN<|AE 6)
example:xM:=(B9<|BI (UH K a) E (QZ CB E4 (AF FD IC ER) AU))
example:xN:=(B9<|AM (a "Store") "write" (QS K a) E CB (AG<|AF CA (AF FD IC ER) (AM (a "Plank") "blocks" (L4 K a) E BJ BF)))
example:xO:=(B9<|BI (UI K a) E (CW CB E4<|AF (BX K) AU (AF CA (AF FD IC<|FI 24) J6)))
example:xQ:=(AS (BI (QU K a) E (A8 A6 BJ)) (AE 5))
example:zof:=(AZ<|tC<|.bl false)
example:xR:=(BQ (G2<|G8 K<|BI (QY K a) E (A8 CB E4)) (zof K a E E) B2)
example:xS:=(BQ (MS (A9<|AF (CQ K) (AF CA IC ER) MG) (A9<|AF G6 (AF CA (AF FD IC ER) IB) DN)) (xO K a E E) (AI (xQ K a E E) (xR K a E E)))
example:xT:=(BQ (A9<|AF FB (AF CA IC ER) MG) (xN K a E E) (xS K a E E))
example:xU:=(BQ (A9<|AF FB (AF CA IC ER) YI) (xM K a E E) (xT K a E E))
example:zok:=(CZ (B7 K<|MZ (M4 K) AB (K0 NR) MY) (AE 7) (xU K a E E))
example:xV:=(AZ<|BI (QY K a) E (A8 (BI (QU K a) E (A8 A6 BJ)) E4))
example:xW:=[zn6,zn7,zn8,zn9,zoa,zob,zok,xV]
end
local macro_rules
 |`(tactic|push_cast [$l,*])=>do
  let g:=fun (s:String)=>((s.splitOn " ").map fun n=>Lean.mkIdent n.toName).toArray
  let a←(g "Qy Qz Rb Rc Rg Rh Rj Rk za8 zba Rl Rm Rp zbe zbn Rq Rv Rw Rx za1 zaz za3 zaw za6 Ry Rz Sb Sc Sd Sg zdu zdx zd0 Sh Sj Sk Sl Sm zdr Sq Sv zdg zdk zdh zdl Sw zal zam O4 zan zao zap zaq mF zar zas zbh zbi zbj zbk zbl Sx Sy Tb Tc Td Tk Tm Tl zbt zbs zbu Tp Tq Th Tg Tj Tv zbz zb0 zb1 zb2 zb3 zb4 zb5 zb6 zb7 zb8 zb9 zca zcb zcc zcd zce zcf zcg zch zci zcj zck Tw zcq Tx zct zcw zcz zc2 zc5 zc8 zdb Xd Xg Xh Wz Wy zdp zdo Zb zaa zab zac zad Ul Uk zaf zai zdd").mapM fun n=>`(Lean.Parser.Tactic.simpLemma|↓$n:term)
  let b←(g "SK CA FD rPw O5 Qc Ends.drop AV zat zau cv m_ List.reduceReplicate ya Nat.reduceSub ul rg List.getElem?_cons_zero List.getElem?_cons_succ xm Option.join_some List.set_cons_zero List.set_cons_succ V.int.injEq V.ref.injEq V.bl.injEq V.str.injEq List.cons.injEq and_true true_and q1 q2 q3 q4 qL qR reduceCtorEq false_and and_false or_false false_or qF decide_eq_true_eq xk G_ qD eq_self if_true wq if_false ite_true Bool.true_eq_false qC qA Int.reduceToNat Int.reduceLT Int.reduceLE Int.reduceEq Nat.reduceLeDiff cb not_true_eq_false not_false_eq_true").mapM fun n=>`(Lean.Parser.Tactic.simpLemma|$n:term)
  `(tactic|simp only [$a,*,$b,*,$l,*])
def nO{H:Hp}{t:Addr}{o:HO}{P:Hp->Prop}(h:H t=none)(k:∀ H',Same H H'->H' t=some o->P H'):P (upd H t o):=k _ (AK h) AD
def ES{H:Hp}{t:Addr}{o:HO}(h:H t=none):∃ H',upd H t o=H'/\Same H H'/\H' t=some o:={_,rfl,AK h,AD}
section
variable{K:ι}{a:Ad}{vs:Oj}{H:Hp}{Q:VK}{E:XK}
local macro_rules
 |`(command|example:($n:ident,$x,*):=$t:term)=>do
  let q:=x.getElems
  let i:=Lean.mkIdent
  let l:Array Lean.Term:=(List.replicate (q[2]!.raw.isNatLit?.getD 0) (Lean.Syntax.mkStrLit "")).toArray
  let a<-`($(q[0]!) $(i `K) $(i `a) $(i `vs) $(i `H) $(i `Q) $(i `E))
  let b<-`($(q[1]!) $(i `K) $(i `a) (fun _=>$(i `E)) (AW $(i `Q)) (AV [$l,*] $(i `vs)) $(i `H))
  if q.size=4 then `(command|def $n:ident ($(i `h):ident : $a) : $b := $t) else `(command|def $n:ident : $a → $b := $t)
example:(zom,TD,YT,2):=by
 apply u3;rintro s ns k ⟨rfl,hs,hl,q⟩;push_cast[YT,↓pT_];refine{_,(.inl {_,hs,(ζ _).symm}),?_};split;rename_i hk;refine DC hs rfl  ?_ q;unfold TC;simp[(dr.mp hk)]
 have:TC ns k=0:=by
  unfold TC;rw[wj,bq (by lia)];rfl
 rw[this]at q;exact q
example:(zon,SN,YR,3):=by
 apply u4;rintro p dx m w ⟨rfl,T,hp,hm,h1,h2,q⟩;push_cast[YR,↓pK_];refine{i0,by lia,(KR (CF m<|oA hm rfl) (λi ys H'=>Same H H'/\∃ ts:List _,ys=ts.map V.ref/\Paired (λt r=>H' t=some (.tup r)) ts (bd i<|bd w .non)) {Same.refl _,[],rfl,.nil} (λi ys H' hi hl hzz=>?_) (λys H' hl hzz cl BC=>?_))};obtain⟨s,ts,e,P⟩:=hzz
 have fin:∀ (t':Addr) (H2:Hp),Same H' H2->H2 t'=some _->Same H H2/\∃ ts':List _,ys++[V.ref t']=ts'.map _/\Paired (λt r=>H2 t=some (.tup r)) ts' (bd _ _):=λt' H2 s2 e2=>by
  refine{s.trans s2,ts++[t'],by rw[e,ak];rfl,?_};rw[List.replicate_succ'];exact Paired.snoc (Paired.mapP P λt r z=>s2 _ _ z) e2
 refine{by decide,λt ht=>.inr ?_}
 have s1:Same H' (upd H' t<|.tup [V.non]):=λb o z=>by rw[AH (BE z ht)];exact z
 refine x3 t w _ {rfl,rfl,SqT.of AD,by simp,by lia,by lia,CF _ (by simp;exact oA h2 rfl),λe1=>?_,λe1 u hu=>?_};refine fin t _ s1 ?_;rw[AD,(cg e1)];rfl;rw[k8];exact fin u _ (s1.trans λb o z=>by rw[AH (BE z hu)];exact z) AD;obtain⟨s,ts,e,P⟩:=hzz
 have npc:=BE (s _ _ hp) BC;refine y3 {(by rw[AH npc];exact s _ _ hp),T.cl,T.nC,by decide,y3 {AD,T.cl,T.nW,JW (by decide),y3 {AD,T.cl,T.nN,JW  (py (JW  (by decide))),?_}}};rw[FW,FW];refine q cl _ (s.free BC) {⟨dx,AD⟩,{ts,by rw[AH npc.symm,AD,e],?_},λr hr=>?_,by simpa using hm,h2} λb o eb hb=>?_;refine Paired.mapP P λt r z=>?_;rw[AH (BB z (s _ _ hp) (by intro z';cases z')),AH<|BE z BC];exact z;rw[q_ hr,nq];rw[AH hb,AH<|BE (s _ _ eb) BC];exact s _ _ eb
example:(zoo,L4,pL,1):=by
 apply u5;rintro p cl w rows n ⟨rfl,T,P,q⟩;obtain⟨ts,h2,h3⟩:=P.ls;obtain⟨dx,h1⟩:=P.ob;refine y3 {h1,T.cl,T.nC,_,SL _ _ _,_,.inl {_,SqL.of h2,?_},q};rw[ζ,h3.length]
example:(zop,SO,pM,1):=by
 apply u5;rintro p cl w rows n ⟨rfl,T,P,q⟩;obtain⟨dx,h1⟩:=P.ob;exact y3 {h1,T.cl,T.nW,_,mK _ _ _,q}
example:(zoq,L5,YS,2):=by
 apply u6;rintro p cl w rows n b ⟨rfl,T,P,q,qe⟩;obtain⟨ts,h2,h3⟩:=P.ls;obtain⟨dx,h1⟩:=P.ob;push_cast[YS,↓pN_];split;rename_i h0;refine y3 {h1,T.cl,T.nC,_,SL _ _ _,_,.inl {_,SqL.of h2,(by rw[ζ,h3.length])},?_};split;exact{by decide,qe (by lia)};exact q h0 (by lia);exact{by decide,qe (by lia)}
def xX(cl:Addr)(w n:Int):(pf cl w n).lookup ("ask_for_block":Str)=none:=L0 _ _ _ (by decide) (by decide) (by decide)
example:(zor,K2,Y2,2):=by
 apply u6;rintro p cl w rows n b ⟨rfl,T,P,q,qe⟩;obtain⟨dx,h1⟩:=P.ob;obtain⟨ts,h2,h3⟩:=P.ls;push_cast[Y2,↓sG_,L5];refine y2 {h1,xX _ _ _,T,x3 cl w _ {⟨n,P⟩,λh0 hb=>y3 {h1,T.cl,T.nC,_,SL _ _ _,?_},qe}};obtain⟨i,rfl⟩:∃ i:Nat,b=i:={_,(gi h0).symm}
 have hi:=dr.mp hb;obtain⟨t,et,ht⟩:=G7 h3<|η hi;exact DC (SqL.of h2) rfl (v:=.ref t) (by rw[τ,et];rfl) {_,.inr<|SqT.of ht,q i _ rfl<|η hi}
example:(zos,O6,Y3,3):=by
 apply u8;rintro p cl w rows n b v xs ⟨rfl,T,P,hv,hx,q,qe⟩;obtain⟨ts,h2,h3⟩:=P.ls;obtain⟨dx,h1⟩:=P.ob
 have npc:=P.ne;push_cast[Y3,↓sI_,↓sJ_,↓sK_,↓sL_,L5];refine y2 {h1,xX _ _ _,T,x3 cl w _ {⟨n,P⟩,λh0 hb=>{_,.inl ⟨_,hv,rfl⟩,y3 {h1,T.cl,T.nW,_,mK _ _ _,?_}},λz=>qe<|z.imp id .inl}};obtain⟨i,rfl⟩:∃ i:Nat,b=i:={_,(gi h0).symm}
 push_cast[];split;exact{by decide,qe (.inr (.inr (by lia)))}
 have hw:xs.length=w:=by lia
 refine{xs,.inl {hv,λt ht=>?_}}
 have ntp:=BE h1 ht
 have ntc:=BE h2 ht;refine y3 {by rw[AH ntp];exact h1,T.cl,T.nC,_,SL _ _ _,(x4 cl _ i i {rfl,rfl,by rw[AH ntc];exact h2,?_,?_})};unfold HP;rw[if_pos (i0),if_pos (by rw[ζ,h3.length];exact hb),cb];refine y3 {by rw[AH npc,AH ntp];exact h1,T.cl,T.nN,_,zd7 _ _ _,?_};push_cast[];refine y2 {by rw[AH npc,AH ntp];exact h1,by show 3<1000;decide,(q i rfl (dr.mp hb) hw _ {⟨dx,AD⟩,{ts.set i t,?_,?_},λr hr=>?_,by rw[jw];exact P.sz,P.sw} λx o ex hxn=>?_)};rw[AH npc.symm,AD,List.map_set]
 have keep:∀ u r,H u=some (.tup r)->upd (upd (upd H t<|.tup xs) cl (.lst<|(ts.map V.ref).set i (.ref t))) p (.ins (a "Plank") dx (pf cl w<|n+1)) u=some _:=λu r hu=>by
  rw[AH (BB hu h1 (by intro z;cases z)),AH (BB hu h2 (by intro z;cases z)),AH<|BE hu ht];exact hu
 refine k7 ?_ i<|Paired.mapP h3 keep;rw[AH ntp.symm,AH ntc.symm,AD];rcases qu hr with z|z
 exact P.wd r z;rw[z];exact hw
 have hxn:x≠p/\x≠cl:={λz=>hxn<|.inl z,λz=>hxn<|.inr z}
 rw[AH hxn.1,AH hxn.2,AH<|BE ex ht];exact ex
def Q1(cl:Addr)(w n:Int):(pf cl w n).lookup ("read":Str)=none:=L0 _ _ _ (by decide) (by decide) (by decide)
def xY(cl:Addr)(w n:Int):(pf cl w n).lookup ("write":Str)=none:=L0 _ _ _ (by decide) (by decide) (by decide)
def zot:SN K a vs H Q E->vs.length=3:=by
 apply u4;rintro z z z z ⟨rfl,z⟩
 rfl
def zou:L4 K a vs H Q E->vs.length=1:=by
 apply u5;rintro z z z z z ⟨rfl,z⟩
 rfl
def zov:SO K a vs H Q E->vs.length=1:=by
 apply u5;rintro z z z z z ⟨rfl,z⟩
 rfl
def zow:L5 K a vs H Q E->vs.length=2:=by
 apply u6;rintro z z z z z z ⟨rfl,z⟩
 rfl
def zox:K2 K a vs H Q E->vs.length=2:=by
 apply u6;rintro z z z z z z ⟨rfl,z⟩
 rfl
def zoy:O6 K a vs H Q E->vs.length=3:=by
 apply u8;rintro z z z z z z z z ⟨rfl,z⟩
 rfl
def FJ(h:fs.length<n):(BO f v fs).length<n+1:=cr (OD f v fs) (py h)
def SameBut.none{b:Addr}{H H1:Hp}{x:Addr}(s:SameBut (· =b) H H1)(hb:H1 b≠xj)(h:H1 x=xj):H x=xj:=by
 cases e:H x with
 |none=>rfl
 |some o =>
  have:x≠b:=λz=>hb<|z ▸ h;rw[s _ _ e this]at h;cases h
example:(zoz,TJ,oX,4):=by
 apply u5;rintro x dx pl v nt ⟨rfl,T,hx,q⟩;refine y3 {hx,T.cc,T.nP,by decide,y3 {AD,T.cc,T.nV,FJ  (by decide),y3 {AD,T.cc,T.nN,FJ  (FJ  (by decide)),?_}}};rw[FW,FW];exact q
def zo0:TJ K a vs H Q E->vs.length=4:=by
 apply u5;rintro z z z z z ⟨rfl,z⟩
 rfl
example:(zo1,PN,YX,2):=by
 apply u7;rintro b gp cl dx w rows n ⟨rfl,T,TP,P,hb,q⟩;push_cast[YX,↓qJ_,↓qK_,↓qM_]
 have e1:upd H b _ b=some (.ins (HC a) dx (BO "ground" (.ref gp) [])):=AD;refine y3 {hb,T.cl,T.nG,by decide,by decide,?_}
 have s1:SameBut _ H (upd H b<|.ins (HC a) dx (BO "ground" (.ref gp) [])):=λx o e n=>by rw[AH n];exact e
 revert e1 s1;generalize upd H b _=H1;intro e1 s1 m hm
 have hmH:=s1.none (by rw[e1];intro z;cases z) hm
 have nbm:=BE e1 hm;refine y3 {by rw[AH nbm];exact e1,T.cl,T.nM,FJ  (by decide),?_}
 have s2:SameBut _ H (upd (upd H1 m<|.lst []) b (.ins (HC a) dx (BO "made" (.ref m) (BO "ground" (.ref gp) [])))):=(s1.upd<|.inr hmH).upd (.inl rfl)
 have e2:upd (upd H1 m<|.lst []) b _ b=some (.ins (HC a) dx (BO "made" (.ref m) (BO "ground" (.ref gp) []))):=AD
 have m2:upd (upd H1 m<|.lst []) b (.ins (HC a) dx (BO "made" (.ref m) (BO "ground" (.ref gp) []))) m=some (.lst []):=by rw[AH nbm.symm,AD]
 revert s2 e2 m2;generalize upd _ b _=H2;intro s2 e2 m2
 have P2:PlankAt a H2 gp cl w rows n:=by
  obtain⟨⟨dx',f1⟩,⟨ts,f2,f3⟩,r1,r2,r3⟩:=P;exact{{_,s2 _ _ f1 (BB f1 hb (NB (by simp[pf])))},{ts,s2 _ _ f2 (BB f2 hb (by intro z;cases z)),Paired.mapP f3 λt r z=>s2 _ _ z (BB z hb (by intro z;cases z))},r1,r2,r3}
 obtain⟨dp,hp⟩:=P2.ob;refine y2 {hp,L0 _ _ _ (by decide) (by decide) (by decide),x5 gp cl w _ n {rfl,TP,P2,i0,by have:=P.sz;lia,?_}};rw[cb];refine KR (CF _<|oA P.sz rfl) (λi ys H'=>Same H2 H'/\∃ ls:List _,ys=ls.map V.ref/\ls.Nodup/\∀ l∈ls,H' l=some (.lst [])/\H2 l=none) {Same.refl _,[],rfl,jr,by simp} (λi ys H' hi hl hzz=>?_) (λys H' hl hzz mi HK=>?_);obtain⟨s,ls,ey,nd,al⟩:=hzz;refine{by decide,λl hl'=>{s.trans<|AK hl',ls++[l],by rw[ey,ak];rfl,(n_.mpr {nd,by simp,λx hx y hy e=>by rw[aa]at hy;subst hy e;rw[(al _ hx).1]at hl';cases hl'}),λx hx=>?_}};rcases a_.mp hx with hx|hx
 exact{AK hl' _ _ (al x hx).1,(al x hx).2};rw[aa.mp hx];exact{AD,s.free hl'};obtain⟨s,ls,ey,nd,al⟩:=hzz
 have s3:SameBut (· =b) H (upd H' mi<|.lst ys):=by
  intro x o e nx
  have e':=s _ _<|s2 _ _ e nx;rw[AH (BE e' HK)];exact e'
 have e3:upd H' mi (.lst ys) b=some (.ins (HC a) dx (BO "made" (.ref m) (BO "ground" (.ref gp) []))):=by rw[AH (BE (s _ _ e2) HK)];exact s _ _ e2
 have m3:upd H' mi (.lst ys) m=some (.lst []):=by rw[AH (BE (s _ _ m2) HK)];exact s _ _ m2
 have i3:upd H' mi (.lst ys) mi=some (.lst<|ls.map V.ref):=by rw[AD,ey]
 have l3:∀ l∈ls,upd H' mi (.lst ys) l=some _/\H l=none/\l≠mi/\l≠m:=λl hl'=>by
  have z:=al l hl'
  have n1:=BE z.1 HK;exact{by rw[AH n1];exact z.1,s2.none (by rw[e2];intro z;cases z) z.2,n1,λy=>by rw[y,m2]at z;cases z.2}
 have hmiH:=s2.none (by rw[e2];intro z;cases z) (s.free HK);revert s3 e3 m3 i3 l3;generalize upd H' mi _=H3;refine λs3 e3 m3 i3 l3=>y3 {e3,T.cl,T.nI,FJ  (FJ  (by decide)),λlt AY=>?_}
 have nb4:=BE AD AY;rw[AH nb4.symm]at AY;refine y3 {by rw[AH nb4,AD],T.cl,T.nL,FJ  (FJ  (FJ  (by decide))),λou DY=>?_}
 have nb5:=BE AD DY;rw[AH nb5.symm]at DY
 have nl5:=BE AD DY;rw[AH nl5.symm,AH nb5.symm]at DY;refine y3 {by rw[AH nb5,AD],T.cl,T.nO,FJ  (FJ  (FJ  (FJ  (by decide)))),?_};rw[zed];generalize eH:upd _ b _=H5
 have kp:∀ x,x≠b->x≠lt->x≠ou->H5 x=H3 x:=λx n1 n2 n3=>by rw[<-eH,AH n1,AH n3,AH n1,AH n2,AH n1]
 have kk:∀ x o,H3 x=some o->x≠b->H5 x=some o:=λx o e n1=>by rw[kp x n1 (BE e AY) (BE e DY)];exact e
 have s5:=λx o e n1=>kk x o (s3 _ _ e n1) n1
 have nbx:∀ x xs,H3 x=some (.lst xs)->x≠b:=λx xs e=>BB e e3 (by intro z;cases z);refine q m mi lt ou ls H5 hmH hmiH (s3.none (by rw[e3];intro z;cases z) AY) (s3.none (by rw[e3];intro z;cases z) DY) (λl hl'=>(l3 l hl').2.1) {{{dx,by rw[<-eH,AD]},{[],kk _ _ m3<|nbx _ _ m3,.nil},kk _ _ i3<|nbx _ _ i3,λi l e=>?_,nd,{[],?_,λi j=>rfl,ρ _},{[],(by rw[<-eH,AH nb5.symm,AD]),λk=>rfl,jr,by simp},by simp,by simp,by simp,{(BE (s _ _ m2) HK),(λz=>(l3 _ z).2.2.2 rfl),(λz=>(l3 _ z).2.2.1 rfl),?_,?_,?_},by simp},?_,(by rw[<-hl,ey,ζ])} s5
 have z:=l3 l<|θ e;exact kk _ _ z.1<|nbx _ _ z.1;rw[<-eH,AH nb4.symm,AH nl5,AH nb4.symm,AD];obtain⟨ts,z,v⟩:=P.ls;exact BE z hmH;obtain⟨ts,z,v⟩:=P.ls;exact BE z hmiH;obtain⟨ts,z,v⟩:=P.ls;exact λy=>by rw[(l3 _ y).2.1]at z;cases z
 obtain⟨⟨dx',f1⟩,⟨ts,f2,f3⟩,r1,r2,r3⟩:=P;exact{{_,s5 _ _ f1 (BB f1 hb (NB (by simp[pf])))},{ts,s5 _ _ f2 (BB f2 hb (by intro z;cases z)),Paired.mapP f3 λt r z=>s5 _ _ z (BB z hb (by intro z;cases z))},r1,r2,r3}
def zo2:PN K a vs H Q E->vs.length=2:=by
 apply u7;rintro z z z z z z z ⟨rfl,z⟩
 rfl
example:(zo3,TK,UL,2):=by
 apply u3;rintro nl ns o ⟨rfl,hs,hl,q⟩;cases o with
 |none =>
  push_cast[UL,↓o8_,↓o9_];refine{ns,hs,oC hl rfl,λx o D ks hx hD r m l=>{_,.inl {SqL.of AD,λt ht=>q t ks _ (((AK hx).trans (AK hD)).trans (AK ht)) AD r (λy=>?_) (bz l)}}};rw[m y];simp
 |some k =>
  push_cast[UL,↓o9_,↓pB_];refine{_,.inl hs,λl hl'=>{by decide,λp hp=>.inl ?_}}
  have s0:Same H (upd _ p<|.lst [.int k]):=(AK hl').trans (AK hp)
  have e1:upd (upd H l<|.lst<|ns.map V.int) p (.lst [.int k]) l=some (.lst<|ns.map V.int):=by rw[AH (BE AD hp),AD]
  have e2:upd (upd H l<|.lst<|ns.map V.int) p _ p=some (.lst [.int k]):=AD;revert s0 e1 e2;refine λs0 e1 e2=>x4 l p _ _ {rfl,rfl,e1,e2,CF _ (by simp;exact oA hl rfl),λr hr=>{r,rfl,ns++[(k:Int)],?_,by simp;exact oG hl rfl,λx o D ks hx hD rs m ll=>{_,.inl {SqL.of AD,λt ht=>q t ks _ ((((s0.trans<|AK hr).trans (AK hx)).trans (AK hD)).trans (AK ht)) AD rs (λy=>?_) (by simpa using ll)}}}};rw[ak];exact SqL.of AD;rw[m y];simp
def zo4:TK K a vs H Q E->vs.length=2:=by
 apply u3;rintro z z z ⟨rfl,z⟩
 rfl
example:(zo5,TM,rH,2):=by
 apply u9;rintro A w rows n cs outs pl i j ⟨rfl,T,TP,B,hp,q,qe⟩;obtain⟨dx,hb⟩:=B.bk.ob;obtain⟨dp,hg⟩:=B.pk.ob
 have ng:∀ {m:Str},¬ m="contents"->¬ m="width"->¬ m="written"->(pf A.cl w n).lookup m=none:=λh1 h2 h3=>L0 _ _ _ h1 h2 h3;refine BM hp  rfl rfl ?_;push_cast[];split;rename_i h0;refine y3 {hb,T.cl,T.nG,_,O7,y2 {hg,ng (by decide) (by decide) (by decide),x5 _ _ w _ n {rfl,TP,B.pk,?_}}};push_cast[];split;exact{by decide,qe λz=>by lia};refine BM hp  rfl rfl ?_;push_cast[];split;rename_i h2;refine y3 {hb,T.cl,T.nG,_,O7,y2 {hg,ng (by decide) (by decide) (by decide),x5 _ _ w _ n {rfl,TP,B.pk,?_}}};push_cast[];split;exact{by decide,qe λz=>by lia};exact q {h0,by lia,h2,by lia};exact{by decide,qe λz=>by lia};exact{by decide,qe λz=>by lia}
def zo6:TM K a vs H Q E->vs.length=2:=by
 apply u9;rintro z z z z z z z z z ⟨rfl,z⟩
 rfl
example:(zo7,NF,uC,2):=by
 apply u9;rintro A w rows n cs outs pl i j ⟨rfl,T,TP,B,hp,q,qe⟩;obtain⟨dx,hb⟩:=B.bk.ob;obtain⟨kvs,hl,hv,z⟩:=B.bk.lat;refine y2 {hb,C1,x9 A w _ n cs _ pl i j {rfl,T,TP,B,hp,λh=>(y3 {hb,T.cl,T.nL,_,mS,.inr {_,.inl hl},_,Xj hl hp,?_}),qe}};rw[hv]
 have:=q h;cases e:DQ cs i j with
 |none=>rw[e]at this;exact this
 |some k=>rw[e]at this;exact this
def zo8:NF K a vs H Q E->vs.length=2:=by
 apply u9;rintro z z z z z z z z z ⟨rfl,z⟩
 rfl
def BookIn.len(B:BookIn C D H A w cs outs):∃ xs,H A.m=some (.lst xs)/\xs.length=cs.length:=by
 obtain⟨chs,e,p⟩:=B.made;exact{_,e,by rw[ζ,p.length]}
example:(zo9,PQ,o7,3):=by
 apply u8;rintro A w rows n cs outs nl ns ⟨rfl,T,B,hs,q,qe⟩;obtain⟨dx,hb⟩:=B.bk.ob;obtain⟨xs,hm,hml⟩:=B.bk.len;refine .inl {⟨_,hs⟩,(FN  (λi σ H'=>H'=H/\(∃ z,σ=[some _,some _,z])/\∀ x∈ns.take i,known cs x) {rfl,⟨_,rfl⟩,by simp} (by rintro i σ H' _ ⟨e,_⟩;exact e ▸ hs) (λi x σ H' hx hzz=>?_) (λσ H' hzz=>?_))};obtain⟨rfl,⟨z,rfl⟩,kn⟩:=hzz;rw[τ,ae]at hx;obtain⟨x',hx',rfl⟩:=hx
 have bad:¬ known cs x'->1<=sizeLine/\E _ _ H':=λh=>{by decide,qe {x',θ hx',h}}
 push_cast[↓o5_,↓o6_];split;rename_i h0;refine y3 {hb,T.cl,T.nM,_,IS,_,.inl {_,SqL.of hm,hml.symm},?_};split;exact bad λz=>by lia
 intro y hy;rw[di,hx']at hy;rcases a_.mp hy with hy|hy
 exact kn y hy;simp only[Option.toList_some,aa]at hy;subst hy;exact{h0,by lia};exact bad λz=>by lia
 obtain⟨e,⟨z,ez⟩,kn⟩:=hzz;subst e;refine q λx hx=>kn x ?_;rw[ζ,bx];exact hx
def zpa:PQ K a vs H Q E->vs.length=2:=by
 apply u8;rintro z z z z z z z z ⟨rfl,z⟩
 rfl
example:(zpb,NG,oY,1):=by
 apply u6;rintro A w rows n cs outs ⟨rfl,T,B,q⟩;obtain⟨xs,hm,hml⟩:=B.bk.len;obtain⟨dx,hb⟩:=B.bk.ob;obtain⟨DO,ho,hv,z⟩:=B.bk.out
 have sz:=B.bk.sz;refine y3 {hb,T.cl,T.nM,_,IS,_,.inl {_,SqL.of hm,hml.symm},i0,by lia,(Xc (λk=> !outs k) (CF _<|oA sz rfl) (λi hi QB qb=>(y3 {hb,T.cl,T.nO,_,O8,_,dI ho,?_})) λp hp=>(q p _ hp (AK hp) (by rw[AD];rfl)))};rw[hv];exact qb
def zpc:NG K a vs H Q E->vs.length=1:=by
 apply u6;rintro z z z z z z ⟨rfl,z⟩
 rfl
example:(zpd,FS,uP,6):=by
 apply KD;rintro A w rows n cs outs pl nl v ns i j ⟨rfl,T,TP,B,hp,hs,hl,hc,q,q1,q2⟩;obtain⟨xs,hm,hml⟩:=B.bk.len;obtain⟨dx,hb⟩:=B.bk.ob;refine y2 {hb,C1,x9 A w _ n cs outs pl i j {rfl,T,TP,B,hp,λhon=>(y2 {hb,C1,x8 A w rows n cs outs nl ns {rfl,T,B,hs,λhkn=>(y3 {hb,T.cl,T.nM,_,IS,cs.length,.inl {_,SqL.of hm,hml.symm},(y3 {hb,T.cl,T.nM,_,IS,.inl {rfl,_,SqL.of hm},x3 nl ns (DQ cs i j) {rfl,hs,hl,λt ks H1 s1 et kr km kl=>(λx dy hx hdy ndy=>x5 x dy pl v t {rfl,T,AD,rfl,?_})}})}),q2 hon}}),q1}};rw[FW]
 have s2:Same H1 (upd (upd H1 dy<|.own x) x (.ins (a "Change") dy (GE pl v t))):=(AK hdy).trans (AK (by rw[AH ndy.symm];exact hx))
 have ex:upd (upd H1 dy<|.own x) x (.ins (a "Change") dy (GE pl v t)) x=some (.ins (a "Change") dy (GE pl v t)):=AD;revert s2 ex;generalize upd (upd H1 dy<|.own x) x (.ins (a "Change") dy (GE pl v t))=H2;intro s2 ex
 have s:=s1.trans s2;replace et:=s2 _ _ et;obtain⟨chs,hm',pch⟩:=B.bk.made
 have HK:=B.bk.mil;obtain⟨kvs,AY,hv,FL⟩:=B.bk.lat;obtain⟨i0,i1,j0,j1⟩:=hon;obtain⟨DO,DY,hvo,hko⟩:=B.bk.out;obtain⟨j',rfl⟩:∃ j':Nat,j=j':={j.toNat,(gi j0).symm}
 obtain⟨i',rfl⟩:∃ i':Nat,i=i':={i.toNat,(gi i0).symm}
 have hil:i'<A.ls.length:=by rw[B.nb];exact dr.mp i1
 have el:=η hil
 have hll:=B.bk.mic i' _ el
 have hmem:=pq hil;revert el hll hmem;generalize A.ls[i']=l;intro el hll hmem
 have ap:=B.bk.ap
 have nml:A.m≠l:=λz=>ap.2.1<|z ▸ hmem
 have ncl:A.cl≠l:=λz=>ap.2.2.2.2.2<|z ▸ hmem
 have klt:∀ {y:Addr} {o:HO},H2 y=some o->(∀ k,o≠.dT k)->y≠A.lt:=λe h=>BB e (s _ _ AY) (h _)
 have km':∀ {y:Addr} {o:HO},H2 y=some o->(∀ k,o≠.lst k)->y≠A.m:=λe h=>BB e (s _ _ hm') (h _)
 have kll:∀ {y:Addr} {o:HO},H2 y=some o->(∀ k,o≠.lst k)->y≠l:=λe h=>BB e (s _ _ hll) (h _)
 have hb2:=s _ _ hb
 have IF:=s _ _ hp;refine{_,s _ _ hm',χ (show(chs.map V.ref).length<1000 by rw[ζ];exact oD (cr (bc pch.length) hc) rfl) (by decide),?_}
 have bb:=km' hb2 (by intro k z;cases z)
 have bl:=kll hb2 (by intro k z;cases z)
 have pm:=km' IF (by intro k z;cases z)
 have pl':=kll IF (by intro k z;cases z)
 have mt:=klt (s _ _ hm') (by intro k z;cases z)
 have lt':=klt (s _ _ hll) (by intro k z;cases z)
 have bln:=mO cs i';refine y3 {by rw[AH bb];exact hb2,T.cl,T.nI,_,XM,BM (by rw[AH pm];exact IF) (n:=0) rfl rfl (DC (SqL.of (by rw[AH ap.1.symm];exact s _ _ HK)) (n:=i') (v:=.ref l) rfl (by rw[τ,el];rfl) {.inl {rfl,_,SqL.of (by rw[AH nml.symm];exact s _ _ hll)},{_,by rw[AH nml.symm];exact s _ _ hll,χ (show((C3 cs i').map λ(k:Nat)=>V.int k).length<1000 by rw[ζ];lia) (by decide),(y3 {by rw[AH bl,AH bb];exact hb2,T.cl,T.nL,_,mS,_,Xl (by rw[AH lt'.symm,AH mt.symm];exact s _ _ AY) (by rw[AH pl',AH pm];exact IF) (oD (cr FL hc) rfl),?_})}})};generalize eH:upd (upd (upd H2 A.m _) l _) A.lt (.dT<|B0 kvs [.inl ↑i',.inl ↑j'] (.int ↑cs.length))=H5
 have kp:∀ y,y≠A.m->y≠l->y≠A.lt->H5 y=H2 y:=λy n1 n2 n3=>by rw[<-eH,AH n3,AH n2,AH n1]
 have s5:SameBut (λy=>y=A.m\/y=l\/y=A.lt) H H5:=λy o e ny=>by
  rw[kp y (λz=>ny<|.inl z) (λz=>ny<|.inr<|.inl z) (λz=>ny<|.inr<|.inr z)];exact s _ _ e
 have lo:∀ y,(y=A.m\/y=l\/y=A.lt)->EW (H y):=by
  rintro y (z|z|z)
  ·exact B.loose<|.inl z
  ·exact B.loose<|.inr<|.inr<|.inl<|z ▸ hmem
  ·exact B.loose<|.inr<|.inr<|.inr<|.inl z
 have hnd:∀ y∈ks,0<=y/\y<cs.length:=λy hy=>by
  rcases(km y).mp hy with h|⟨k,e,rfl⟩
  ·exact hkn y h
  ·exact{iM rfl,by have:=NC e;exact dr.mpr this}
 refine q ⟨i0,i1,j0,j1⟩ hkn ks H5 kr km {{{dx,by rw[kp _ bb bl (klt hb2 (by intro k z;cases z))];exact hb2},{chs++[x],?_,Paired.snoc (Paired.mapP pch λy c h=>h.sb s5 lo) (x3 dy pl t {?_,?_,?_})},?_,λk l' e=>?_,B.bk.nd,{B0 kvs [.inl ↑i',.inl ↑j'] (.int ↑cs.length),(by rw[<-eH,AD]),λp q=>?_,?_},{DO,?_,hvo,(hko.mono (by simp))},?_,λc hc'=>?_,λk c e=>?_,ap,λk c e j ej=>?_},B.pk.sbL s5 lo ?_,B.nb} (s5.wide λy z=>?_);rw[<-eH,AH mt,AH nml,AD,ak];rfl;rw[kp x (km' ex (by intro k z;cases z)) (kll ex (by intro k z;cases z)) (klt ex (by intro k z;cases z))];exact ex
 ·rw[kp pl pm pl' (klt IF (by intro k z;cases z))];exact IF
 rw[kp t (km' et (by intro k z;cases z)) (kll et (by intro k z;cases z)) (klt et (by intro k z;cases z))];exact et;rw[kp _ ap.1.symm (λz=>ap.2.2.1<|z ▸ hmem) (klt (s _ _ HK) (by intro k z;cases z))];exact s _ _ HK;rw[zeb];by_cases z:l'=l;subst z
 have ek:k=i':=by
  obtain⟨h1,h2⟩:=ε.mp e;obtain⟨h3,h4⟩:=ε.mp el;exact(Fa B.bk.nd).mp (h2.trans h4.symm)
 subst ek;rw[<-eH,AH lt',AD];simp
 have nk:¬ i'=k:=λy=>by subst y;rw[el]at e;cases e;exact z rfl
 have hl':=B.bk.mic k l' e;rw[kp l' (λy=>ap.2.1<|y ▸ θ e) z (klt (s _ _ hl') (by intro k z;cases z))];simp only[cb,if_neg nk];exact s _ _ hl';rw[F8,XI];by_cases z:p=i'/\q=j';obtain⟨rfl,rfl⟩:=z;simp;rw[if_neg (λy=>z (by simpa using y)),if_neg<|λy=>z ⟨y.1.symm,y.2.symm⟩];exact hv p q
 have:=HU kvs [.inl ↑i',.inl ↑j'] (.int ↑cs.length);simp;lia;rw[kp _ (km' (s _ _ DY) (by intro k z;cases z)) (kll (s _ _ DY) (by intro k z;cases z)) (klt (s _ _ DY) (by intro k z;cases z))];exact s _ _ DY;simp;exact fe hc;rcases a_.mp hc' with h|h
 exact B.bk.inn c h;rw[aa.mp h];exact{by rw[cb];exact hil,(show(j':Int).toNat<w by exact dr.mp j1)};rcases e_ k cs.length with h|h
 rw[ba h]at e;exact B.bk.need k c e;rw[cf h]at e
 have:k-cs.length=0:=by
  rcases mq (k-cs.length)with z|z
  ·exact z
  ·rw[bq (by simp;exact z)]at e;cases e
 rw[this]at e;cases e;exact{λy hy=>{(hnd y hy).1,by have:=(hnd y hy).2;lia},kr,(show ks.length<=100 by lia)};rcases e_ k cs.length with h|h
 rw[ba h]at e;rw[List.take_append_of_le_length (by exact l8 h)]at ej;exact B.bk.chn k c e j ej;rw[cf h]at e
 have:k-cs.length=0:=by
  rcases mq (k-cs.length)with z|z
  ·exact z
  ·rw[bq (by simp;exact z)]at e;cases e
 have hk:k=cs.length:=by lia
 subst hk;rw[this]at e;cases e;exact(km _).mpr (.inr {j,by simpa using ej,rfl});rintro (z|z|z);exact ap.2.2.2.1 z;exact ncl z;obtain⟨ts,e,u⟩:=B.pk.ls;exact klt (s _ _ e) (by intro k z;cases z) z;rcases z with z|z|z
 exact .inl z;exact .inr<|.inr<|.inl<|z ▸ hmem;exact .inr<|.inr<|.inr<|.inl z
def zpe:FS K a vs H Q E->vs.length=4:=by
 apply KD;rintro z z z z z z z z z z z z ⟨rfl,z⟩
 rfl
def BookIn.at{C D:Addr}{A:BA}{w:Nat}{cs:Ox}{outs:rW}{H:Hp}(B:BookIn C D H A w cs outs){k:Nat}{c:Ch}(e:cs[k]? =some c):∃ xs x,H A.m=some (.lst xs)/\xs[k]? =some (.ref x)/\ChAt D H x c:=by
 obtain⟨chs,h,p⟩:=B.made;obtain⟨x,ex,hx⟩:=G7 p e;exact x2 _ x {h,by rw[τ,ex];rfl,hx}
def zpf{n:Nat}{outs:rW}{k:Nat}(h:k∈FH n outs):k<n/\outs k=false:=by
 have:=dn.mp h;exact{ai.mp this.1,by simpa using this.2}
def zpg(n:Nat)(outs:rW):(FH n outs).Pairwise (· <·):=il.filter _
def zph(n:Nat)(outs:rW):(FH n outs).length<=n:=by
 have:=cm (λ(k:Nat)=> !outs k) (ξ n)
 rwa [cy]at this
example:(zpi,TN,rG,5):=by
  apply u8;rintro A w rows n cs outs nl ns ⟨rfl,T,B,hs,hl,q,qe⟩;obtain⟨dx,hb⟩:=B.bk.ob;refine y2 {hb,C1 (by decide),x8 A w _ n cs _ nl ns {rfl,T,B,hs,λhkn f hf=>(.inl {{_,(AK hf).seq hs},(FN  (λi σ H'=>∃ kvs,H'=upd H f (.dK kvs)/\(∀ x:Int,(A5 kvs<|.inl x).isSome=true↔x∈ns.take i)/\kvs.length<=i/\∃ z,σ=[some (.ref _),some _,some _,z,none]) {[],rfl,by simp[VQ],ρ _,_,rfl} (by rintro i σ H' _ ⟨kvs,e,_⟩;rw[e];exact(AK hf).seq hs) (λi x σ H' hx hzz=>?_) (λσ H' hzz=>?_))}),qe}};obtain⟨kvs,rfl,hv,FL,z,rfl⟩:=hzz
  have hi:=(ε.mp hx).1;rw[ζ]at hi;rw[τ,ae]at hx;obtain⟨x',hx',rfl⟩:=hx;push_cast[↓rF_];refine{_,pI AD (by lia),_,FW,λy=>?_,?_};rw[F8,di,hx',a_,<-hv y];by_cases e:y=x';subst e;simp
  have:¬ (ux y:AN)=ux x':=λz=>e (by simpa using z);simp[e]
  have:=HU kvs (.inl x') (.bl true)
  lia
  obtain⟨kvs,rfl,hv,FL,z,rfl⟩:=hzz;rw[ζ,bx]at hv;rw[ζ]at FL
  have s1:=AK (o:=.dK kvs) hf;push_cast[↓rE_]
  have B1:=B.same s1
  have f1:upd H f (.dK _) f=some (.dK kvs):=AD;refine y2 {s1 _ _ hb,C1 (by decide +kernel),x6 A w rows n cs outs {rfl,T,B1,λl H2 CY s2 el=>?_}};push_cast[]
  have KC:=s1.trans s2;refine{_,SqL.of el,?_}
  have sz:=B.bk.sz
  have wl:=zph cs.length outs
  have hW:(AQ<|FH cs.length outs).length=(FH cs.length outs).length:=ζ _
  have keep:∀ kvs',Same H (upd H2 f<|.dK kvs'):=λkvs' b o e=>by
    rw[AH (BE e hf)];exact KC _ _ e
  have Bk:=λkvs'=>B.same<|keep kvs';refine Xb (λi σ H'=>∃ kvs',H'=upd H2 f (.dK kvs')/\(∀ x∈ns,(A5 kvs'<|.inl x).isSome=true)/\(∀ x:Int,(A5 kvs'<|.inl x).isSome=true->x∈ns\/∃ (k:Nat) (c:Ch),cs[k]? =some c/\outs k=false/\(A5 kvs'<|.inl (k:Int)).isSome=true/\x∈c.nd) /\
    (∀ (t:Nat) (k:Nat) (c:Ch),(FH cs.length outs)[t]? =some k->(FH cs.length outs).length-i<=t->cs[k]? =some c->(A5 kvs'<|.inl (k:Int)).isSome=true->∀ y∈c.nd,(A5 kvs'<|.inl y).isSome=true)/\kvs'.length<=1000+100*i/\∃ z z',σ=[some (.ref A.b),some<|.ref nl,some<|.ref f,z,z'])
    {kvs,?_,λx hx=>(hv x).mpr hx,λx hx=>.inl<|(hv x).mp hx,λt k c e1 e2=>?_,ψ FL hl,_,_,rfl} (λi σ H' _ ⟨kvs',e,_⟩=>by rw[e];exact SqL.of (by rw[AH (BE f1 CY).symm];exact el)) (λi x σ H' hi hx hzz=>?_) (λσ H' hzz=>?_)
  funext b;by_cases e:b=f;subst e;rw[AD];exact(s2 _ _ f1);rw[AH e]
  have:=(ε.mp e1).1;exact nL this e2;obtain⟨kvs',rfl,h1,h3,h2,hkl',z,z',rfl⟩:=hzz;rw[hW]at hi hx;unfold AQ at hx;rw[τ,ae]at hx;obtain⟨k,hx',rfl⟩:=hx;obtain⟨hk,ho⟩:=zpf<|θ hx'
  have ec:=η hk;revert ec;generalize cs[k]=c;intro ec
  have later:∀ (t k':Nat),(FH cs.length outs)[t]? =some k'->(FH cs.length outs).length - (i+1)<=t->k'=k\/(k<k'/\(FH cs.length outs).length - i<=t):=λt k' e1 e2=>by
    by_cases z:t=(FH cs.length outs).length-1-i
    ·subst z;rw[hx']at e1;cases e1;exact .inl rfl
    · obtain⟨h5,rfl⟩:=ε.mp e1
      obtain⟨h6,rfl⟩:=ε.mp hx';exact .inr {p_.mp (zpg cs.length outs) _ _ h6 h5 (by lia),by lia}
  refine{_,dI AD,?_};cases hin:(A5 kvs'<|.inl (k:Int)).isSome with
  |false =>
    push_cast[];refine{_,rfl,h1,h3,λt k' c' e1 e2 e3 e4=>?_,by lia};rcases later t k' e1 e2 with rfl|⟨_,z⟩
    ·rw[hin]at e4;cases e4
    ·exact h2 t k' c' e1 z e3 e4
  | true =>
    push_cast[];refine u2 ?_<|(Bk kvs').bk.at ec;rintro xs cx ⟨hm,ex,DI⟩;revert DI;apply u3;rintro dc pl nt ⟨hc1,hc2,hc3⟩
    have hb2:=(keep kvs') _ _ hb;refine y3 {hb2,T.cl,T.nM,_,IS,DC (SqL.of hm) rfl ex (y3 {hc1,T.cc,T.nN,_,mR,.inr {{_,SqT.of hc3},?_}})};obtain⟨nd1,nd2,nd3⟩:=B.bk.need k c ec;refine kZ (xs:=c.nd.map V.int) (λt σ H'=>∃ kv2,H'=upd H2 f (.dK kv2)/\(∀ x:Int,(A5 kv2<|.inl x).isSome=true↔(A5 kvs'<|.inl x).isSome=true\/x∈c.nd.take t)/\kv2.length<=kvs'.length+t/\∃ z',σ=[some (.ref A.b),some<|.ref nl,some<|.ref f,some<|.int k,z'])
      {kvs',rfl,by simp,ρ _,_,rfl} (λt σ H' _ hzz=>?_) (λt y σ H' hy hzz=>?_) (λσ H' hzz=>?_)
    · obtain⟨kv2,e,_⟩:=hzz
      rw[e]
      have nf:nt≠f:=BB hc3 AD (by intro z;cases z);rw[AH nf]at hc3;exact SqT.of (by rw[AH nf];exact hc3)
    · obtain⟨kv2,e,JK,hl2',z2,ez⟩:=hzz
      subst e;subst ez
      have hty:=(ε.mp hy).1;rw[ζ]at hty;rw[τ,ae]at hy;obtain⟨y',hy',rfl⟩:=hy;push_cast[↓qN_,↓qP_,↓qS_,↓qU_,↓qW_,↓qY_,↓rA_,↓rE_,↓rF_];refine{_,pI AD (by lia),_,FW,λx=>?_,?_}
      · rw[F8,di,hy',a_]
        by_cases e:x=y'
        ·subst e;simp
        · have:¬ (ux x:AN)=ux y':=λz=>e (by simpa using z)
          rw[if_neg this,JK x];simp[e]
      · have:=HU kv2 (.inl y') (.bl true)
        lia
    · obtain⟨kv2,e,JK,hl2',z2,ez⟩:=hzz
      subst e;subst ez;rw[ζ,bx]at JK;rw[ζ]at hl2'
      have up:∀ {x:Int},(A5 kvs'<|.inl x).isSome=true->(A5 kv2<|.inl x).isSome=true:=λh=>(JK _).mpr (.inl h);refine{kv2,rfl,λx hx=>up<|h1 x hx,λx hx=>?_,λt k' c' e1 e2 e3 e4 y hy=>?_,by lia,x2 _ _ rfl}
      · rcases(JK x).mp hx with h | h
        · rcases h3 x h with h|⟨k',c',e1,e2,e3,e4⟩
          ·exact .inl h
          ·exact .inr<|x2 k' c' {e1,e2,up e3,e4}
        ·exact .inr<|x2 k c {ec,ho,up hin,h}
      · rcases later t k' e1 e2 with rfl | ⟨AY,z⟩
        · rw[ec]at e3;cases e3
          exact(JK y).mpr (.inr hy)
        · rcases(JK _).mp e4 with h | h
          ·exact up<|h2 t k' c' e1 z e3 h y hy
          · have:=(nd1 _ h).2
            lia
  obtain⟨kvs',rfl,h1,h3,h2,hkl',z,z',rfl⟩:=hzz;rw[hW]at h2
  have s3:=keep kvs';push_cast[↓qN_,↓qP_,↓qS_,↓qU_,↓qW_,↓qY_,↓rA_,↓rE_,↓rF_];refine y2 {s3 _ _ hb,C1 (by decide +kernel),x6 A w rows n cs outs {rfl,T,Bk kvs',λl2 H4 hl4 s4 el4=>?_}};refine .inl {{_,SqL.of el4},?_};refine WT (λv=>match v with
    |.int x=>(A5 kvs'<|.inl x).isSome
    |_=>false) (CF _ (by lia)) (SqL.of el4) (λx hx QB qb=>?_) λr hr=>?_
  obtain⟨k,hk,rfl⟩:=av.mp hx;exact{_,dI<|s4 _ _ AD,qb};refine q hkn r _ (λx=>(A5 kvs'<|.inl x).isSome) h1 (λk c e1 e2 e3 y hy=>?_) h3 ((s3.trans s4).free hr) ((s3.trans s4).trans (AK hr)) ?_
  have hkm:k∈FH cs.length outs:=dn.mpr {ai.mpr (ε.mp e1).1,by rw[e2];rfl};obtain⟨t,et⟩:=O9 hkm;exact h2 t k c et (by lia) e1 e3 y hy;rw[AD];unfold AQ;rw[za]
  rfl
def zpj:TN K a vs H Q E->vs.length=2:=by
 apply u8;rintro z z z z z z z z ⟨rfl,z⟩
 rfl
def zpk{Q:Addr->Hp->Prop}{E:XK}(T:TB K a)(TP:DL K a)(P:PlankAt a H1 gp cl w rows n)
  (q:∀ (A:BA) (H2:Hp),A.gp=gp->A.cl=cl->(∀ x o,H1 x=some o->x=cl\/¬ A.F x)->DR a H2 A w rows n [] (λ_=>false)->Same H1 H2->Q A.b H2) :
  ∀ x dx,H1 x=none->H1 dx=none->dx≠x->PN K a [.ref x,.ref gp] (upd (upd H1 dx<|.own x) x (.ins (HC a) dx [])) (λv H2=>v=.non/\Q x H2) E:=λb db hb hdb ndb=>by
 have s0:Same H1 (upd (upd H1 db<|.own b) b (.ins (HC a) db [])):=(AK hdb).trans (AK (by rw[AH ndb.symm];exact hb));refine x7 b gp cl db w _ n {rfl,T,TP,P.same s0,AD,λm mi lt ou ls H4 hm HK AY DY hls B4 sb4=>{rfl,(q _ H4 rfl rfl (λx o e=>?_) B4 λy o e=>sb4 _ _ (s0 _ _ e) (BE e hb))}};by_cases z:x=cl;exact .inl z;refine .inr ?_
 have e':=s0 _ _ e;rintro (y|y|y|y|y|y);rw[y,hm]at e';cases e';rw[y,HK]at e';cases e';rw[hls x y]at e';cases e';rw[y,AY]at e';cases e';rw[y,DY]at e';cases e';exact z y
example:(zpl,L8,uQ,3):=by
 apply u9;rintro A w rows n cs outs pl i j ⟨rfl,T,TP,B,hp,q,qe⟩;obtain⟨dx,hb⟩:=B.bk.ob;obtain⟨dp,hg⟩:=B.pk.ob;refine y2 {hb,C1,x9 A w _ n cs _ pl i j {rfl,T,TP,B,hp,λh=>?_,qe}}
 have q:=q h;unfold ED at q;cases e:DQ cs i j with
 |none =>
  rw[e]at q;refine y3 {hb,T.cl,T.nG,_,O7,y2 {hg,Q1 _ _ _,BM hp  rfl rfl (x6 _ _ w _ n i {rfl,TP,B.pk,λb' row eb er vl hvl=>?_,λz=>absurd h λy=>by lia})}};subst eb
  have s1:=AK (o:=.lst row) hvl;refine BM (s1 _ _ hp)  rfl rfl ?_
  have rl:=B.pk.wd _<|θ er
  have hj:j.toNat<row.length:=by omega
  have ej:=η hj;refine DC (SqL.of AD)   (by omega) ej (q _ _ ?_ s1);rw[show((b':Int)).toNat=b' from rfl,er];exact ej
 |some k =>
  rw[e]at q;obtain⟨chs,hm,pc⟩:=B.bk.made
  have ec:=η<|NC e;obtain⟨x,ex,dx',p1,n1,h1,h2,h3⟩:=G7 pc ec;refine y3 {hb,T.cl,T.nM,_,IS,DC (SqL.of hm)  (v:=.ref x) rfl (by rw[τ,ex];rfl) (y3 {h1,T.cc,T.nV,_,mQ,q _ _ ?_<|Same.refl _})}
  show(cs[k]?).map _=_;rw[ec]
  rfl
def zpm:L8 K a vs H Q E->vs.length=2:=by
 apply u9;rintro z z z z z z z z z ⟨rfl,z⟩
 rfl
example:(zpn,TQ,pC,4):=by
 apply RI;rintro A w rows n cs outs k c g kvg ⟨rfl,T,B,ec,hg,q⟩;obtain⟨dx,hb⟩:=B.bk.ob;refine u2 ?_<|B.bk.at ec;rintro xs cx ⟨hm,ex,DI⟩;revert DI;apply u3;rintro dc pl nt ⟨hc1,hc2,hc3⟩;obtain⟨DO,ho,hv,v⟩:=B.bk.out;refine y3 {hb,T.cl,T.nM,_,IS,DC (SqL.of hm) rfl ex (y3 {hc1,T.cc,T.nN,_,mR,.inr {{_,SqT.of hc3},(kZ  (λi σ H'=>H'=H/\(∀ x∈c.nd.take i,(outs x||BU kvg x)=true)/\∃ z,σ=[some _,some _,some _,z]) {rfl,by simp,_,rfl} (by rintro i σ H' v ⟨e,v⟩;exact e ▸ SqT.of hc3) (λi x σ H' hx hzz=>?_) (λσ H' hzz=>?_))}})};obtain⟨rfl,al,z,rfl⟩:=hzz;rw[τ,ae]at hx;obtain⟨y,hy,rfl⟩:=hx
 have step:(outs y||BU _ y)=true->∀ x∈c.nd.take _,(outs x||BU _ x)=true:=λh x hx=>by
  rw[di,hy]at hx;rcases a_.mp hx with hx|hx
  exact al x hx
  have:x=y:=by simpa using hx
  exact this ▸ h
 refine y3 {hb,T.cl,T.nO,_,O8,_,dI ho,?_};rw[hv];cases h1:outs y with
 |true =>
  push_cast[];exact step (by rw[h1];rfl)
 | false =>
  refine{_,dI hg,?_};cases h2:(A5 kvg _).isSome with
  |true =>
   push_cast[];exact step (by show(outs y||(A5 kvg _).isSome)=true;rw[h2];simp)
  |false =>
   have e:L7 c.nd (λx=>outs x||BU kvg x)=some y:=by
    obtain⟨hi,e⟩:=ε.mp hy;unfold L7;rw[lx];refine{by show(!(outs y||(A5 kvg _).isSome))=true;rw[h1,h2];rfl,x2 _ (c.nd.drop<|i+1) {?_,λx hx=>by show(!!(outs x||BU _ x))=true;rw[al x hx];rfl}};rw[<-e,<-iq hi,jv]
   rw[e]at q;exact q
 obtain⟨e,al,z,ez⟩:=hzz;subst e;rw[ζ,bx]at al
 have e:L7 _ (λx=>outs x||BU _ x)=none:=ju.mpr λx hx=>by show ¬ (!(outs x||BU _ x))=true;rw[al x hx];exact aw
 rw[e]at q;exact q
def zpo:TQ K a vs H Q E->vs.length=3:=by
 apply RI;rintro z z z z z z z z z z ⟨rfl,z⟩
 rfl
def zpp(s:Pass)(m:Nat)(H1 H':Hp)(g ol hl:Addr):Prop:=∃ (kvg:rR) (hs:qX),SameBut (λy=>y=g\/y=ol\/y=hl) H1 H'/\H' g=some (.dK kvg)/\(∀ x:Int,BU kvg x=s.gone x)/\kvg.length<=m/\H' ol=some (.lst<|s.out.map λ(k:Nat)=>V.int k) /\
 H' hl=some (.lst<|hs.map V.ref)/\Paired (λx (p:Nat × Int)=>H' x=some (.tup [.int p.1,.int p.2])) hs s.held
def xZ(kvs:rR)(k x:Int)(v:V):BU (B0 kvs (.inl k) v) x=(BU kvs x||x==k):=by
 unfold BU;rw[F8];by_cases e:x=k;subst e;simp;simp[e]
example:(zpq,PR,Y0,8):=by
 apply u9;rintro A w rows n cs outs b tk kvt ⟨rfl,T,B,hbl,htk,hkt,q⟩;obtain⟨dx,hb⟩:=B.bk.ob;push_cast[Y0,↓rJ_,↓rM_,↓rO_];refine{_,htk,λg hg=>{by decide,λol hol=>{by decide,λhl hhl=>?_}}}
 have ngo:=BE AD hol
 have s1:Same H (upd _ hl<|.lst []):=((AK hg).trans (AK hol)).trans (AK hhl)
 have nol:=BE AD hhl
 have ngl:=BE (by rw[AH ngo];exact AD) hhl
 have eg:upd (upd (upd H g<|.dK kvt) ol (.lst [])) hl (.lst []) g=some (.dK kvt):=by rw[AH ngl,AH ngo,AD]
 have eo:upd (upd (upd H g<|.dK kvt) ol (.lst [])) hl (.lst []) ol=some (.lst []):=by rw[AH nol,AD]
 have el:upd (upd (upd H g<|.dK kvt) ol (.lst [])) hl _ hl=some (.lst []):=AD
 have holH:=(AK hg).free hol
 have hhlH:=((AK hg).trans (AK hol)).free hhl;revert s1 eg eo el;generalize upd _ hl _=H1;intro s1 eg eo el
 have hil:b<A.ls.length:=by rw[B.nb];exact hbl
 have ell:=η hil
 have hll:=B.bk.mic b _ ell;revert ell hll;generalize A.ls[b]=l
 have bln:=mO cs b;refine λell hll=>y3 {s1 _ _ hb,T.cl,T.nI,_,XM,DC (SqL.of<|s1 _ _ B.bk.mil)  (v:=.ref l) rfl (by rw[τ,ell];rfl) (.inl {{_,SqL.of<|s1 _ _ hll},?_})}
 have sz:=B.bk.sz
 have G:∀ {H':Hp},SameBut (λy=>y=g\/y=ol\/y=hl) H1 H'->Same H H':=λsb y o e=>sb _ _ (s1 _ _ e) (by
  rintro (z|z|z);rw[z,hg]at e;cases e;rw[z,holH]at e;cases e;rw[z,hhlH]at e;cases e)
 refine FN  (λi σ H'=>zpp (((C3 cs b).take i).foldl (C4 cs outs) {[],[],BU _}) (1000+i) H1 H' g ol hl/\∃ z1 z2,σ=[some _,some _,some _,some _,some _,some _,z1,z2])
  {x2 _ [] {SameBut.refl _,eg,λu=>rfl,hkt,eo,el,.nil},_,_,rfl} (by rintro i σ H' u ⟨⟨kvg,hs,sb,u⟩,u⟩;exact SqL.of<|G sb _ _ hll) (λi x σ H' hx hzz=>?_) (λσ H' hzz=>?_)
 have hi:=(ε.mp hx).1;obtain⟨iv,z1,z2,rfl⟩:=hzz;rw[ζ]at hi;rw[τ,ae]at hx;obtain⟨k,hk,rfl⟩:=hx
 have hkc:=SQ<|θ hk
 have ec:=η hkc;revert ec;generalize cs[k]=c
 have hszs:=mV (cs:=cs) (outs:=outs) ((C3 cs b).take i) {[],[],BU kvt}
 have es:=mW (C4 cs outs) {[],[],BU kvt} hk;intro ec;revert iv hszs es;generalize ((C3 cs b).take i).foldl (C4 cs _) _=s;generalize ((C3 cs b).take _).foldl (C4 cs _) _=s';intro iv hszs es;revert iv;apply u2;rintro kvg hs ⟨sb,e1,e2,e3,e4,e5,e6⟩;simp only[m_,cz]at hszs
 have sH:=G sb;obtain⟨DO,ho,hv,u⟩:=B.bk.out;push_cast[↓rQ_,↓rS_,↓rV_,↓rX_,↓rZ_,↓sA_];refine y3 {sH _ _ hb,T.cl,T.nO,_,O8,_,dI<|sH _ _ ho,?_};rw[hv];unfold C4 at es;cases h1:outs k with
 |true =>
  rw[h1,pe,if_pos rfl]at es;rw[es];exact x2 _ hs {sb,e1,e2,bz e3,e4,e5,e6}
 | false =>
  rw[h1,xx]at es
  have e2k:(A5 kvg _).isSome=s.gone k:=e2 k;refine{_,dI e1,?_};rw[e2k];cases h2:s.gone k with
  |true =>
   rw[h2]at es;rw[es];exact x2 kvg hs {sb,e1,e2,bz e3,e4,e5,e6}
  | false =>
   rw[h2,if_neg aw,ec]at es;refine y2 {sH _ _ hb,C1,U6 A w _ n cs _ k c g _ {rfl,T,(B.same sH),ec,e1,?_}}
   have efn:(λx=>outs x||BU kvg x)=λx=>outs x||s.gone x:=by funext x;rw[e2]
   rw[efn];simp only[Ha]at es;cases h3:L7 _ (λx=>outs x||s.gone x)with
   |none =>
    rw[h3]at es;dsimp only [XS];refine{_,pI e1 (by lia),.inl {rfl,_,SqL.of (by rw[AH ngo.symm];exact e4)},{_,by rw[AH ngo.symm];exact e4,χ (show(s.out.map λ(k:Nat)=>V.int k).length<1000 by rw[ζ];lia) (by decide),?_}};rw[es];refine x2 _ hs {?_,by rw[AH ngo,AD],λx=>by rw[xZ,e2],?_,by rw[AD,ak];rfl,by rw[AH nol.symm,AH ngl.symm];exact e5,Paired.mapP e6 λx p e=>?_};intro y o e ny;rw[AH λz=>ny<|.inr<|.inl z,AH λz=>ny<|.inl z];exact sb _ _ e ny
    have:=HU kvg (.inl (k:Int)) (.bl true)
    lia
    rw[AH (BB e e4 (by intro z;cases z)),AH (BB e e1 (by intro z;cases z))];exact e
   |some l' =>
    rw[h3]at es;dsimp only at es;dsimp only [XS];rw[if_neg (by intro z;cases z)];refine{.inl {rfl,_,SqL.of e5},by decide,λtp htp=>?_}
    have ntl:hl≠tp:=BE e5 htp;refine{_,by rw[AH ntl];exact e5,χ (show(hs.map V.ref).length<1000 by rw[ζ,e6.length];lia) (by decide),?_};rw[es]
    have s2:=AK (o:=.tup [.int (k:Int),.int l']) htp
    have kp:∀ y,y≠hl->y≠tp->upd (upd H' tp<|.tup [.int (k:Int),.int l']) hl (.lst<|hs.map V.ref++[.ref tp]) y=H' y:=λy n1 n2=>by rw[AH n1,AH n2]
    refine x2 kvg (hs++[tp]) {?_,by rw[kp g ngl (BE e1 htp)];exact e1,e2,bz e3,by rw[kp ol nol (BE e4 htp)];exact e4,by rw[AD,ak];rfl,Paired.snoc (Paired.mapP e6 λx p e=>?_) ?_}
    ·intro y o e ny
     have e':=sb _ _ e ny;rw[kp y (λz=>ny<|.inr<|.inr z) (BE e' htp)];exact e'
    ·rw[kp x (BB e e5 (by intro z;cases z)) (BE e htp)];exact e
    ·rw[AH ntl.symm,AD]
 obtain⟨iv,z1,z2,rfl⟩:=hzz;rw[ζ,bx]at iv;push_cast[↓rJ_,↓rM_,↓rO_,↓rQ_,↓rS_,↓rV_,↓rX_,↓rZ_,↓sA_,↓sC_,↓sD_];revert iv;apply u2;rintro kvg hs ⟨sb,e1,e2,e3,e4,e5,e6⟩;refine{by decide,λt ht=>?_}
 have s2:=AK (o:=.tup [.ref ol,.ref hl]) ht;exact q t ol hl _ holH hhlH nol ((G sb).trans s2) {AD,s2 _ _ e4,hs,s2 _ _ e5,Paired.mapP e6 λx p e=>s2 _ _ e}
def zpr:PR K a vs H Q E->vs.length=3:=by
 apply u9;rintro z z z z z z z z z ⟨rfl,z⟩
 rfl
example:(zps,TR,pF,5):=by
 apply u9;rintro A w rows n cs outs b vl row ⟨rfl,T,B,hbl,hvl,JI,q⟩;obtain⟨dx,hb⟩:=B.bk.ob;obtain⟨DO,ho,hv,z⟩:=B.bk.out;refine{_,.inl<|SqL.of hvl,λla hla=>?_}
 have s1:=AK (o:=.lst row) hla
 have hil:b<A.ls.length:=by rw[B.nb];exact hbl
 have ell:=η hil
 have hll:=B.bk.mic b _ ell;revert ell hll;generalize A.ls[b]=l
 have sk:∀ o,Same H (upd H la o):=λo=>AK hla;refine λell hll=>y3 {s1 _ _ hb,T.cl,T.nI,_,XM,DC (SqL.of<|s1 _ _ B.bk.mil)  (v:=.ref l) rfl (by rw[τ,ell];rfl) (.inl {{_,SqL.of<|s1 _ _ hll},?_})};refine FN  (λi σ H'=>H'=upd H la (.lst<|((C3 cs b).take i).foldl (HA cs outs) row)/\∃ z1,σ=[some _,some _,some _,some _,z1])
  ⟨rfl,_,rfl⟩ (by rintro i σ H' z ⟨e,z⟩;rw[e];exact SqL.of<|sk _ _ _ hll) (λi x σ H' hx hzz=>?_) (λσ H' hzz=>?_)
 obtain⟨rfl,z1,rfl⟩:=hzz;rw[τ,ae]at hx;obtain⟨k,hk,rfl⟩:=hx
 have hkc:=SQ<|θ hk
 have ec:=η hkc;revert ec;generalize cs[k]=c
 have es:=mW (HA cs outs) row hk
 have CC:=XN (cs:=cs) (outs:=outs) ((C3 cs b).take i) row;intro ec;revert es CC;generalize ((C3 cs b).take i).foldl _ row=r;generalize ((C3 cs b).take _).foldl _ _=r'
 have sH:=sk<|.lst r;intro es CC;push_cast[↓pD_,↓pE_];refine y3 {sH _ _ hb,T.cl,T.nO,_,O8,_,dI<|sH _ _ ho,?_};rw[hv];unfold HA at es;cases h1:outs k with
 |false =>
  rw[h1,if_neg aw]at es;push_cast[];rw[es]
 |true =>
  rw[h1,if_pos rfl,ec]at es;refine u2 ?_<|(B.same sH).bk.at ec;rintro xs cx ⟨hm,ex,dc,pl,nt,hc1,hc2,hc3⟩
  have hcell:=(B.bk.inn c<|θ ec).2;refine y3 {sH _ _ hb,T.cl,T.nM,_,IS,DC (SqL.of hm) rfl ex (y3 {hc1,T.cc,T.nV,_,mQ,(y3 {sH _ _ hb,T.cl,T.nM,_,IS,DC (SqL.of hm) rfl ex (y3 {hc1,T.cc,T.nP,_,mP,BM hc2  rfl rfl (x4 la r _ _ {rfl,rfl,AD,?_,(by rw[FW,es])})})})})};unfold HP;rw[if_pos (i0),if_pos (by lia),cb]
 obtain⟨rfl,z1,rfl⟩:=hzz;rw[ζ,bx];exact q la _ hla (sk _) AD
def zpt:TR K a vs H Q E->vs.length=3:=by
 apply u9;rintro z z z z z z z z z ⟨rfl,z⟩
 rfl
example:(zpu,TU,uE,5):=by
 apply u7;rintro A w rows n cs outs b ⟨rfl,T,TP,B,q,qe⟩;obtain⟨dp,hg⟩:=B.pk.ob;obtain⟨dx,hb⟩:=B.bk.ob;refine y3 {hb,T.cl,T.nG,_,O7,y2 {hg,Q1 _ _ _,x6 _ _ w _ n b {rfl,TP,B.pk,λb' row eb er vl hvl=>?_,qe}}};subst eb;obtain⟨H1,zz0,s1,ev⟩:=ES  hvl
 have hbl:=(ε.mp er).1;rw[zz0];refine y2 {s1 _ _ hb,C1,λe0 he0=>?_}
 have s2:=s1.trans<|AK (o:=.dK []) he0;refine x9 A w _ n cs _ b' e0 [] {rfl,T,B.same s2,hbl,AD,by simp,λt ol hl H3 hol hhl nol s3 told=>?_}
 have FU:=s2.trans s3
 have ev3:=s3 _ _<|AK he0 _ _ ev
 have holH:=s2.free hol
 have hasnil:(BU<|[])=λv=>false:=rfl
 have hhlH:=s2.free hhl;rw[hasnil]at told;obtain⟨ht,ho3,hs,hh3,hpr⟩:=told;obtain⟨rise,fresh,v⟩:=SU (cs:=cs) (outs:=outs) (b:=b')
 have eW:C7 cs _ b'=λx=>outs x||(outcome cs _ (λv=>false) b').out.any _:=rfl
 replace q:=λH' a1 a2 a3=>q b' _ t ol hl H' rfl er holH hhlH nol a1 a2 a3;revert ho3 hpr rise fresh eW q;generalize outcome cs _ (λv=>false) b'=oc;generalize C7 cs _ b'=ow;refine λho3 hpr rise fresh eW q=>BM ht  rfl rfl (.inl {{_,SqL.of ho3},?_});obtain⟨DO,DY,hvo,hko⟩:=B.bk.out
 have hou3:=FU _ _ DY
 have fO:=B.off holH
 have nou:=λz=>fO<|.inr<|.inr<|.inr<|.inr<|.inl z;refine FN  (λi σ H'=>(∃ kv,H'=upd H3 A.ou (.dK kv)/\(∀ x:Int,(A5 kv<|.inl x).isSome=(outs x||(oc.out.take i).any λk=>x==k))/\KeysOk kv _)/\∃ z1,σ=[some _,some _,some _,some _,z1])
  {{_,?_,λx=>by rw[hvo];simp,hko},_,rfl} (by rintro i σ H' v ⟨⟨kv,e,v⟩,v⟩;rw[e];exact SqL.of (by rw[AH nou];exact ho3)) (λi x σ H' hx hzz=>?_) (λσ H' hzz=>?_)
 funext y;by_cases e:y=A.ou;subst e;rw[AD];exact hou3;rw[AH e];obtain⟨⟨kv,rfl,hv,hk⟩,z1,rfl⟩:=hzz;rw[τ,ae]at hx;obtain⟨k,ek,rfl⟩:=hx
 have hkm:=θ ek
 have hnone:A5 kv (.inl k)=none:=by
  have:=hv k;rw[(fresh k hkm).1]at this
  have z:(oc.out.take i).any (λj=>k ==(j:Int))=false:=by
   rw[xa];intro j hj;obtain⟨m,hm,e⟩:=jj hj;rw[cz]at hm;rw[Du]at e;obtain⟨hi,e2⟩:=ε.mp ek
   have:=p_.mp rise m i (by lia) hi (by lia);rw[e,e2]at this;simp;exact λz=>iy this<|cg z
  rw[z]at this;exact Option.isSome_eq_false_iff.mp this |> wx.mp
 have hb3:upd H3 A.ou (.dK kv) A.b=some (.ins (HC a) dx (bf A.gp A.m A.mi A.lt A.ou)):=by
  rw[AH (BB (FU _ _ hb) hou3 (by intro z;cases z))];exact FU _ _ hb
 push_cast[↓uD_];refine y3 {hb3,T.cl,T.nO,_,O8,_,pI AD (by have:=B.bk.sz;have:=hk.len;lia),_,FW,λx=>?_,hk.put (SQ (fresh k hkm).2) hnone _}
 have:=xZ kv k x<|.bl true;unfold BU at this;rw[this,hv,di,ek,kq];simp;obtain⟨⟨kv,rfl,hv,hk⟩,z1,rfl⟩:=hzz;rw[ζ,bx]at hv;replace hv:∀ x:Int,(A5 kv _).isSome=ow x:=λx=>by rw[hv,eW]
 have kb:∀ {y:Addr} {o:HO},H y=some o->y≠A.ou->upd H3 _ (.dK kv) y=some o:=λe n=>by rw[AH n];exact FU _ _ e
 have sb4:SameBut _ H _:=λy o e n=>kb e n
 have B4:DR a (upd H3 A.ou<|.dK kv) A w rows n cs ow:=by
  have g:∀ x,x=A.ou->EW (H x):=λx e=>e ▸ (K3 DY);obtain⟨⟨⟨dx',b1⟩,⟨chs,b2,b2'⟩,b3,b4,b5,⟨kvs,b6,b6'⟩,v,b8,b9,b10,b11,b12⟩,pk,nb⟩:=B;obtain⟨ts,pl1,pl2⟩:=pk.ls;refine{{{dx',kb b1 (BB b1 DY (by intro z;cases z))},{chs,kb b2 (BB b2 DY (by intro z;cases z)),Paired.mapP b2' λx c h=>h.sb sb4 g},kb b3 (BB b3 DY (by intro z;cases z)),λi l e=>kb (b4 i l e) (BB (b4 i l e) DY (by intro z;cases z)),b5,{kvs,kb b6 (BB b6 DY (by intro z;cases z)),b6'},⟨kv,AD,hv,hk⟩,b8,b9,b10,b11,b12},pk.sbL sb4 g (BB pl1 DY (by intro z;cases z)),nb}
 have ev4:upd H3 A.ou (.dK kv) vl=some (.lst row):=by rw[AH (BB ev3 hou3 (by intro z;cases z))];exact ev3
 have ht4:upd H3 A.ou (.dK kv) t=some (.tup [.ref ol,.ref hl]):=by rw[AH (BB ht hou3 (by intro z;cases z))];exact ht
 have ho4:upd H3 A.ou (.dK kv) ol=some (.lst<|oc.out.map λ(k:Nat)=>V.int k):=by rw[AH nou];exact ho3
 have hh4:upd H3 A.ou (.dK kv) hl=some (.lst<|hs.map V.ref):=by rw[AH (BB hh3 hou3 (by intro z;cases z))];exact hh3
 have hp4:Paired (λx (p:Nat × Int)=>upd H3 A.ou (.dK kv) x=some (.tup [.int p.1,.int p.2])) hs oc.held:=Paired.mapP hpr λx p e=>by rw[AH (BB e hou3 (by intro z;cases z))];exact e
 revert sb4 B4 ev4 ht4 ho4 hh4 hp4;intro sb4 B4 ev4 ht4 ho4 hh4 hp4;obtain⟨dx4,hb4⟩:=B4.bk.ob;obtain⟨dp4,hg4⟩:=B4.pk.ob;refine y3 {hb4,T.cl,T.nG,_,O7,y2 {hg4,xY _ _ _,y2 {hb4,C1,x9 A w rows n cs ow b' vl row {rfl,T,B4,hbl,ev4,B.pk.wd row<|θ er,λll H5 hll5 s5 ell5=>?_}}}}
 have B5:=B4.same s5;refine x8 A.gp A.cl w rows n b' ll (EM cs ow b' row) {rfl,TP,B5.pk,SqL.of ell5,by rw[mU,B.pk.wd row<|θ er];have:=B.pk.sw;exact oA this rfl,λi ei hi hxw H6 P6 sb6=>?_,λz=>?_}
 have ei:=cg ei;subst ei;obtain⟨ts5,pl5,pt5⟩:=B5.pk.ls;obtain⟨dp5,hg5⟩:=B5.pk.ob
 have ap:=B5.bk.ap
 have gp_b:A.b≠A.gp:=by
  obtain⟨d5,hb5⟩:=B5.bk.ob;exact BB hb5 hg5 (NB (by simp[bf,pf]))
 have k6:∀ {y:Addr} {o:HO},H5 y=some o->y≠A.gp->y≠A.cl->H6 y=some o:=λe n1 n2=>sb6 _ _ e (by rintro (z|z);exact n1 z;exact n2 z)
 have notins:∀ {y:Addr} {o:HO},H5 y=some o->(∀ C d f,o≠.ins C d f)->y≠A.gp:=λe n=>BB e hg5<|n _ _ _
 have B6:DR a H6 A w (rows.set b'<|EM cs ow b' row) (n+1) cs ow:=by
  obtain⟨⟨b1,b2,b3,b4,b5,b6,b7,b8,b9,b10,b11,b12⟩,pk,nb⟩:=B5;obtain⟨dx',b1⟩:=b1;obtain⟨chs,b2,b2'⟩:=b2;obtain⟨kvs,b6,b6'⟩:=b6;obtain⟨kvo',b7,b7'⟩:=b7;refine{{{dx',k6 b1 gp_b (BB b1 pl5 (by intro z;cases z))},{chs,k6 b2 (notins b2 (by intro v v v z;cases z)) ap.2.2.2.1.symm,Paired.mapP b2' λx c h=>?_},k6 b3 (notins b3 (by intro v v v z;cases z)) ap.2.2.2.2.1.symm,λi l e=>k6 (b4 i l e) (notins (b4 i l e) (by intro v v v z;cases z)) (λz=>ap.2.2.2.2.2<|z ▸ θ e),b5,{kvs,k6 b6 (notins b6 (by intro v v v z;cases z)) (BB b6 pl5 (by intro z;cases z)),b6'},{kvo',k6 b7 (notins b7 (by intro v v v z;cases z)) (BB b7 pl5 (by intro z;cases z)),b7'},b8,b9,b10,b11,b12},P6,by rw[nb,jw]};revert h;apply u3;rintro dc p1 n1 ⟨h1,h2,h3⟩;exact x3 dc p1 n1 {k6 h1 (BB h1 hg5 (NB (by simp[GE,pf]))) (BB h1 pl5 (by intro z;cases z)),k6 h2 (notins h2 (by intro v v v z;cases z)) (BB h2 pl5 (by intro z;cases z)),k6 h3 (notins h3 (by intro v v v z;cases z)) (BB h3 pl5 (by intro z;cases z))}
 have ht5:=s5 _ _ ht4
 have ho5:=s5 _ _ ho4
 have hh5:=s5 _ _ hh4;refine q H6 {k6 ht5 (notins ht5 (by intro v v v z;cases z)) (BB ht5 pl5 (by intro z;cases z)),k6 ho5 (notins ho5 (by intro v v v z;cases z)) (λz=>fO<|.inr<|.inr<|.inr<|.inr<|.inr z),hs,k6 hh5 (notins hh5 (by intro v v v z;cases z)) (λz=>(B.off hhlH) (.inr<|.inr<|.inr<|.inr<|.inr z)),Paired.mapP hp4 λx p e=>?_} B6 λy o e ny=>(k6 (s5 _ _<|sb4 _ _ e λz=>ny<|.inl<|.inr<|.inr<|.inr<|.inr<|.inl z) (λz=>ny<|.inr z) (λz=>ny<|.inl<|.inr<|.inr<|.inr<|.inr<|.inr z))
 have e5:=s5 _ _ e;exact k6 e5 (notins e5 (by intro v v v z;cases z)) (BB e5 pl5 (by intro z;cases z));rcases z with z|z|z
 lia
 exact absurd (dr.mpr hbl) (Int.not_lt.mpr z);exact absurd (by rw[mU,B.pk.wd row<|θ er]) z
def zpv:TU K a vs H Q E->vs.length=2:=by
 apply u7;rintro z z z z z z z ⟨rfl,z⟩
 rfl
example:(zpw,XT,oZ,2):=by
 apply u8;rintro A w rows n cs outs k c ⟨rfl,T,B,ec,q⟩;obtain⟨dx,hb⟩:=B.bk.ob;refine u2 ?_<|B.bk.at ec;rintro xs p ⟨e1,e2,dx2,pl,nt,c1,c2,c3⟩;exact y3 {hb,T.cl,T.nM,_,IS,DC (SqL.of e1) rfl e2 (y3 {c1,T.cc,T.nP,_,mP,BM c2  rfl rfl q})}
structure yA(cs:Ox)(outs R:rW)(H0:Hp)(rw tk lf:Addr)(sofar lefts:Oz)(kvt:rR)(H:Hp):Prop where
 sb:Same H0 H
 er:H rw=some (.lst<|AQ sofar)
 et:H tk=some (.dK kvt)
 el:H lf=some (.lst<|AQ lefts)
 nrt:H0 rw=none/\H0 tk=none/\rw≠lf
 lft:lefts=FR cs.length (λx=>outs x||BU kvt x) R
 row:∀ CN,HB cs (λx=>outs x||BU kvt x) lefts CN->HB cs outs (FR cs.length outs R) (sofar++CN)
 ks:KeysOk kvt cs.length
 sl:sofar.length+lefts.length<=cs.length
def zpx(kvs:rR)(k x:Int)(v:V):BU (B0 kvs (.inl k) v) x=(BU kvs x||x==k):=by
 unfold BU;rw[F8];by_cases e:(ux x:AN)=.inl k
 ·cases e;simp
 have:¬ x=k:=λy=>e (by rw[y]);simp[this]
example:(zpy,XU,uB,7):=by
 apply u8;rintro A w rows n cs outs nl ns ⟨rfl,T,B,hs,hl,q,qe⟩;refine{by decide,λrw hrw tk htk=>?_}
 have nrt:=BE AD htk
 have htkH:H tk=none:=by rw[AH nrt.symm]at htk;exact htk
 have s1:=(AK  hrw).trans (AK (o:=.dK []) htk)
 have er1:upd (upd H rw (.lst [])) tk (.dK []) rw=some (.lst []):=by rw[AH nrt,AD]
 have et1:upd (upd H rw (.lst [])) tk _ tk=some (.dK []):=AD;revert s1 er1 et1;intro s1 er1 et1
 have B1:=B.same s1;obtain⟨dx1,hb1⟩:=B1.bk.ob;refine y2 {hb1,C1 (by decide),x8 A w _ n cs _ nl ns {rfl,T,B1,s1.seq hs,hl,λkn lf H2 R r1 r2 r3 hlf s2 elf=>?_,λbad=>qe bad _ s1}}
 have cR:SR cs _ ns R:=⟨r1,r2,r3⟩
 have csz:=B.bk.sz
 have llen:(FR cs.length outs R).length<=cs.length:=by
  have h2:=cm (λ(k:Nat)=> !outs k) (ξ cs.length);rw[cy]at h2;exact ψ (cm (λ(k:Nat)=>R k) _) h2
 refine{λm σ H'=>∃ (lf:Addr) (sofar lefts:List _) (kvt:List _),yA cs outs R H rw tk lf sofar lefts kvt H'/\lefts.length=m/\∃ y5 y6,σ=[some _,some _,some _,some _,some<|.ref lf,y5,y6],x5 _ lf [] _ [] {{(s1.trans s2),s2 _ _ er1,s2 _ _ et1,elf,{hrw,htkH,(λe=>by rw[<-e,er1]at hlf;cases hlf)},(by simp[VQ,FH]),λCN h=>?_,{jr,by simp},by show 0+_<=_;rw[mv];exact llen},rfl,x2 _ _ rfl},?_};simpa [BU,VQ,FH]using h;rintro m σ H3 ⟨lf,sofar,lefts,kvt,I,hm,y5,y6,rfl⟩;push_cast[];refine{_,.inl {_,SqL.of I.el,rfl},?_};cases lefts with
 |nil =>
  have:=I.row [] .nil;rw[jg]at this;exact q kn rw _ R H3 cR this (I.sl) hrw I.sb I.er
 | cons k r =>
  have hk:=PJ.mp (show k∈FR cs.length (λx=>outs x||BU kvt x) R by rw[<-I.lft];exact ω ..)
  have ec:=η hk.1;revert ec;generalize cs[k]=c;intro ec
  have B3:=B.same I.sb;obtain⟨dx3,hb3⟩:=B3.bk.ob;refine{λσ' H'=>∃ (lf':Addr) (lefts':Oz) (kvt':rR),yA cs outs R H rw tk lf' (sofar++[c.blk]) lefts' kvt' H'/\lefts'.length<m/\∃ y5 y6,σ'=[some (.ref A.b),some<|.ref nl,some<|.ref rw,some<|.ref tk,some<|.ref lf',y5,y6],λσ' H' ⟨lf',lefts',kvt',I',AY,y5,y6,e⟩=>{_,AY,x3 lf' _ lefts' {⟨kvt',I'⟩,rfl,x2 y5 y6 e}},?_};obtain⟨g1,g2,g3⟩:=I.nrt;refine y2 {hb3,C1 (by decide +kernel),DC (SqL.of I.el) (n:=0) (v:=.int k) rfl rfl (x8 A w rows n cs outs k c {rfl,T,B3,ec,?_})};push_cast[↓t7_]
  have sl:=I.sl;rw[cv]at sl;refine{.inl {rfl,_,SqL.of I.er},_,I.er,χ (show(AQ sofar).length<1000 by unfold AQ;rw[ζ];lia) (by decide),?_}
  have s4:Same H (upd H3 rw (.lst<|AQ sofar++[.int c.blk])):=λy o e=>by rw[AH (BE e hrw)];exact I.sb _ _ e
  have iO:upd H3 rw (.lst<|AQ sofar++[.int c.blk]) rw=some (.lst<|AQ<|sofar++[c.blk]):=by rw[AD];simp[AQ]
  have et4:upd H3 rw (.lst<|AQ sofar++[.int c.blk]) tk=some (.dK kvt):=by rw[AH nrt.symm];exact I.et
  have el4:upd H3 rw (.lst<|AQ sofar++[.int c.blk]) lf=some (.lst<|AQ (k::r)):=by rw[AH g3.symm];exact I.el
  revert s4 iO et4 el4;intro s4 iO et4 el4
  have B4:=B.same s4;obtain⟨dx4,hb4⟩:=B4.bk.ob;refine y2 {hb4,C1 (by decide +kernel),x9 A w rows n cs outs c.blk tk kvt {rfl,T,B4,(by rw[<-B.nb];exact(B.bk.inn c<|θ ec).1),et4,oA (ψ I.ks.len csz) rfl,λt ol hl5 H5 hol hhl nol s5 told=>BM told.1 (n:=0) rfl rfl (.inl {{_,SqL.of told.2.1},?_})}}
  have eo:=told.2.1;rw[zen]at eo
  have oW:∀ x:Int,C7 cs (λx=>outs x||BU kvt x) c.blk x=((outs x||BU kvt x)||(outcome cs (λx=>outs x||BU kvt x) (λ_=>false) c.blk).out.any λ(k:Nat)=>x ==(k:Int)):=λx=>rfl;obtain⟨o1,o2,_⟩:=SU (cs:=cs) (outs:=λx=>outs x||BU kvt x) (b:=c.blk);generalize (outcome cs (λx=>outs x||BU kvt x) (λ_=>false) c.blk).out=out at eo o1 o2 oW
  have et5:=s5 _ _ et4
  have er5:=s5 _ _ iO
  have el5:=s5 _ _ el4
  have s45:=s4.trans s5
  have ntk:ol≠tk:=λe=>by rw[e,et4]at hol;cases hol
  refine FN (xs:=out.map λ(k:Nat)=>V.int k) (λq σ H'=>(∃ kv:rR,H'=upd H5 tk (.dK kv)/\(∀ x,BU kv x=(BU kvt x||(out.take q).any λ(k:Nat)=>x ==(k:Int)))/\KeysOk kv cs.length)/\∃ y6,σ=[some (.ref A.b),some<|.ref nl,some<|.ref rw,some<|.ref tk,some<|.ref lf,some<|.int c.blk,y6]) {{kvt,?_,by simp,I.ks},_,rfl} (λq σ H' _ {⟨kv,e,_⟩,_}=>by rw[e];exact SqL.of (by rw[AH ntk];exact eo)) (λq x σ H' hx hzz=>?_) (λσ H' hzz=>?_)
  ·funext y;by_cases e:y=tk
   ·subst e;rw[AD];exact et5
   ·rw[AH e]
  ·obtain⟨⟨kv,e,hkv,hks⟩,y6,ez⟩:=hzz;subst e;subst ez;rw[τ,ae]at hx;obtain⟨x',hx',rfl⟩:=hx
   have FL:=hks.len
   have et:out.take (q+1)=out.take q++[x']:=by
    obtain⟨h1,h2⟩:=ε.mp hx';rw[<-h2,ki]
   obtain⟨q1,q2⟩:=o2 x'<|θ hx'
   have hxn:x'<cs.length:=SQ q2
   have hno:BU kv x'=false:=by
    rw[hkv,(ic.mp q1).2,xx];cases h:(out.take q).any λ(k:Nat)=>(x':Int) ==(k:Int)with
    |false=>rfl
    |true =>
     exfalso;obtain⟨y,hy,e⟩:=c_.mp h
     have e:x'=y:=by have:=eq_of_beq e;exact cg this
     obtain⟨h1,h2⟩:=ε.mp hx'
     have rise:=o1;rw[<-jv q out,iq h1,h2]at rise
     have:=(zv.mp rise).2.2 y hy x' (ω ..)
     lia
   push_cast[↓t8_];refine{_,pI AD<|oC (ψ FL csz) rfl,B0 kv (.inl x') (.bl true),FW,λx=>?_,hks.put hxn (by simpa [BU]using hno) _};rw[zpx,hkv,et,Il];simp[kq]
  ·obtain⟨⟨kv,e,hkv,hks⟩,y6,ez⟩:=hzz;subst e;subst ez;rw[ζ,bx]at hkv
   have s6:Same H (upd H5 tk<|.dK kv):=λy o e=>by rw[AH (BE e htkH)];exact s45 _ _ e
   have er6:upd H5 tk (.dK kv) rw=some (.lst<|AQ<|sofar++[c.blk]):=by rw[AH nrt];exact er5
   have et6:upd H5 tk (.dK kv) tk=some (.dK kv):=AD
   have el6:upd H5 tk (.dK kv) lf=some (.lst<|AQ (k::r)):=by rw[AH (BB el5 et5 (by intro z;cases z))];exact el5
   revert s6 er6 et6 el6;generalize upd H5 tk (.dK kv)=H6;intro s6 er6 et6 el6
   have eJ:(λx=>outs x||BU kv x)=C7 cs (λx=>outs x||BU kvt x) c.blk:=by funext x;rw[oW,hkv,kq]
   have hll:(AQ (k::r)).length<=1000:=by unfold AQ;rw[ζ,cv];lia
   push_cast[↓uA_];refine .inl {{_,SqL.of el6},WT (λv=>match v with|.int x=> !BU kv x|_=>false) (CF _<|oA hll rfl) (SqL.of el6) (λv hv QB qb=>?_) λl2 CY=>?_}
   ·obtain⟨x,_,rfl⟩:=av.mp hv;push_cast[CH];exact{_,dI et6,qb}
   ·have ef:(AQ (k::r)).filter (λv=>match v with|.int x=> !BU kv x|_=>false)=AQ ((k::r).filter λ(x:Nat)=> !BU kv x):=by
     unfold AQ;rw[za]
     rfl
    rw[ef]
    have e2:(k::r).filter (λ(x:Nat)=> !BU kv x)=(k::r).filter λ(x:Nat)=> !C7 cs (λx=>outs x||BU kvt x) c.blk x:=ud λx hx=>by
     rw[I.lft]at hx
     have:=(ic.mp (PJ.mp hx).2.1).1;rw[<-eJ]
     show(!BU kv x)= !(outs x||BU kv x);rw[this,xx]
    have e3:(k::r).filter (λ(x:Nat)=> !BU kv x)=FR cs.length (λx=>outs x||BU kv x) R:=by rw[e2,I.lft,zep,eJ]
    have k1:C7 cs (λx=>outs x||BU kvt x) c.blk k=true:=zer (λk c e=>(B.bk.need k c e).1) (λk c e ho=>cR.up k c e (ic.mp ho).1) I.lft.symm ec
    have short:((k::r).filter λ(x:Nat)=> !BU kv x).length<(k::r).length:=by
     rw[e2];exact zes (ω ..) (by rw[k1];rfl)
    have nl2:rw≠l2:=BE er6 CY;refine x2 l2 _ {{kv,{s6.trans<|AK CY,AK CY _ _ er6,AK CY _ _ et6,AD,⟨g1,g2,nl2⟩,e3,λCN hr=>?_,hks,?_}},by lia,rfl}
    ·rw[gr];refine I.row _<|.cons ec ?_;rw[<-e2,<-eJ];exact hr
    ·rw[af,iw];rw[cv]at short
     lia
example:(zpz,S5,pO,5):=by
 apply u6;rintro p dx n r c w ⟨rfl,T,hp,b1,b2,b3,b4,b5,q⟩;refine y3 {hp,T.cl,T.n1,by decide,y3 {AD,T.cl,T.n2,JW (by decide),y3 {AD,T.cl,T.n3,JW  (py (JW  (by decide))),y3 {AD,T.cl,T.n4,(JW  (py (JW  (py (JW  (by decide)))))),?_}}}};rw[FW,FW,FW];exact q _ {⟨dx,AD⟩,b1,b2,b3,b4,b5} λb o e hb=>by rw[AH hb];exact e
example:(zp0,K4,pR,3):=by
 apply u7;rintro p n r c w k b ⟨rfl,T,L,q⟩;obtain⟨dx,e⟩:=L.ob
 have:=L.h1
 have:=L.hw;refine y3 {e,T.cl,T.n4,_,ND,({{by lia,by lia},y3 {e,T.cl,T.n4,_,ND,?_}})};push_cast[];exact{by lia,by decide,q}
example:(zp1,IU,sM,2):=by
 apply u6;rintro p n r c w k ⟨rfl,T,L,q⟩;obtain⟨dx,e⟩:=L.ob;exact y2 {e,BY,x7 p n r c w k 0 ⟨rfl,T,L,q⟩}
example:(zp2,GR,sN,2):=by
 apply u6;rintro p n r c w k ⟨rfl,T,L,q⟩;obtain⟨dx,e⟩:=L.ob;exact y2 {e,BY,y3 {e,T.cl,T.n1,_,S0,x7 p n r c w k _ ⟨rfl,T,L,q⟩}}
example:(zp3,K5,sO,2):=by
 apply u6;rintro p n r c w k ⟨rfl,T,L,q⟩;obtain⟨dx,e⟩:=L.ob;exact y2 {e,BY,y3 {e,T.cl,T.n1,_,S0,y3 {e,T.cl,T.n2,_,PK,(x7 p n r c w k _ ⟨rfl,T,L,q⟩)}}}
example:(zp4,IV,sP,2):=by
 apply u6;rintro p n r c w k ⟨rfl,T,L,q⟩;obtain⟨dx,e⟩:=L.ob;exact y2 {e,BY,y2 {e,BY,x5 p n r c w {rfl,T,L,x7 p n r c w k _ ⟨rfl,T,L,q⟩}}}
example:(zp5,IW,sQ,2):=by
 apply u6;rintro p n r c w k ⟨rfl,T,L,q⟩;obtain⟨dx,e⟩:=L.ob;exact y2 {e,BY,y2 {e,BY,x5 p n r c w {rfl,T,L,y3 {e,T.cl,T.n2,_,PK,(x7 p n r c w k _ ⟨rfl,T,L,q⟩)}}}}
example:(zp6,NE,pQ,1):=by
 apply u5;rintro p n r c w ⟨rfl,T,L,q⟩;obtain⟨dx,e⟩:=L.ob;exact y3 {e,T.cl,T.n1,_,S0,y3 {e,T.cl,T.n2,_,PK,(y3 ⟨e,T.cl,T.n3,_,XR,q⟩)}}
example:(zp7,S6,sR,1):=by
 apply u5;rintro p n r c w ⟨rfl,T,L,q⟩;obtain⟨dx,e⟩:=L.ob;exact y2 {e,BY,x5 p n r c w {rfl,T,L,y3 {e,T.cl,T.n2,_,PK,(y3 ⟨e,T.cl,T.n3,_,XR,q⟩)}}}
example:(zp8,K6,pP,1):=by
 apply u5;rintro p n r c w ⟨rfl,T,L,q⟩;obtain⟨dx,e⟩:=L.ob;obtain⟨z,b1,b2,b3,b4,b5⟩:=L;refine y3 {e,T.cl,T.n1,_,S0,y3 {e,T.cl,T.n4,_,ND,({.inl {i0,by lia},y3 {e,T.cl,T.n2,_,PK,y3 {e,T.cl,T.n4,_,ND,({.inl {i0,by lia},y3 {e,T.cl,T.n3,_,XR,y3 {e,T.cl,T.n4,_,ND,?_}}})}}})}};push_cast[];exact{.inl {i0,by lia},by decide,q}
example:(zp9,S7,uF,1):=by
 apply u5;rintro p n r c w ⟨rfl,T,TP,L,q⟩;obtain⟨dx,e⟩:=L.ob
 have LL:=L;obtain⟨z,b1,b2,b3,b4,b5⟩:=L;refine y2 {e,BY,x5 p n r c w {rfl,T,LL,y3 {e,T.cl,T.n4,_,ND,λx dx' hx RH hne=>?_}}}
 have s3:Same H (upd (upd H _<|.own x) x (.ins (a "Plank") dx' [])):=(AK RH).trans (AK (by rw[AH hne.symm];exact hx));refine x4 x _ _ w {rfl,TP,AD,by lia,b4,oA b5 rfl,λcl H2 BC P2 s4=>{rfl,q x cl H2 hx (s3.free BC) P2 λb o eb=>s4 _ _ (s3 _ _ eb) (BE eb hx)}}
def zqa:S5 K a vs H Q E->vs.length=5:=by
 apply u6;rintro z z z z z z ⟨rfl,z⟩
 rfl
def zqb:K4 K a vs H Q E->vs.length=3:=by
 apply u7;rintro z z z z z z z ⟨rfl,z⟩
 rfl
def zqc:IU K a vs H Q E->vs.length=2:=by
 apply u6;rintro z z z z z z ⟨rfl,z⟩
 rfl
def zqd:GR K a vs H Q E->vs.length=2:=by
 apply u6;rintro z z z z z z ⟨rfl,z⟩
 rfl
def zqe:K5 K a vs H Q E->vs.length=2:=by
 apply u6;rintro z z z z z z ⟨rfl,z⟩
 rfl
def zqf:IV K a vs H Q E->vs.length=2:=by
 apply u6;rintro z z z z z z ⟨rfl,z⟩
 rfl
def zqg:IW K a vs H Q E->vs.length=2:=by
 apply u6;rintro z z z z z z ⟨rfl,z⟩
 rfl
def zqh:NE K a vs H Q E->vs.length=1:=by
 apply u5;rintro z z z z z ⟨rfl,z⟩
 rfl
def zqi:S6 K a vs H Q E->vs.length=1:=by
 apply u5;rintro z z z z z ⟨rfl,z⟩
 rfl
def zqj:K6 K a vs H Q E->vs.length=1:=by
 apply u5;rintro z z z z z ⟨rfl,z⟩
 rfl
def zqk:S7 K a vs H Q E->vs.length=1:=by
 apply u5;rintro z z z z z ⟨rfl,z⟩
 rfl
def zql(hi:i<m)(h:f i=true)(hl:∀ j<i,f j=false):EE f m=i:=by
 unfold EE
 have:(ξ m).find? f=some i:=by
  obtain⟨d,rfl⟩:=ie<|show i+1<=m from hi;rw[lx];refine{h,x2 (ξ i) ((ξ d).map (i+1+·)) {?_,λj hj=>by rw[hl j (ai.mp hj)];rfl}};rw[eh,wt,wt];simp[eh,E_]
 rw[this]
def zqm(hl:∀ j<m,f j=false):EE f m= -1:=by
 unfold EE
 have:(ξ m).find? f=none:=ju.mpr λj hj=>by rw[hl j (ai.mp hj)];exact aw
 rw[this]
def zqn(hx:∀ z∈xs,TX z)(hv:GoodV n H v)(hf:HQ v=true):IM v xs=decide (v∈xs):=by
 rw[mz,decide_eq_true_iff];unfold IM
 have key:∀ z,TX z->(F5 z v=true↔z=v):=λz hz=>by
  rcases hz with rfl|⟨i,rfl⟩<;>(cases v<;>first|(simp[F5];done)|(cases n<;>exact hv.elim)|(simp[HQ]at hf))
 rw[c_];constructor;rintro ⟨z,hz,e⟩;rw[<-(key z<|hx z hz).mp e];exact hz;exact λh=>{v,h,(key v<|hx v h).mpr rfl}
def DV(H H':Hp):Prop:=∀ b xs,H b=some (.tup xs)->H' b=some (.tup xs)
def GoodV.keep(k:DV H H'):∀ {n:Nat} {v:V},GoodV n H v->GoodV n H' v
 |0,_,h=>h
 |_+1,.int _,_=>trivial
 |_+1,.non,_=>trivial
 |_+1,.str _,h=>h
 |n+1,.ref p,⟨xs,h1,h2,h3⟩=>{xs,k _ _ h1,h2,λv hv=>(h3 v hv).keep k}
def Same.tk{H H':Hp}(s:Same H H'):DV H H':=λb xs e=>s _ _ e
def zqo(hg:GoodV 4 H v)(hv:H vl=some (.tup xs))(hx:∀ z∈xs,TX z)(q:Q (.bl<|decide<|v∈xs) H):OZ K v (.ref vl) H Q:=by
 have flat:HQ v=true->OZ K v _ H Q:=λhf=>.inl ⟨vl,xs,rfl,.inr<|SqT.of hv,hf,(lh.mpr λz hz=>by rcases hx z hz with rfl|⟨i,rfl⟩<;>rfl),by
  rw[zqn hx hg hf];exact q⟩
 cases v with
 |ref t =>
  have:decide ((V.ref t)∈xs)=false:=decide_eq_false λhm=>by rcases hx _ hm with z|⟨i,z⟩<;>cases z
  obtain⟨ys,e,y⟩:=hg;rw[this]at q;exact .inr<|x4 t ys vl xs {rfl,SqT.of e,rfl,SqT.of hv,hx,q}
 |int i=>exact flat rfl
 |non=>exact flat rfl
 |str z=>exact flat rfl
 |_=>exact hg.elim
example:(zqp,MA,uT,5):=by
 apply KD;rintro A w rows n cs outs pl vl ts xs f m ⟨rfl,T,TP,B,hp,hm,hm2,hv,hx,hf,q,qe⟩;obtain⟨dx,ho⟩:=B.bk.ob;refine{{_,SqL.of hp},WZ  (λi σ H'=>(Same H H'/\∀ j<i,f j=false)/\∃ x y,σ=[some _,some _,some _,x,y]) {{Same.refl _,λj hj=>absurd hj<|mw _},x2 _ _ rfl} (by rintro i σ H' u ⟨⟨s,u⟩,u⟩;exact SqL.of<|s _ _ hp) (λi x σ H' t hx' hzz ht=>?_) (λσ H' hzz=>?_)};obtain⟨⟨s,lo⟩,x0,y0,rfl⟩:=hzz;rw[τ]at hx';cases et:ts[i]? with
 |none=>rw[et]at hx';cases hx'
 | some tt =>
  rw[et]at hx';obtain rfl:=μ hx';refine u3 ?_<|hf i tt et;rintro bi bj v ⟨e1,on,ev,gv,ef⟩
  have s2:=s.trans<|AK (o:=.tup [.int i,.ref tt]) ht;refine{_,SqT.of AD,rfl,?_};revert s2;refine λs2=>y2 {s2 _ _ ho,C1,x9 A w _ n cs _ tt bi bj {rfl,T,TP,B.same s2,s2 _ _ e1,λu v' H3 ev' s3=>?_,λz=>absurd on z}};rw[ev]at ev';obtain rfl:=μ ev'
  have s4:=s2.trans s3;refine zqo (gv.keep s4.tk) (s4 _ _ hv) hx ?_;rw[<-ef];push_cast[];cases hfi:f i with
  |true=>exact q i (zql (hm ▸ ((ε.mp et).1)) hfi lo) _ s4
  |false=>exact⟨s4,λj hj=>by
    rcases e_ j i with z|z
    exact lo j z;rw[show j=i by exact jx (fe hj) z];exact hfi⟩
 obtain⟨⟨s,lo⟩,x0,y0,ez⟩:=hzz;rw[ζ,hm]at lo;exact{by decide,qe (zqm lo) _ s}
def zqq:MA K a vs H Q E->vs.length=3:=by
 apply KD;rintro z z z z z z z z z z z z ⟨rfl,z⟩
 rfl
def ZO{m w:Nat}{B:Nat->Int}{te:TE}{A4:Oz}{σ:St}{H:Hp}{Q:VK}(hm:m<=1000)(ht:∀ i H' Q',i<m->Same H H'->GQ (B i) (i%w:Nat) Q' H'->te (some (.int<|0+(i:Int))::CH A4 σ) H' Q')
  (q:∀ (ts:qX) (H':Hp) (l:Addr),ts.length=m->Same H H'->(∀ k t,ts[k]? =some t->H' t=some (.tup [.int (B k),.int (k%w:Nat)]))->H' l=some (.lst<|ts.map V.ref)->Q (.ref l) H'):D2 (E9 0 m) (AE 0) CO te 1 A4 σ H Q:=by
 refine KR (CF m<|oA hm rfl) (λi ys H'=>Same H H'/\∃ ts:List _,ys=ts.map V.ref/\ts.length=i/\∀ k t,ts[k]? =some t->H' t=some (.tup [.int (B k),.int<|k%w])) {Same.refl _,[],rfl,rfl,λk t h=>by simp at h} (λi ys H' hi hl hzz=>?_) λys H' hl hzz l hl'=>?_;obtain⟨s,ts,e,el,h⟩:=hzz;refine ht i H' _ hi s λt htn=>?_
 have st:=AK (o:=.tup [.int (B i),.int<|i%w]) htn;refine{s.trans st,ts++[t],by rw[e,ak];rfl,by simp[el],λk t' hk=>?_};rcases e_ k _ with z|z
 rw[ba z]at hk;exact st _ _<|h k t' hk;rw[cf z]at hk
 have hk0:k-ts.length=0:=by
  rcases mq _ with z|z
  exact z;rw[bq (z)]at hk;cases hk
 rw[hk0]at hk;obtain rfl:=μ hk
 have:k=i:=by lia
 subst this;exact AD;obtain⟨s,ts,rfl,el,h⟩:=hzz
 have st:=AK (o:=.lst<|ts.map V.ref) hl';exact q ts _ l (by simpa using hl) (s.trans st) (λk t hk=>st _ _<|h k t hk) AD
def yB{rows:qT}{w i j:Nat}(hw:∀ r∈rows,r.length=w)(hi:i<rows.length)(hj:j<w)(cs:Ox):∃ v,ED cs rows i j=some v:=by
 unfold ED;cases e:DQ cs i j with
 |some k =>
  exact{_,by show(cs[k]?).map _=_;rw[η (NC e)];rfl}
 |none =>
  have er:=η hi;exact{_,by rw[cb,er];exact η<|Nat.lt_of_lt_of_eq hj (hw _<|θ er).symm}
def zqr{n r c w kind k:Nat}(hk:kind<3)(h:k<BH n r c w kind):BG n r c w kind k<n+r+c+r+c:=by
 unfold BG
 have hd:=kd (by rw[dh];exact h);rcases(c3 hk)with z|z|z<;>subst z<;>simp at hd ⊢ <;>lia
def yC{n r c w kind k:Nat}(h:k<BH n r c w kind):1<=w:=by
 rcases mq w with z|z
 rw[z]at h;exact nZ h;exact z
def UM{n r c w kind:Nat}(h1:n<=6)(h2:r<=6)(h3:c<=6)(h4:w<=6):BH n r c w kind<=36:=by
 have h:(if kind=0 then n else if kind=1 then r else if kind=2 then c else if kind=3 then r else c)<=6:=by
  split<;>(try split)<;>(try split)<;>(try split)<;>lia
 exact lg h h4
def Q2(kind:Nat):Oj:=if kind=0 then [.non]else [.non,.int 0]
def zqs(kind:Nat)(v:V):decide (v∈Q2 kind)=K8 kind v:=by
 unfold Q2 K8;by_cases h:kind=0;subst h;simp;rw[if_neg h];simp[s_ h]
def ZP{kind:Nat}{A:BA}{n r c w:Nat}{rows:qT}{nn:Nat}{cs:Ox}{outs:rW}{ts:qX}{l:Addr}{H':Hp}(hk:kind<3)(T:TB K a)(TP:DL K a)(s:Same H H')(B:DR a H A w rows nn cs outs)(hM:rows.length=n+r+c+r+c)(h1:n<=6)(h2:r<=6)(h3:c<=6)(h4:w<=6)
  (gh:∀ i j v,ED cs rows i j=some v->GoodV 4 H v) (hts:ts.length=BH n r c w kind) (ht:∀ k t,ts[k]? =some t->H' t=some (.tup [.int (BG n r c w kind k:Nat),.int (k%w:Nat)])) (el:H' l=some (.lst<|ts.map V.ref))
  (q:∀ k:Nat,EE (L9 cs rows n r c w kind) (BH n r c w kind)=k->∀ H',Same H H'->Q (.int k) H') (qe:EE (L9 cs rows n r c w kind) (BH n r c w kind)= -1->∀ H',Same H H'->E (.ref<|a "NoRoom") none H') :
  ∀ u,H' u=none->MA K a [.ref A.b,.ref l,.ref u] (upd H' u<|.tup<|Q2 kind) Q E:=λu hu=>by
 have su:=AK (o:=.tup<|Q2 kind) hu
 have s2:=s.trans su;refine N3 A w _ nn cs _ l u ts _ _ _ {rfl,T,TP,B.same s2,su _ _ el,hts,oA (UM  h1 h2 h3 h4) rfl,AD,λz hz=>?_,λk t hkt=>?_,λk hk' H3 s3=>q k hk' H3<|s2.trans s3,λhk' H3 s3=>qe hk' H3<|s2.trans s3};unfold Q2 at hz;split at hz<;>simp at hz;exact .inl hz;rcases hz with z|z
 exact .inl z;exact .inr {0,z}
 have AY:=hts ▸ ((ε.mp hkt).1)
 have hb:=zqr hk AY
 have hj:k%w<w:=sx _<|(yC AY);obtain⟨v,ev⟩:=yB (λr' hr'=>B.pk.wd r' hr') (show BG n r c w kind k<rows.length by lia) hj cs;refine x3 _ _ v {su _ _<|ht k t hkt,{i0,dr.mpr<|hM ▸ hb,i0,dr.mpr hj},ev,(gh _ _ _ ev).keep s2.tk,?_};unfold L9;rw[ev,zqs]
example:(zqt,PY,ZC,3):=by
 apply u2;rintro p b ⟨rfl,A,n,r,c,w,rows,nn,cs,outs,rfl,T,TP,TL,L,h1,h2,h3,h4,B,hM,gh,q,qe⟩;obtain⟨dx,e⟩:=L.ob;push_cast[ZC,↓uZ_];refine y2 {e,BY,x5 p n r c w {rfl,TL,L,λt ht=>?_}}
 have s1:=AK (o:=.tup [V.int (n*w),V.int<|r*w,V.int<|c*w]) ht;refine BM AD  rfl rfl ?_;revert s1
 have hk:=UM (kind:=0) h1 h2 h3 h4
 have em:n*w=(BH n r c w 0):=by unfold BH;simp
 refine λs1=>{i0,by lia,ZO   (oA hk rfl) (λi H' Q' hi s' q'=>(y2 {s' _ _<|s1 _ _ e,BY,x6 p n r c w i {(by simp),TL,(L.same s1).same s',?_}})) λts H' l hts s' htt el=>{by decide,ZP  (by decide) T TP (s1.trans s') B hM h1 h2 h3 h4 gh hts htt el q qe}}
 exact q'
def zqu:PY K a vs H Q E->vs.length=2:=by
 apply u2;rintro z z ⟨rfl,z⟩
 rfl
example:(zqv,TZ,ZD,3):=by
 apply u2;rintro p b ⟨rfl,A,n,r,c,w,rows,nn,cs,outs,rfl,T,TP,TL,L,h1,h2,h3,h4,B,hM,gh,q,qe⟩;obtain⟨dx,e⟩:=L.ob;push_cast[ZD,↓vA_];refine y2 {e,BY,x5 p n r c w {rfl,TL,L,λt ht=>?_}}
 have s1:=AK (o:=.tup [V.int (n*w),V.int<|r*w,V.int<|c*w]) ht;refine BM AD  rfl rfl ?_;revert s1
 have hk:=UM (kind:=1) h1 h2 h3 h4
 have em:r*w=(BH n r c w 1):=by unfold BH;simp
 refine λs1=>{i0,by lia,ZO   (oA hk rfl) (λi H' Q' hi s' q'=>(y2 {s' _ _<|s1 _ _ e,BY,x6 p n r c w i {(by simp),TL,(L.same s1).same s',?_}})) λts H' l hts s' htt el=>{by decide,ZP  (by decide) T TP (s1.trans s') B hM h1 h2 h3 h4 gh hts htt el q qe}}
 exact q'
def zqw:TZ K a vs H Q E->vs.length=2:=by
 apply u2;rintro z z ⟨rfl,z⟩
 rfl
example:(zqx,T2,ZE,3):=by
 apply u2;rintro p b ⟨rfl,A,n,r,c,w,rows,nn,cs,outs,rfl,T,TP,TL,L,h1,h2,h3,h4,B,hM,gh,q,qe⟩;obtain⟨dx,e⟩:=L.ob;push_cast[ZE,↓vB_];refine y2 {e,BY,x5 p n r c w {rfl,TL,L,λt ht=>?_}}
 have s1:=AK (o:=.tup [V.int (n*w),V.int<|r*w,V.int<|c*w]) ht;refine BM AD  rfl rfl ?_;revert s1
 have hk:=UM (kind:=2) h1 h2 h3 h4
 have em:c*w=(BH n r c w 2):=by unfold BH;simp
 refine λs1=>{i0,by lia,ZO   (oA hk rfl) (λi H' Q' hi s' q'=>(y2 {s' _ _<|s1 _ _ e,BY,x6 p n r c w i {(by simp),TL,(L.same s1).same s',?_}})) λts H' l hts s' htt el=>{by decide,ZP  (by decide) T TP (s1.trans s') B hM h1 h2 h3 h4 gh hts htt el q qe}}
 exact q'
def zqy:T2 K a vs H Q E->vs.length=2:=by
 apply u2;rintro z z ⟨rfl,z⟩
 rfl
def yD:∀ {n:Nat} {v:V},GoodV n H v->∃ d,Dat K H n v d
 |_+1,.int i,_=>{_,Dat.int i}
 |_+1,.non,_=>⟨_,Dat.non⟩
 |_+1,.str z,h=>{_,.str z,h,bh _}
 | n+1,.ref p,⟨xs,h1,h2,h3⟩=>by
  have:∀ (l:Oj),(∀ v∈l,GoodV n H v)->∃ ds,Paired _ l ds:=λl=>by
   induction l with
   |nil=>exact λy=>{[],.nil}
   |cons x r ih =>
    intro h;obtain⟨d,hd⟩:=yD<|h x<|ω ..;obtain⟨ds,hds⟩:=ih λv hv=>h v<|υ _ hv;exact{_,.cons hd hds}
  obtain⟨ds,hds⟩:=this xs h3;exact{_,Dat.tup (SqT.of h1) hds}
def zqz(h:∀ v∈l,GoodV n H v):∃ ds,Paired (Dat K H n) l ds:=by
 induction l with
 |nil=>exact{[],.nil}
 |cons x r ih =>
  obtain⟨d,hd⟩:=yD  (h x<|ω ..);obtain⟨ds,hds⟩:=ih λv hv=>h v<|υ _ hv;exact{_,.cons hd hds}
def yE{cs:Ox}{rows:qT}(g:goodH H cs rows){i j:Int}{v:V}(h:ED cs rows i j=some v):GoodV 4 H v:=by
 unfold ED at h;cases e:DQ cs i j with
 |some k =>
  rw[e]at h
  have h:(cs[k]?).map _=some v:=h;cases ec:cs[k]? with
  |none=>rw[ec]at h;cases h
  |some c =>
   rw[ec]at h;obtain rfl:=μ h;exact g.2 c<|θ ec
 |none =>
  rw[e]at h;cases er:rows[i.toNat]? with
  |none=>rw[er]at h;cases h
  |some r =>
   rw[er]at h;exact g.1 r (θ er) v (θ h)
def goodH.keep(g:goodH H cs rows)(k:DV H H'):goodH H' cs rows:={λr hr v hv=>(g.1 r hr v hv).keep k,λc hc=>(g.2 c hc).keep k}
def zq0{cs:Ox}{rows:qT}{i j:Int}{bi bj:Nat}{v:V}{nd:r8}:ED (cs++[⟨bi,bj,v,nd⟩]) rows i j=if(bi:Int)=i/\(bj:Int)=j then some v else ED cs rows i j:=by
 unfold ED;rw[XI];by_cases h:bi=i/\bj=j;rw[if_pos h,if_pos h];simp;rw[if_neg h,if_neg h];cases e:DQ cs i j with
 |none=>rfl
 |some k =>
  show((cs++[_])[k]?).map _=(cs[k]?).map _;rw[ba (NC e)]
def J7{G:Addr->Prop}{H H':Hp}(s:SameBut G H H')(g:∀ x,G x->EW (H x)):DV H H':=λb xs e=>s _ _ e λz=>(g _ z).1 _ e
def yF{p p':Addr}{xs:Oj}(h1:SqL K H p xs)(h2:SqL K H p' xs)(hg:∀ v∈xs,GoodV 4 H v)(q:Q (.bl false) H):KQ K (.ref p) (.ref p') H Q:=by
 obtain⟨ds,D⟩:=zqz  hg;exact Xp  (by decide) (Dat.lst h1 D) (Dat.lst h2 D) q
def yG{z:Str}{i:Int}{n:Nat}{c:Nat}{Q:VK}(hi:i=n)(hL:z.cps.toList.length<=1000)(hc:z.cps.toList[n]? =some c)(q:Q (.str {#[c]}) H):BX K (.str z) (.int i) H Q:=by
 subst hi;exact .inr (.inr (x3 z n c {rfl,rfl,ψ (hL) (CF _ (by decide)),VM hc,q}))
def zq1:[c]<(cu " ").cps.toList↔c<32:=by
 rw[show(cu _).cps.toList=[32] by decide +kernel,nv];simp
def zq2:(cu "~").cps.toList<[c]↔126<c:=by
 rw[show(cu _).cps.toList=[126] by decide +kernel,nv];simp
def zq3:[c]<(cu "a").cps.toList↔c<97:=by
 rw[show(cu _).cps.toList=[97] by decide +kernel,nv];simp
def zq4:(cu "z").cps.toList<[c]↔122<c:=by
 rw[show(cu _).cps.toList=[122] by decide +kernel,nv];simp
example:(zq5,XX,YO,1,h):=by
 obtain⟨c,rfl,q⟩:=h;push_cast[YO,↓pG_,zq1,zq2];unfold XV at q;split;rename_i h1;split;rename_i h2;rw[decide_eq_true (ck h1),decide_eq_true<|ck h2]at q
 have e:(!decide (((#[c].getD 0 0):Int)=37))=decide (c≠37):=by
  rw[show(#[c]).getD 0 0=c from rfl,<-decide_not];exact decide_eq_decide.mpr (by lia)
 refine{rfl,?_};rw[e];exact q;rw[show decide (c<=126)=false from decide_eq_false (by lia)]at q;simpa using q;rw[decide_eq_false (by lia)]at q;exact q
def yH(hz:z.length<=1000)(ht:∀ c (Q':VK),Q' (.bl<|f c) H->te [some (.str {#[c]})] H Q')(q:∀ H',Same H H'->Q (.bl<|z.cps.toList.all f) H') :
  D2 (OT z) (AE 0) CO te 1 [] [some (.str z)] H λx H1=>M5 K [x] H1 Q:=by
 refine Um (CF _<|oA hz rfl) (λi ys H'=>H'=H/\ys=(z.cps.toList.take i).map λc=>V.bl<|f c) ⟨rfl,rfl⟩ (λi c ys H' hc hl hzz=>?_) (λys H' hl hzz p hp=>?_);obtain⟨rfl,e2⟩:=hzz
 have hc':z.cps.toList[i]? =some c:=by simpa using hc
 refine ht c _ {rfl,?_};rw[di,hc',e2];simp;obtain⟨rfl,e2⟩:=hzz
 have e3:ys=(z.cps.toList.map f).map V.bl:=by
  rw[e2,pr,gb (by simp)];rfl
 refine x2 p _ {rfl,by rw[<-e3];exact SqL.of AD,?_};rw[Dr];exact(q _<|AK  hp)
example:(zq6,XY,YQ,1,h):=by
 obtain⟨z,rfl,hz,q⟩:=h;push_cast[YQ,↓pH_];unfold CI at q;refine{_,{CF _<|oA hz rfl,rfl},?_};split;rename_i h1;rw[decide_eq_true (by exact dr.mp h1)]at q;by_cases h2:z.length<=8;rw[decide_eq_true h2]at q;rw[if_pos (by lia)];refine yH hz (λc Q' q'=>?_) q;push_cast[zq3,zq4];unfold XW at q';split;rename_i h3;rw[decide_eq_true (ck h3)]at q';rw[show(!decide _)=decide (c<=122) by rw[<-decide_not];exact decide_eq_decide.mpr (by lia)];exact q';rw[decide_eq_false (by lia)]at q';exact q';rw[decide_eq_false h2]at q;rw[if_neg (by exact λz=>h2<|vt.mp z)];exact q _<|Same.refl _;rename_i h1;rw[decide_eq_false (λz=>h1<|vt.mpr z)]at q;exact q _<|Same.refl _
example:(zq7,XZ,Y1,1,h):=by
 obtain⟨z,rfl,hz,q⟩:=h;push_cast[Y1,↓sE_];unfold NH at q;refine{_,{CF _<|oA hz rfl,rfl},?_};split;rename_i h1;rw[decide_eq_true (by exact dr.mp h1)]at q;by_cases h2:z.length<=40;rw[decide_eq_true h2]at q;rw[if_pos (by lia)];exact yH hz (λc Q' q'=>⟨c,rfl,q'⟩) q;rw[decide_eq_false h2]at q;rw[if_neg (by exact λz=>h2<|vt.mp z)];exact q _<|Same.refl _;rename_i h1;rw[decide_eq_false (λz=>h1<|vt.mpr z)]at q;exact q _<|Same.refl _
def UN(x:Int){n:Nat}(h:1<=n):∃ b:Nat,x%(n:Int)=b/\b<n :=
 ⟨_,(gi (vg x (show(n:Int)≠0 by exact λz=>iy h<|cg z))).symm,by
  have:=sj x (show(0:Int)<n by exact dr.mpr h)
  lia⟩
section
variable{lp b tk:Addr}
def ID:(sf lp b tk).lookup ("plan":Str)=some (V.ref lp):=by simp[sf]
def HF:(sf lp b tk).lookup ("book":Str)=some (V.ref b):=by
 simp[sf,ao,A7 (a:="book") (b:="plan") (by decide)]
def ZQ:(sf lp b tk).lookup ("taken_out":Str)=some (V.ref tk):=by
 simp[sf,ao,A7 (a:="taken_out") (b:="plan") (by decide),A7 (a:="taken_out") (b:="book") (by decide)]
def BT{x:Str}(h:(DM x "plan" || DM x "book" || DM x "taken_out")=false:=by decide +kernel):(sf lp b tk).lookup x=none:=by
 simp only[ic]at h;obtain⟨⟨h1,h2⟩,h3⟩:=h;simp[sf,ao,A7 h1,A7 h2,A7 h3]
def zq8:BO "taken_out" (.ref tk) (BO "book" (.ref b) (BO "plan" (.ref lp) []))=sf lp b tk:=by
 rfl
end
def zq9{w k k':Nat}(h1:k/w=k'/w)(h2:k%w=k'%w):k=k':=by
 rw[<-si k w,<-si k' w,h1,h2]
def zra{f:YY}{m k:Nat}(h:EE f m=k):k<m:=by
 unfold EE at h;cases e:(ξ m).find? f with
 |none=>rw[e]at h;simp at h
 |some k' =>
  have:=ai.mp<|wy e
  lia
def yI{z:Str}(h:CI z=true):ce z=true:=by
 unfold CI at h;rw[cj]at h
 have h:=h.2;unfold ce;rw[<-Hf];rw[lh]at h ⊢;intro c hc
 have:=h c hc;simp only[XW,cj,decide_eq_true_eq]at this ⊢;exact oC this.2 rfl
def RepC.keep(k:DV H H'):∀ {x:CV} {v:V},RepC H x v->RepC H' x v
 |.no,_,h=>h
 |.nm _ _,_,⟨t,e,et⟩=>{t,e,k _ _ et}
 |.mk _,_,h=>h
 |.rc _ _,_,⟨t,u,e,et,eu⟩=>{t,u,e,k _ _ et,k _ _ eu}
 |.tx _,_,h=>h
def LaidA.keep(k:DV H H')(h:LaidA n r c w H cs as):LaidA n r c w H' cs as:=by
 induction h with
 |nil=>exact .nil
 |snoc _ e1 e2 e3 e4 e5 e6 ih=>exact ih.snoc e1 e2 (e3.keep k) e4 e5 e6
def SM.same(I:SM a H S n r c w rows nn cs outs tks M)(s:Same H H'):SM a H' S n r c w rows nn cs outs tks M:=by
 obtain⟨⟨dx,e1⟩,e2,e3,e4,e5,e6,e7,e8,e9,e10,e11,e12⟩:=I;exact{{dx,s _ _ e1},e2.same s,e3.same s,s _ _ e4,e5,e6,e7,e8,e9.keep s.tk,λkind k v h1 h2 hv=>(e10 _ k v h1 h2 hv).keep s.tk,e11,e12.keep s.tk}
example:(zrb,P0,pJ,1):=by
 apply u5;rintro x dx lp b tk ⟨rfl,T,e,q⟩;exact y3 ⟨e,T.cl,T.n2,_,HF,q⟩
def zrc:P0 K a vs H Q E->vs.length=1:=by
 apply u5;rintro z z z z z ⟨rfl,z⟩
 rfl
def BookAt.ins1(B:BookAt a C H A w rows n cs outs)(s:SameBut (· =x) H H')(hx:H x=some (.ins C' dx fs))(hf:fs.length<=2):BookAt a C H' A w rows n cs outs:=by
 obtain⟨⟨⟨d1,e1⟩,⟨chs,e2,e3⟩,e4,e5,e6,⟨kvs,e7,e8⟩,⟨DO,e9,e10⟩,r1,r2,r3,r4,r5⟩,⟨⟨d2,f1⟩,⟨ts,f2,f3⟩,f4,f5,f6⟩,nb⟩:=B
 have o:∀ {y:Addr} {o:HO},H y=some o->(∀ C'' d'' ,o≠.ins C'' d'' fs)->H' y=some o:=λe h=>s _ _ e<|BB e hx<|h _ _
 have oi:∀ {y:Addr} {C'' d'':Addr} {gs:List _},H y=some _->2<gs.length->H' y=some (.ins C'' d'' gs):=λe h=>o e λv v z=>by injection z with _ _ z;rw[z]at h;exact nL h hf
 have ol:∀ {y:Addr} {o':HO},H y=some o'->(∀ C'' d'' gs,o'≠.ins C'' d'' gs)->H' y=some o':=λe h=>o e λv v=>h _ _ _;exact{{{d1,oi e1 (by simp[bf])},{_,ol e2 (by simp),Paired.mapP e3 (by rintro y c ⟨d,pl,nt,g1,g2,g3⟩;exact x3 d pl nt {oi g1 (by simp[GE]),ol g2 (by simp),ol g3 (by simp)})},ol e4 (by simp),λi l h=>ol (e5 i l h) (by simp),e6,{_,ol e7 (by simp),e8},{_,ol e9 (by simp),e10},r1,r2,r3,r4,r5},{{d2,oi f1 (by simp[pf])},{ts,ol f2 (by simp),Paired.mapP f3 λt r z=>ol z (by simp)},f4,f5,f6},nb}
example:(zrd,NI,uR,3):=by
 apply KD;rintro x dx lp gp cl n r c w rows nn M ⟨rfl,⟨T,TP,TL,TS⟩,hx,L,P,sz,g,hrp,hok,q⟩;refine y3 {hx,TS.cl,TS.n1,by decide,?_}
 have e1:upd H x _ x=some (.ins (a "Store") dx (BO "plan" (.ref lp) [])):=AD
 have s1:SameBut _ H (upd H x<|.ins (a "Store") dx (BO "plan" (.ref lp) [])):=λy o e n=>by rw[AH n];exact e
 revert e1 s1;generalize upd H x _=H1;intro e1 s1
 have P1:PlankAt a H1 gp cl w rows nn:=by
  obtain⟨⟨dx',f1⟩,⟨ts,f2,f3⟩,r1,r2,r3⟩:=P;exact{{_,s1 _ _ f1 (BB f1 hx (NB (by simp[pf])))},{ts,s1 _ _ f2 (BB f2 hx (by intro z;cases z)),Paired.mapP f3 λt r z=>s1 _ _ z (BB z hx (by intro z;cases z))},r1,r2,r3}
 refine zpk T TP P1 λA H2 eg ec off B s2=>?_
 have hx2:=s2 _ _ e1;refine y3 {hx2,TS.cl,TS.n2,FJ  (by decide),λp hp=>?_}
 have np:=BE AD hp;rw[AH np.symm]at hp;refine y3 {by rw[AH np,AD],TS.cl,TS.n3,FJ  (FJ  (by decide)),?_};rw[zq8]
 have s3:SameBut _ H2 (upd (upd (upd H2 x<|.ins (a "Store") dx (BO "book" (.ref A.b) (BO "plan" (.ref lp) []))) p (.dK [])) x (.ins (a "Store") dx (sf lp A.b p))):=λy o e n=>by
  rw[AH n,AH<|BE e hp,AH n];exact e
 have e3:upd (upd (upd H2 x<|.ins (a "Store") dx (BO "book" (.ref A.b) (BO "plan" (.ref lp) []))) p (.dK [])) x _ x=some (.ins (a "Store") dx (sf lp A.b p)):=AD
 have p3:upd (upd (upd H2 x<|.ins (a "Store") dx (BO "book" (.ref A.b) (BO "plan" (.ref lp) []))) p (.dK [])) x (.ins (a "Store") dx (sf lp A.b p)) p=some (.dK []):=by rw[AH np.symm,AD]
 revert s3 e3 p3;generalize upd _ x _=H3;intro s3 e3 p3
 have sb:=(s1.trans<|Same.sb s2).trans s3
 have tk:DV H H3:=λb xs e=>sb _ _ e (BB e hx (by intro z;cases z));obtain⟨dl,el⟩:=L.ob;refine q ⟨A,x,lp,p⟩ H3 rfl rfl eg ec (λy o e=>?_) (s1.none (by rw[e1];intro z;cases z) (s2.free hp)) {⟨dx,e3⟩,L.sb sb (BB el hx (NB (by simp[lf]))),(B.ins1 s3 hx2 (ψ (OD _ _ _) (by simp))),p3,ρ _,λz v h=>by simp[A5]at h,B.off hp,sz,{λr hr v hv=>(g r hr v hv).keep tk,λc hc=>by cases hc},λkind k v h1 h2 hv=>(hrp _ k v h1 h2 hv).keep tk,hok,.nil} sb;by_cases hy:y=x;subst hy;exact(off _ _ e1).imp id id;exact off y o<|s1 _ _ e hy
def zre:NI K a vs H Q E->vs.length=3:=by
 apply KD;rintro z z z z z z z z z z z z ⟨rfl,z⟩
 rfl
section
variable{X:SX}{cs:Ox}{tks:rR}{M:Hs}
def ZR{n r c w kind kind' k k':Nat}(h1:kind<5)(h2:kind'<5)(hk:k<BH n r c w kind)(hk':k'<BH n r c w kind')(e1:BG n r c w kind k=BG n r c w kind' k')(e2:k%w=k'%w):kind=kind'/\k=k':=by
 have f:∀ {kind x:Nat},kind<5->x<(if kind=0 then n else if kind=1 then r else if kind=2 then c else if kind=3 then r else c)->∀ b,(if kind=0 then 0 else if kind=1 then n+r+c else if kind=2 then n+r+c+r else if kind=3 then n else n+r)+x=b->(if b<n then 0 else if b<n+r then 3 else if b<n+r+c then 4 else if b<n+r+c+r then 1 else 2)=kind:=by
  intro kind x h hx b e
  match kind,h with
  |0,_=>rw[if_pos]<;>simp at hx e<;>exact e ▸ hx
  |1,_=>rw[if_neg]<;>simp at hx e<;>lia
  |2,_=>rw[if_neg]<;>simp at hx e<;>lia
  |3,_=>rw[if_neg]<;>simp at hx e<;>lia
  |4,_=>rw[if_neg]<;>simp at hx e<;>lia
 have key:kind=kind'/\k/w=k'/w:=by
  obtain rfl:kind=kind':=(f h1 (kd (by rw[dh];exact hk)) _ e1).symm.trans (f h2 (kd (by rw[dh];exact hk')) _ rfl);exact{rfl,Nat.add_left_cancel e1}
 exact{key.1,zq9 key.2 e2}
def LaidA.newest{n r c w:Nat}{H:Hp}{cs:Ox}{as:List AC}(h:LaidA n r c w H cs as){kind k:Nat}(h1:kind<5)(hk:k<BH n r c w kind):DQ cs (BG n r c w kind k:Nat) (k%w:Nat)=GS kind k as/\cs.length=as.length:=by
 induction h with
 |nil=>exact⟨rfl,rfl⟩
 |@snoc cs as ch x _ e1 e2 e3 e4 e5 e6 ih =>
  refine{?_,by rw[af,ih.2];rfl};rw[XI,ih.1,ih.2]
  show _=(if x.kind=kind/\x.k=k then some _ else GS _ k as);by_cases e:x.kind=kind/\x.k=k;rw[if_pos e,if_pos {by rw[e1,e.1,e.2],by rw[e2,e.2]}];rw[if_neg e,if_neg λz=>e (ZR e5 h1 e6 hk (by lia) (by lia))]
def SM.on(I:X.at a H cs tks M)(h1:kind<5)(hk:k<BH X.n X.r X.c X.w kind):BG X.n X.r X.c X.w kind k<X.rows.length/\k%X.w<X.w:=by
 refine{?_,sx _<|(yC hk)};rw[I.sz.2.2.2.2];unfold BG
 have hd:=kd (by rw[dh];exact hk);rcases(c5 h1)with z|z|z|z|z<;>subst z<;>simp at hd ⊢ <;>lia
def SM.onPl(I:X.at a H cs tks M){kind k:Nat}(h1:kind<5)(hk:k<BH X.n X.r X.c X.w kind):onPl X.rows X.w (BG X.n X.r X.c X.w kind k:Nat) (k%X.w:Nat):=by
 have:=I.on h1 hk;exact{lz _,by lia,lz _,dr.mpr this.2}
def SM.val(I:X.at a H cs tks M){kind k:Nat}(h1:kind<5)(hk:k<BH X.n X.r X.c X.w kind):∃ v,ED cs X.rows (BG X.n X.r X.c X.w kind k:Nat) (k%X.w:Nat)=some v/\RepC H (M kind k) v:=by
 obtain⟨b1,b2⟩:=I.on h1 hk;obtain⟨v,ev⟩:=yB (λr' hr'=>I.bk.pk.wd r' hr') b1 b2 cs;exact{v,ev,I.rp _ k v h1 hk ev}
def SM.snoc{H':Hp}{kind k:Nat}{v:V}{x:CV}{nd:r8}{nd':Oz}(hd:∀ y:Int,y∈nd↔(∃ j∈nd',y=(j:Nat))\/nH cs (BG X.n X.r X.c X.w kind k:Nat) (k%X.w:Nat) y)(I:X.at a H cs tks M)(h1:kind<5)(hk:k<BH X.n X.r X.c X.w kind)(B:DR a H' X.S.A X.w X.rows X.nn (cs++[{BG X.n X.r X.c X.w kind k,k%X.w,v,nd}]) X.outs)(s:SameBut X.S.A.F H H')(g:GoodV 4 H' v)(rx:RepC H' x v)(ox:DS kind x):X.at a H' (cs++[{BG X.n X.r X.c X.w kind k,k%X.w,v,nd}]) tks (M.put kind k x nd'):=by
 have lo:∀ x,X.S.A.F x->EW _:=λx hx=>I.bk.loose hx
 have tk:=J7 s lo;obtain⟨⟨dx,e1⟩,e2,e3,e4,e5,e6,e7,e8,e9,e10,e11,e12⟩:=I;obtain⟨dl,el⟩:=e2.ob;refine{{dx,s _ _ e1 λz=>(lo _ z).2 _ _ _ e1},e2.sb s λz=>(lo _ z).2 _ _ _ el,B,s _ _ e4 e7,by rw[af];exact bz e5,λz v h=>?_,e7,e8,{(e9.keep tk).1,λc hc=>?_},λkind' k' v' h1' hk' hv=>?_,λkind' k' h1' hk'=>?_,(e12.keep tk).snoc rfl rfl rx (λy=>by rw[hd];unfold nH;rw[(e12.newest h1 hk).1]) h1 hk};obtain⟨k,ek,hk⟩:=e6 z v h;exact{k,ek,by rw[af];exact bz hk};rcases a_.mp hc with y|y
 exact(e9.keep tk).2 c y;rw[aa.mp y];exact g;rw[zq0]at hv;rw[Hs.put_at];by_cases hp:kind'=kind/\k'=k;obtain⟨rfl,rfl⟩:=hp;rw[if_pos ⟨rfl,rfl⟩]at hv ⊢;obtain rfl:=μ hv;exact rx;rw[if_neg λy=>hp (by
  have:=ZR h1 h1' hk hk' (cg y.1) (cg y.2);exact⟨this.1.symm,this.2.symm⟩)]at hv
 rw[if_neg hp];exact(e10 _ k' v' h1' hk' hv).keep tk;rw[Hs.put_at];split;rename_i y;rw[y.1];exact ox;exact e11 _ k' h1' hk'
def IE{kind k:Nat}{v:V}{x:CV}{u nl:Addr}{ns:r8}(T4:CK K a)(I:X.at a H cs tks M)(h1:kind<5)(hk:k<BH X.n X.r X.c X.w kind)(hu:H u=some (.tup [.int (BG X.n X.r X.c X.w kind k:Nat),.int (k%X.w:Nat)]))(hn:H nl=some (.lst<|ns.map V.int))(hl:ns.length<=60)(hcs:cs.length<990)(kn:∀ x∈ns,known cs x)(g:GoodV 4 H v)(rx:RepC H x v)(ox:DS kind x)
  (q:∀ ch H',X.at a H' (cs++[ch]) tks (M.put kind k x<|LA ns)->SameBut X.S.A.F H H'->Q (.int cs.length) H'):FS K a [.ref X.S.A.b,.ref u,v,.ref nl] H Q E:=by
 obtain⟨T,TP,TL,TS⟩:=T4;refine N3 _ _ _ _ cs _ u nl v ns _ _ {rfl,T,TP,I.bk,hu,SqL.of hn,hl,hcs,λz z nd H5 pw mem B5 GH=>?_,λy=>absurd (I.onPl h1 hk) y,λz ⟨x,hx,hk⟩=>absurd (kn x hx) hk}
 have tk:=J7 GH λx hx=>I.bk.loose hx;refine q _ H5 (I.snoc (λy=>?_) h1 hk B5 GH (g.keep tk) (rx.keep tk) ox) GH;rw[mem];refine or_congr {λh=>{_,av.mpr ⟨y,h,rfl⟩,(gi<|(kn y h).1).symm},λhzz=>?_} Ls;obtain⟨j,hj,e⟩:=hzz;obtain⟨x,hx,rfl⟩:=av.mp hj
 have:=(kn x hx).1;rw[show y=x by lia];exact hx
end
def NmX(H:Hp)(v:V):Option (Str × Nat)->Prop
 |none=>v=.non
 |some (z,k)=>∃ t,v=.ref t/\H t=some (.tup [.str z,.int k])
def NmX.keep(h:NmX H v x)(k:DV H H'):NmX H' v x:=by
 cases x with
 |none=>exact h
 |some p=>obtain⟨t,e,et⟩:=h;exact{t,e,k _ _ et}
def RepC.nmv(h:RepC H (M 0 k) v)(ok:DS 0 (M 0 k)):NmX H v (EF M k):=by
 unfold EF;cases e:M 0 k with
 |no=>rw[e]at h;exact h
 |nm z r=>rw[e]at h;exact h
 |mk i=>rw[e]at ok;exact ok.elim
 |rc m ps=>rw[e]at ok;exact ok.elim
 |tx z=>rw[e]at ok;exact ok.elim
example:(zrf,NJ,Y7,1):=by
 apply u4;rintro X cs tks M ⟨rfl,⟨T,TP,TL,TS⟩,I,q⟩;obtain⟨S,n,r,c,w,rows,nn,outs⟩:=X;obtain⟨dx,ho⟩:=I.ob;obtain⟨dl,el⟩:=I.ly.ob;obtain⟨db,eb⟩:=I.bk.bk.ob
 have hz:=I.sz
 have hkm:=lg hz.1 hz.2.2.2.1;push_cast[Y7,↓uU_];refine y3 {ho,TS.cl,TS.n1,_,ID,y2 {el,BY,x5 _ n r c w {rfl,TL,I.ly,λt ht=>?_}}}
 have s1:=AK (o:=.tup [V.int (n*w),V.int<|r*w,V.int<|c*w]) ht;refine BM AD  rfl rfl ?_;revert s1
 have em:(n:Int)*w=(n*w:Nat):=rfl;intro s1;rw[em];push_cast[];refine{i0,by lia,KR (CF _<|oA hkm rfl) (λi ys H'=>Same H H'/\ys.length=i/\∀ k v,ys[k]? =some v->ED cs rows (BG n r c w 0 k) (k%w)=some v) {s1,rfl,λk v h=>by simp at h} (λi ys H' hi hl hzz=>?_) (λys H' hl hzz p hp=>?_)}
 ·obtain⟨s,x,al⟩:=hzz;refine y3 {s _ _ ho,TS.cl,TS.n2,_,HF,y2 {s _ _ eb,C1,y3 {s _ _ ho,TS.cl,TS.n1,_,ID,y2 {s _ _ el,BY,x6 _ n r c w i {by simp,TL,I.ly.same s,λu hu=>?_}}}}}
  have s2:=s.trans<|AK (o:=.tup [.int (0+i/w),.int<|i%w]) hu;refine x9 _ w rows nn cs _ u (BG n r c w 0 i) (i%w) {rfl,T,TP,I.bk.same s2,by rw[AD];simp[BG],λx v H3 ev s3=>{s2.trans s3,by simp[hl],λk v' hk=>?_},λz=>absurd (SM.onPl I  (by decide) (hi)) z};rcases e_ k _ with z|z
  rw[ba z]at hk;exact al k v' hk
  have:k=i:=by
   rcases Nat.eq_or_lt_of_le z with y|y
   exact hl ▸ y.symm;rw[bq (by simp;lia)]at hk;cases hk
  rw[cf z]at hk;subst this;rw[hl,vx]at hk;obtain rfl:=μ hk;exact ev
 obtain⟨s,x,al⟩:=hzz
 have s3:=s.trans<|AK (o:=.lst ys) hp;exact q p ys _ s3 AD hl λk v hk=>((I.rp 0 k v (by decide) (by simp[BH];exact hl ▸ ((ε.mp hk).1)) (al k v hk)).keep s3.tk)
def zrg:NJ K a vs H Q E->vs.length=1:=by
 apply u4;rintro z z z z ⟨rfl,z⟩
 rfl
def zrh(hi:i<m)(h:(EF M i).any (λp=>decide<|p.1=z)=true)(hl:∀ j<i,(EF M j).any (λp=>decide<|p.1=z)=false):cellOf M m z=some i:=by
 unfold cellOf;obtain⟨d,rfl⟩:=ie<|show i+1<=m from hi;rw[lx];refine{h,x2 (ξ i) ((ξ d).map (i+1+·)) {?_,λj hj=>by rw[hl j (ai.mp hj)];rfl}};rw[eh,wt,wt];simp[eh,E_]
def zri(hl:∀ j<m,(EF M j).any (λp=>decide<|p.1=z)=false):cellOf M m z=none:=ju.mpr λj hj=>by rw[hl j (ai.mp hj)];exact aw
example:(zrj,MB,vF,4):=by
 apply u5;rintro X cs tks M z ⟨rfl,T4,I,q⟩;obtain⟨dx,ho⟩:=I.ob;refine y2 {ho,BT,x4 X cs _ M {rfl,T4,I,λl xs H1 s1 el hl hx=>({{_,SqL.of el},WZ  (λi σ H'=>(Same H H'/\Same H1 H'/\∀ j<i,(EF M j).any (λp=>decide<|p.1=z)=false)/\∃ x y,σ=[some _,some _,x,y]) {{s1,Same.refl _,λj hj=>absurd hj<|mw _},x2 _ _ rfl} (by rintro i σ H' v ⟨⟨v,s,v⟩,v⟩;exact SqL.of<|s _ _ el) (λi x σ H' t hxi hzz ht=>?_) (λσ H' hzz=>?_)})}};obtain⟨⟨sH,s,lo⟩,y1,y2,rfl⟩:=hzz
 have hi:=(ε.mp hxi).1
 have s2:=s.trans<|AK (o:=.tup [.int i,x]) ht
 have sH2:=sH.trans<|AK (o:=.tup [.int i,x]) ht
 have nx:=((hx i x hxi).nmv (I.ok 0 i (by decide) (by rw[hl]at hi;exact hi))).keep s2.tk;refine{_,SqT.of AD,rfl,?_};revert s2 sH2 nx;generalize upd H' t _=H2;intro s2 sH2 nx
 have next:(EF M i).any (λp=>decide _)=false->Same H H2/\Same H1 H2/\∀ j<i+1,(EF M j).any (λp=>decide _)=false:=λh=>⟨sH2,s2,λj hj=>by
  rcases e_ j i with y|y
  exact lo j y;rw[show j=i by exact jx (fe hj) y];exact h⟩
 push_cast[↓vE_,↓vD_];cases en:EF M i with
 |none =>
  rw[en]at nx next;rw[nx];exact next rfl
 |some p =>
  rw[en]at nx next;obtain⟨u,rfl,eu⟩:=nx;refine BM eu  rfl rfl ?_;push_cast[];by_cases hz:p.1=z;rw[if_pos hz]
  have:=q _ sH2;rw[zrh  (hl ▸ hi) (by rw[en];simpa using hz) lo]at this;exact this;rw[if_neg hz];exact next (by simpa using hz)
 obtain⟨⟨sH,s,lo⟩,y1,y2,ez⟩:=hzz
 have:=q _ sH;rw[zri (by rw[<-hl];exact lo)]at this;exact this
def zrk:MB K a vs H Q E->vs.length=2:=by
 apply u5;rintro z z z z z ⟨rfl,z⟩
 rfl
example:(zrl,P7,ZF,1):=by
 apply u4;rintro X cs tks M ⟨rfl,T4,I,q⟩
 have hz:=I.sz;obtain⟨dx,ho⟩:=I.ob
 have hkm:=lg hz.1 hz.2.2.2.1;push_cast[ZF,↓vC_];refine y2 {ho,BT (by decide),x4 X cs _ M {rfl,T4,I,λl xs H1 s1 el hl hx=>(.inl {{_,SqL.of el},lS  (CF _<|oA (ψ (bc hl) hkm) rfl) (λi σ' ys H'=>H'=H1/\(∃ y0,σ'=[y0])/\ys=(K9 M i).map V.str) {rfl,⟨_,rfl⟩,rfl} (by rintro i σ' ys H' ⟨e,z,ey⟩;exact{e ▸ SqL.of el,by rw[ey,ζ];exact ψ (i_ _ _) (by simp)}) (λi x σ' ys H' hi hxi hzz=>?_) (λσ' ys H' hzz p hp=>?_)})}};obtain⟨e,⟨y0,es⟩,ey⟩:=hzz
 have nx:=(hx i x hxi).nmv (I.ok 0 i (by decide) (by rw[hl]at hi;simpa [BH]using hi));subst e es
 have U5:K9 M (i+1)=K9 M i++((EF M i).map (·.1)).toList:=by
  unfold K9;rw[bt];cases e:EF M i<;>simp[e]
 cases en:EF M i with
 |none =>
  rw[en]at nx U5;rw[nx];exact{_,by lia,rfl,hi,by rw[U5,ey];simp}
 |some p =>
  rw[en]at nx U5;obtain⟨u,rfl,eu⟩:=nx;exact{λy H4=>y=.str _/\H4=H',(by rintro y H4 ⟨e1,e2⟩;exact{_,by lia,rfl,hi,e2,by rw[U5,ey,e1];simp}),BM eu  rfl rfl ⟨rfl,rfl⟩}
 obtain⟨rfl,z,ey⟩:=hzz
 have sp:=AK (o:=.lst ys) hp;exact x2 p (K9 M _) {rfl,by rw[<-hl,<-ey];exact SqL.of AD,cr (i_ _ _) (by simp;exact oC hkm rfl),λD ks hD pk hs=>(q D ks _ (s1.free<|sp.free hD) ((s1.trans sp).trans (AK hD)) AD pk hs)}
def zrm:P7 K a vs H Q E->vs.length=1:=by
 apply u4;rintro z z z z ⟨rfl,z⟩
 rfl
example:(zrn,P8,ZI,3):=by
 apply u7;rintro X cs tks M z gl zs ⟨rfl,T4,I,eg,hl,hy,q,q1,q2⟩;obtain⟨dx,ho⟩:=I.ob;push_cast[ZI,↓vR_];refine .inl {{_,SqL.of eg},kY  (CF _ (by rw[ζ];exact oA hl rfl)) (λi ys H'=>Same H H'/\ys=((zs.take i).map CI).map V.bl) {Same.refl _,rfl} (λi ys H' y ⟨s,_⟩=>SqL.of<|s _ _ eg) (λi x ys H' hxi hyl hzz=>?_) (λys H' hyl hzz p hp=>?_)};obtain⟨s,ey⟩:=hzz;rw[τ,ae]at hxi;obtain⟨x',hx',rfl⟩:=hxi;refine{x',rfl,hy x'<|θ hx',λH2 s2=>{s.trans s2,?_}};rw[di,hx',ey];simp;obtain⟨s,ey⟩:=hzz;rw[ζ,bx]at ey
 have s2:=s.trans<|AK (o:=.lst ys) hp;refine x2 p _ {rfl,by rw[<-ey];exact SqL.of AD,?_};rw[Dr,Function.id_comp];revert s2;intro s2;cases hb:zs.all _ with
 |false =>
  exact{by decide,q1 hb _ s2}
 |true =>
  refine y2 {s2 _ _ ho,BT,x5 X cs _ M z {rfl,T4,I.same s2,λH3 s3=>?_}}
  have s4:=s2.trans s3;cases hc:cellOf M _ z with
  |none =>
   exact q hb hc _ s4
  |some k =>
   exact{by decide,q2 hb ⟨k,hc⟩ _ s4}
def zro:P8 K a vs H Q E->vs.length=3:=by
 apply u7;rintro z z z z z z z ⟨rfl,z⟩
 rfl
def J9{S:SA}{dx db gp mm mi lt ou:Addr}{mth:Str}{P:V->Prop}(TS:PZ K a)(ho:H S.st=some (.ins (a "Store") dx (sf S.lp S.A.b S.tk)))(eb:H S.A.b=some (.ins (a "Hold") db (bf gp mm mi lt ou)))(hm:(bf gp mm mi lt ou).lookup mth=none)(p:P (.ref S.A.b)) :
  ∃ x x1 x2,H S.st=some (.ins x x1 x2)/\Cls K x/\NoAttr K x "book"/\∃ v,x2.lookup ("book":Str)=some v/\CP v λb=>∃ y y1,H b=some (.ins (a "Hold") y y1)/\y1.lookup mth=none/\P v:=y3 {ho,TS.cl,TS.n2,_,HF,y2 ⟨eb,hm,p⟩}
def GY{S:SA}{dx dl:Addr}{n r c w:Int}{mth:Str}{P:V->Prop}(TS:PZ K a)(ho:H S.st=some (.ins (a "Store") dx (sf S.lp S.A.b S.tk)))(el:H S.lp=some (.ins (a "Layout") dl (lf n r c w)))(hm:(lf n r c w).lookup mth=none)(p:P (.ref S.lp)) :
  ∃ x x1 x2,H S.st=some (.ins x x1 x2)/\Cls K x/\NoAttr K x "plan"/\∃ v,x2.lookup ("plan":Str)=some v/\CP v λb=>∃ y y1,H b=some (.ins (a "Layout") y y1)/\y1.lookup mth=none/\P v:=y3 {ho,TS.cl,TS.n1,_,ID,y2 ⟨el,hm,p⟩}
section
variable{p:Addr}{n r c w k:Nat}
def yJ(TL:DU K a)(L:LayAt a H p n r c w)(q:GQ (0+k/w) (k%w) Q H):IU K a [.ref p,.int k] H Q E:=x6 p n r c w k ⟨rfl,TL,L,q⟩
def NS(TL:DU K a)(L:LayAt a H p n r c w)(q:GQ (n+k/w) (k%w) Q H):GR K a [.ref p,.int k] H Q E:=x6 p n r c w k ⟨rfl,TL,L,q⟩
def yK(TL:DU K a)(L:LayAt a H p n r c w)(q:GQ (n+r+k/w) (k%w) Q H):K5 K a [.ref p,.int k] H Q E:=x6 p n r c w k ⟨rfl,TL,L,q⟩
def yL(TL:DU K a)(L:LayAt a H p n r c w)(q:GQ (n+r+c+k/w) (k%w) Q H):IV K a [.ref p,.int k] H Q E:=x6 p n r c w k ⟨rfl,TL,L,q⟩
def lPM(TL:DU K a)(L:LayAt a H p n r c w)(q:GQ (n+r+c+r+k/w) (k%w) Q H):IW K a [.ref p,.int k] H Q E:=x6 p n r c w k ⟨rfl,TL,L,q⟩
end
def ZS:∀ {l:Oz},(∀ k∈l,f k=g k)->l.find? f=l.find? g
 | [],_=>rfl
 |k::l,h=>by
  rw[vn,vn,h k ω,ZS λk' hk'=>h k'<|υ _ hk']
def zrq(h:∀ k<m,f k=g k):EE f m=EE g m:=by
 unfold EE;rw[ZS λk hk=>h k<|ai.mp hk]
section
variable{X:SX}{cs:Ox}{tks:rR}{M:Hs}
def SM.free(I:X.at a H cs tks M){kind:Nat}(hk:kind<3):EE (L9 cs X.rows X.n X.r X.c X.w kind) (BH X.n X.r X.c X.w kind)=GU M kind (BH X.n X.r X.c X.w kind):=zrq λk hkm=>by
 obtain⟨v,ev,rv⟩:=I.val (oA hk rfl) hkm;unfold L9;rw[ev];cases e:M _ k with
 |no=>rw[e]at rv;rw[rv];simp[K8,GT]
 |nm z r=>rw[e]at rv;obtain⟨t,rfl,y⟩:=rv;simp[K8,GT]
 |mk i =>
  rw[e]at rv;rw[rv];simp[K8,GT]
 |rc m ps=>rw[e]at rv;revert rv;apply u2;rintro t u ⟨rfl,y⟩;simp[K8,GT]
 |tx z=>rw[e]at rv;rw[rv];simp[K8,GT]
def yM(h:cellOf M m z=some cell):cell<m/\∃ k,M 0 cell=.nm z k:=by
 have h2:=Im h;unfold EF at h2;refine{(ai.mp<|wy h),?_};cases e:M 0 _ with
 |nm z' k =>
  rw[e]at h2;simp at h2;exact{k,by rw[h2]}
 |_=>rw[e]at h2;simp at h2
def UO{kind:Nat}(T4:CK K a)(I:X.at a H cs tks M)(hk:kind<3)(q:∀ k:Nat,GU M kind (BH X.n X.r X.c X.w kind)=k->k<BH X.n X.r X.c X.w kind->∀ H',Same H H'->Q (.int k) H')(qe:GU M kind (BH X.n X.r X.c X.w kind)= -1->D5 a H "NoRoom" E):TY kind K a X.S.lp X.S.A.b H Q E:=by
 obtain⟨z1,z2,z3,z4,z5⟩:=I.sz;obtain⟨T,TP,TL,TS⟩:=T4;refine x9 _ _ _ _ _ _ _ cs _ {rfl,T,TP,TL,I.ly,z1,z2,z3,z4,I.bk,z5,λi j v hv=>yE I.gd hv,λk e H' s=>?_,λe H' s=>?_};rw[I.free hk]at e;exact q k e (zra e) H' s;rw[I.free hk]at e;exact qe e H' s
end
example:(zrr,HY,Y8,2):=by
 apply u5;rintro X cs tks M rec ⟨rfl,⟨T,TP,TL,TS⟩,I,hr,q⟩;obtain⟨dx,ho⟩:=I.ob;obtain⟨dl,el⟩:=I.ly.ob;obtain⟨db,eb⟩:=I.bk.bk.ob
 have hm:rec<BH X.n X.r X.c _ 3:=hr;push_cast[Y8,↓uV_];refine J9 TS (ho) (eb) (C1) (GY TS (ho) (el) (BY) (NS TL (I.ly) λu hu=>?_))
 have s2:=AK (o:=.tup [.int (X.n+rec/X.w),.int<|rec%X.w]) hu;refine x9 _ _ _ _ cs _ u _ _ {rfl,T,TP,I.bk.same s2,by rw[AD];simp[BG],λy v H3 ev s3=>?_,λz=>absurd (I.onPl  (by decide) hm) z}
 have s4:=s2.trans s3;exact q v H3 ((I.rp 3 _ v (by decide) hm ev).keep s4.tk) s4
def zrs:HY K a vs H Q E->vs.length=2:=by
 apply u5;rintro z z z z z ⟨rfl,z⟩
 rfl
example:(zrt,IX,vS,3):=by
 apply u5;rintro X cs tks M z ⟨rfl,T4,I,q,qe⟩;obtain⟨dx,ho⟩:=I.ob;refine y2 {ho,BT,x5 X cs _ M z {rfl,T4,I,λH1 s1=>?_}};cases e:cellOf M _ z with
 |none =>
  exact{by decide,qe e _ s1}
 |some cell =>
  obtain⟨hc,k,ek⟩:=yM e;refine y2 {s1 _ _ ho,BT,x4 X cs _ M {rfl,T4,I.same s1,λl xs H2 s2 el hl hx=>?_}}
  have ex:=η (by rw[hl];exact hc)
  have rx:=hx _ _ ex;rw[ek]at rx;obtain⟨t,et,et2⟩:=rx;exact DC (SqL.of el) rfl ex (by rw[et];exact BM et2  rfl rfl (q _ k e hc ek _<|s1.trans s2))
def zru:IX K a vs H Q E->vs.length=2:=by
 apply u5;rintro z z z z z ⟨rfl,z⟩
 rfl
def yN{X:SX}{cs:Ox}{tks:rR}{M:Hs}{cell rec need:Nat}{z:Str}{nl:Addr}{ns:r8}{H2:Hp}(T4:CK K a)(I:X.at a H cs tks M)(hc:cell<X.m0)(hcs:cs.length<980)(hz:ce z=true)(s:Same H H2)(en:H2 nl=some (.lst<|ns.map V.int))(hl:ns.length<=60)(kn:∀ x∈ns,known cs x)
  (q:T3 X a H cs tks (M.put 0 cell (.nm z rec) (LA ns)) Q) :
  Y9 K a (λ_=>E) (λ_=>E) (AW Q) [some (.ref X.S.st),some<|.int cell,some<|.str z,some<|.int rec,some<|.int need,some<|.ref nl] H2:=by
 have T4':=T4;obtain⟨T,TP,TL,TS⟩:=T4;obtain⟨dx,ho⟩:=I.ob;obtain⟨dl,el⟩:=I.ly.ob;obtain⟨db,eb⟩:=I.bk.bk.ob;push_cast[↓Y9_];refine J9 TS (s _ _ ho) (s _ _ eb) (C1) (GY TS (s _ _ ho) (s _ _ el) (BY) (yJ TL (I.ly.same s) λu hu=>?_))
 have s2:=s.trans<|AK (o:=.tup [.int (0+cell/X.w),.int<|cell%X.w]) hu
 have eu:upd H2 u (.tup [.int (0+cell/X.w),.int<|cell%X.w]) u=some (.tup [.int (BG X.n X.r X.c X.w 0 cell),.int<|cell%X.w]):=by rw[AD];simp[BG]
 have en2:=AK (o:=.tup [.int (0+cell/X.w),.int<|cell%X.w]) hu _ _ en;revert s2 eu en2;generalize upd H2 u _=H3;refine λs2 eu en2=>{by decide,λt ht=>?_}
 have st:=AK (o:=.tup [V.str z,V.int rec]) ht
 have s4:=s2.trans st
 have et:upd H3 t _ t=some (.tup [V.str z,V.int rec]):=AD;refine IE T4' (I.same s4)  (x:=.nm z _) (by decide) (hc) (st _ _ eu) (st _ _ en2) hl (oA hcs rfl) kn {_,et,by simp,λv hv=>?_} ⟨t,rfl,et⟩ trivial λch H' I' sb=>q ch H' I' λb o e n=>sb _ _ (s4 _ _ e) n;simp only[ax,b_,or_false]at hv;rcases hv with rfl|rfl
 exact hz
 trivial
example:(zrv,P9,ZA,6):=by
 apply u8;rintro X cs tks M cell rec need z ⟨rfl,⟨T,TP,TL,TS⟩,I,hc,hn,hcs,hz,q⟩;obtain⟨dx,ho⟩:=I.ob;push_cast[ZA,↓uW_];refine{by decide,λnl hnl=>?_}
 have s1:=AK (o:=.lst [V.int need]) hnl;refine y3 {s1 _ _ ho,TS.cl,TS.n3,_,ZQ,_,dS<|s1 _ _ I.tk,?_}
 have e1:upd H nl _ nl=some (.lst [V.int need]):=AD
 have kn:known cs _:={i0,dr.mpr hn}
 cases hv:A5 tks _ with
 |none =>
  rw[show EY _ z=[] by unfold EY;rw[hv]]at q;exact yN (ns:=[need]) ⟨T,TP,TL,TS⟩ I hc hcs hz s1 e1 (by simp) (λx hx=>by rw[aa.mp hx];exact kn) q
 |some v =>
  obtain⟨k,rfl,hk⟩:=I.tv z v hv;rw[show EY _ z=[k] by unfold EY;rw[hv];rfl]at q;refine{.inl {rfl,_,SqL.of e1},y3 {s1 _ _ ho,TS.cl,TS.n3,_,ZQ,_,Xk (s1 _ _ I.tk) hv,{_,e1,(by show 1<sizeLine;decide),?_}}};rw[FW];refine yN (ns:=[need,k]) ⟨T,TP,TL,TS⟩ I hc hcs hz (AK hnl) AD (by simp) (λx hx=>?_) q;simp only[ax,b_,or_false]at hx;rcases hx with rfl|rfl
  exact kn;exact{i0,dr.mpr hk}
def zrw:P9 K a vs H Q E->vs.length=5:=by
 apply u8;rintro z z z z z z z z ⟨rfl,z⟩
 rfl
def zrx(ps:Oz):∀ v∈AQ ps,GoodV (n+1) H v:=λv hv=>by
 obtain⟨p,z,rfl⟩:=av.mp hv
 trivial
def ZT{H:Hp}{t u:Addr}{m:Nat}{ps:Oz}(h1:H t=some (.tup [.int m,.ref u]))(h2:H u=some (.tup<|AQ ps))(hl:ps.length<=100):GoodV 4 H (.ref t):=⟨_,h1,by simp,λv hv=>by
 simp only[ax,b_,or_false]at hv;rcases hv with rfl|rfl
 trivial
 exact{_,h2,by simp[AQ];exact hl,zrx ps}⟩
example:(zry,NK,vH,5):=by
 apply RJ;rintro X cs tks M rec m m' more ps nl ns ⟨rfl,T4,I,hr,eM,hm',hps,en,hl,kn,hcs,q⟩
 have T4':=T4;obtain⟨T,TP,TL,TS⟩:=T4;obtain⟨dx,ho⟩:=I.ob;obtain⟨dl,el⟩:=I.ly.ob;obtain⟨db,eb⟩:=I.bk.bk.ob;refine y2 {ho,BT,x5 X cs _ M _ {rfl,T4',I,hr,λv H1 rv s=>?_}};rw[eM]at rv;revert rv;apply u2;rintro t0 u0 ⟨rfl,GJ,FV⟩;push_cast[↓vG_];refine J9 TS (s _ _ ho) (s _ _ eb) (C1) (GY TS (s _ _ ho) (s _ _ el) (BY) (NS TL (I.ly.same s) λu hu=>?_))
 have sa:=AK (o:=.tup [.int (X.n+rec/X.w),.int<|rec%X.w]) hu
 have eu:upd H1 u (.tup [.int (X.n+rec/X.w),.int<|rec%X.w]) u=some (.tup [.int (BG X.n X.r X.c X.w 3 rec),.int<|rec%X.w]):=by rw[AD];simp[BG]
 revert sa eu;generalize upd H1 u _=H2;refine λsa eu=>BM (sa _ _ GJ)  rfl rfl (BM (sa _ _ GJ)  rfl rfl {by decide,λt ht=>?_});rw[hm']
 have st:=AK (o:=.tup [V.int m',V.ref u0]) ht
 have s4:=(s.trans sa).trans st
 have e1:upd H2 t _ t=some (.tup [V.int m',V.ref u0]):=AD
 have e2:=st _ _<|sa _ _ FV;exact IE T4' (I.same s4)  (x:=.rc m' ps) (by decide) (hr) (st _ _ eu) (s4 _ _ en) hl (oA hcs rfl) kn (ZT e1 e2 hps) (x2 t u0 ⟨rfl,e1,e2⟩) trivial λch H' I' sb=>q ch H' I' λb o e n=>sb _ _ (s4 _ _ e) n
def zrz:NK K a vs H Q E->vs.length=4:=by
 apply RJ;rintro z z z z z z z z z z z ⟨rfl,z⟩
 rfl
example:(zr0,QC,ZG,4):=by
 apply RJ;rintro X cs tks M rec m ps ps' pl nl ns ⟨rfl,T4,I,hr,eM,epl,hps,en,hl,kn,hcs,q⟩
 have T4':=T4;obtain⟨T,TP,TL,TS⟩:=T4;obtain⟨dx,ho⟩:=I.ob;obtain⟨dl,el⟩:=I.ly.ob;obtain⟨db,eb⟩:=I.bk.bk.ob;push_cast[ZG,↓vI_];refine J9 TS (ho) (eb) (C1) (GY TS (ho) (el) (BY) (NS TL (I.ly) λu hu=>?_))
 have sa:=AK (o:=.tup [.int (X.n+rec/X.w),.int<|rec%X.w]) hu
 have eu:upd H u (.tup [.int (X.n+rec/X.w),.int<|rec%X.w]) u=some (.tup [.int (BG X.n X.r X.c X.w 3 rec),.int<|rec%X.w]):=by rw[AD];simp[BG]
 revert sa eu;refine λsa eu=>y2 {sa _ _ ho,BT,x5 X cs _ M _ {rfl,T4',I.same sa,hr,λv H3 rv s3=>?_}};rw[eM]at rv;revert rv;apply u2;rintro t0 u0 ⟨rfl,GJ,FV⟩;refine BM GJ  rfl rfl {by decide,λt ht=>?_}
 have st:=AK (o:=.tup [V.int m,V.ref pl]) ht
 have s4:=(sa.trans s3).trans st
 have e1:upd H3 t _ t=some (.tup [V.int m,V.ref pl]):=AD
 have e2:=s4 _ _ epl;exact IE T4' (I.same s4)  (x:=.rc m _) (by decide) (hr) (st _ _<|s3 _ _ eu) (s4 _ _ en) hl (oA hcs rfl) kn (ZT e1 e2 hps) (x2 t pl ⟨rfl,e1,e2⟩) trivial λch H' I' sb=>q ch H' I' λb o e n=>sb _ _ (s4 _ _ e) n
def zr1:QC K a vs H Q E->vs.length=4:=by
 apply RJ;rintro z z z z z z z z z z z ⟨rfl,z⟩
 rfl
def MH{α β γ :Type}{F: α -> β ->Prop}{G: α -> γ ->Prop}{f: β -> γ}:∀ {l:List α} {m:List β},Paired F l m->(∀ x y,F x y->G x (f y))->Paired G l (m.map f)
 |_,_,.nil,_=>.nil
 |_,_,.cons h t,k=>.cons (k _ _ h) (MH t k)
def ZU{te:TE}{A4:Oz}{σ:St}{b:Addr}{xs:Oj}(hn:xs.length<=sizeLine)(Pv:Nat->Oj->Hp->Prop)(h0:Pv 0 [] H)(hq:∀ i ys H,i<=xs.length->Pv i ys H->SqT K H b xs)
  (hs:∀ i x ys H,xs[i]? =some x->ys.length=i->Pv i ys H->te (some x::CH A4 σ) H λy H2=>Pv (i+1) (ys++[y]) H2)
  (hd:∀ ys H,ys.length=xs.length->Pv xs.length ys H->∀ p,H p=none->Q (.ref p) (upd H p<|.lst ys)) :
  D2 (IJ K b) (AE 0) CO te 1 A4 σ H Q:=by
 refine{λi m σ' ys H=>m=xs.length-i/\i<=xs.length/\ys.length=i/\(∃ x0,σ'=x0::CH _ σ)/\Pv i ys H,{xs.length,rfl,bh _,rfl,⟨_,rfl⟩,h0},?_};rintro i m σ' ys H ⟨rfl,hi,hl,⟨x0,rfl⟩,p⟩
 have q:=hq i ys H hi p;by_cases AY:i<xs.length;refine .inr {x2 xs (xs[i]) {q,by simp[AY]},by lia,λx H' y=>?_};obtain⟨rfl,y⟩:=y;refine{_,λy H4 q=>{_,by lia,rfl,AY,?_,⟨_,rfl⟩,q},hs i x ys _ (y xs q) hl p};rw[af,iw,hl]
 have e:i=xs.length:=by lia
 subst e;exact .inl {{xs,q,ρ _},hd ys H hl p}
section
variable{X:SX}{cs:Ox}{tks:rR}{M:Hs}
def SM.lput{l:Addr}{xs ys:Oj}(I:X.at a H cs tks M)(e:H l=some (.lst xs))(f:¬ X.S.A.F l):X.at a (upd H l<|.lst ys) cs tks M:=by
 have s:SameBut _ H (upd H l<|.lst ys):=λy o ey n=>by rw[AH n];exact ey
 have g:∀ x,x=l->EW _:=λx hx=>by rw[hx];exact PD e
 have tk:=J7 s g;obtain⟨⟨dx,e1⟩,e2,e3,e4,e5,e6,e7,e8,e9,e10,e11,e12⟩:=I;obtain⟨dl,el⟩:=e2.ob;exact{{dx,s _ _ e1 (BB e1 e (by intro z;cases z))},e2.sb s (BB el e (by intro z;cases z)),e3.sb s g λx hx=>by rw[hx];exact f,s _ _ e4 (BB e4 e (by intro z;cases z)),e5,e6,e7,e8,e9.keep tk,λkind k v h1 h2 hv=>(e10 _ k v h1 h2 hv).keep tk,e11,e12.keep tk}
def SM.taken(I:X.at a H cs tks M)(hk:k<cs.length)(hl:tks.length<cs.length):X.at a (upd H X.S.tk<|.dK<|B0 tks (.inr z) (.int k)) cs (B0 tks (.inr z) (.int k)) M:=by
 have s:SameBut _ H (upd H X.S.tk<|.dK<|B0 tks (.inr z) (.int k)):=λy o ey n=>by rw[AH n];exact ey
 have g:∀ x,x=X.S.tk->EW _:=λx hx=>by rw[hx];exact K3 I.tk
 have tk:=J7 s g;obtain⟨⟨dx,e1⟩,e2,e3,e4,e5,e6,e7,e8,e9,e10,e11,e12⟩:=I;obtain⟨dl,el⟩:=e2.ob;refine{{dx,s _ _ e1 (BB e1 e4 (by intro z;cases z))},e2.sb s (BB el e4 (by intro z;cases z)),e3.sb s g λx hx=>by rw[hx];exact e7,AD,ψ (HU ..) (hl),λy v h=>?_,e7,e8,e9.keep tk,λkind k v h1 h2 hv=>(e10 _ k v h1 h2 hv).keep tk,e11,e12.keep tk};rw[F8]at h;split at h;obtain rfl:=μ h;exact⟨k,rfl,hk⟩;exact e6 y v h
end
example:(zr2,QD,ZJ,4):=by
 apply u8;rintro X cs tks M cell z nl ns ⟨rfl,T4,I,ec,hc,en,hl,kn,hcs,q⟩
 have T4':=T4;obtain⟨dx,ho⟩:=I.ob;obtain⟨dl,el⟩:=I.ly.ob;obtain⟨T,TP,TL,TS⟩:=T4;obtain⟨db,eb⟩:=I.bk.bk.ob;push_cast[ZJ,↓vT_];refine y3 {ho,TS.cl,TS.n2,_,HF,y2 {eb,C1,y3 {ho,TS.cl,TS.n1,_,ID,y2 {el,BY,y2 {ho,BT,x5 X cs _ M z {rfl,T4',I,λH1 s1=>?_}}}}}};rw[ec];refine x6 _ _ _ _ _ _ {rfl,TL,I.ly.same s1,λu hu=>?_}
 have eu:upd H1 u (.tup [.int (0+cell/X.w),.int<|cell%X.w]) u=some (.tup [.int (BG X.n X.r X.c X.w 0 cell),.int<|cell%X.w]):=by rw[AD];simp[BG]
 have s2:=s1.trans<|AK (o:=.tup [.int (0+cell/X.w),.int<|cell%X.w]) hu;revert eu s2;refine λeu s2=>IE T4' (I.same s2)  (x:=.no) (by decide) (hc) eu (s2 _ _ en) hl (oA hcs rfl) kn trivial rfl trivial λch H3 I3 sb=>?_;obtain⟨dx3,ho3⟩:=I3.ob
 have tl:=I.tl;refine y3 {ho3,TS.cl,TS.n3,_,ZQ,_,pS I3.tk<|oD (cr tl hcs) rfl,(q ch _ (I3.taken (by simp) (by simp;exact xb tl)) λy o e n=>?_)};rw[AH λy=>n<|.inr y];exact sb _ _ (s2 _ _ e) λy=>n<|.inl y
def zr3:QD K a vs H Q E->vs.length=3:=by
 apply u8;rintro z z z z z z z z ⟨rfl,z⟩
 rfl
def drI(a:Ad)(X:SX)(cs:Ox)(tks:rR)(M:Hs)(rec gone:Nat)(u0 ml:Addr)(pls:List (Nat × Nat))(H6:Hp)(i:Nat)(σ:St)(H':Hp):Prop:=(∃ ex,ex.length=i+1/\X.at a H' (cs++ex) tks ((pls.take i).foldl (λ(M:Hs) (y:Nat × Nat)=>M.put y.1 y.2 (.mk 0) [cs.length]) (M.put 3 rec .no [gone]))/\H' ml=some (.lst (AQ ((ξ<|i+1).map (cs.length+·))))/\SameBut (λx=>X.S.A.F x\/x=ml) H6 H')/\∃ y6,σ=[some (.ref X.S.st),some<|.int rec,some<|.int gone,some<|.ref u0,some<|.int cs.length,some<|.ref ml,y6]
example:(zr5,T5,vN,7):=by
 apply u8;rintro X cs tks M rec m gone ps ⟨rfl,T4,I,hr,eM,hg,hps,CD,hcs,q⟩
 have T4':=T4;obtain⟨dx,ho⟩:=I.ob;obtain⟨T,TP,TL,TS⟩:=T4;refine y2 {ho,BT,x5 X cs _ M _ {rfl,T4',I,hr,λv H1 rv s=>?_}};rw[eM]at rv;revert rv;apply u2;rintro t0 u0 ⟨rfl,GJ,FV⟩
 have I1:=I.same s;refine BM GJ  rfl rfl ?_;obtain⟨dx1,ho1⟩:=I1.ob;obtain⟨dl1,el1⟩:=I1.ly.ob;obtain⟨db1,eb1⟩:=I1.bk.bk.ob;push_cast[↓vJ_];refine J9 TS (ho1) (eb1) (C1) (GY TS (ho1) (el1) (BY) (NS TL (I1.ly) λu hu=>{by decide,λnl hnl=>?_}))
 have sb:=AK (o:=.lst [V.int gone]) hnl
 have eu:=sb _ _ (show upd H1 u _ u=some (.tup [.int (BG X.n X.r X.c X.w 3 rec),.int<|rec%X.w]) by rw[AD];simp[BG])
 have en:upd (upd H1 u<|.tup [.int (X.n+rec/X.w),.int<|rec%X.w]) nl _ nl=some (.lst<|[(gone:Int)].map V.int):=AD
 have s2:=(AK  hu).trans sb;revert eu en s2;refine λeu en s2=>IE T4' (I1.same s2)  (x:=.no) (by decide) (hr) eu en (by simp) (oA hcs rfl) (λx hx=>by rw[aa.mp hx];exact{i0,dr.mpr hg}) trivial rfl trivial λch H3 I3 MO=>?_;push_cast[↓vK_];refine{by decide,λml hml=>?_}
 have sm:=AK (o:=.lst [V.int cs.length]) hml
 have I4:=I3.same sm
 have fml:=I3.bk.off hml
 have eu4:=sm _ _<|(J7 MO λx hx=>(I1.same s2).bk.loose hx) _ _ (s2 _ _ FV)
 have em4:upd H3 ml _ ml=some (.lst [V.int cs.length]):=AD
 have hmlH:H ml=none:=by
  cases e:H ml with
  |none=>rfl
  |some o=>have:=MO _ _ (s2 _ _<|s _ _ e) fml;rw[hml]at this;cases this
 have sb4:SameBut _ H _:=λy o e n=>sm _ _<|MO _ _ (s2 _ _<|s _ _ e) n;revert I4 eu4 em4 sb4;generalize upd H3 ml _=H4;intro I4 eu4 em4 sb4;obtain⟨dx4,ho4⟩:=I4.ob;obtain⟨dl4,el4⟩:=I4.ly.ob;push_cast[↓vM_];refine .inr {{_,SqT.of eu4},ZU  (CF _ (by simp[AQ];exact oA CD rfl)) (λi ys H'=>Same H4 H'/\∃ us:List _,ys=us.map V.ref/\Paired (λu p=>H' u=some (.tup [.int (BG X.n X.r X.c X.w 2 p),.int<|p%X.w])) us (ps.take i)) {Same.refl _,[],rfl,.nil} (λi ys H' j ⟨s',_⟩=>SqT.of<|s' _ _ eu4) (λi x ys H' hx hyl hzz=>?_) (λys H' hyl hzz lc hlc=>?_)};obtain⟨s',us,ey,pu⟩:=hzz;unfold AQ at hx;rw[τ,ae]at hx;obtain⟨p,ep,rfl⟩:=hx;push_cast[CH];refine y3 {s' _ _ ho4,TS.cl,TS.n1,_,ID,y2 {s' _ _ el4,BY,x6 _ _ _ _ _ p {rfl,TL,I4.ly.same s',λu' hu'=>?_}}}
 have su:=AK (o:=.tup [.int (X.n+X.r+X.c+X.r+(p:Int)/X.w),.int<|(p:Int)%X.w]) hu';refine{s'.trans su,us++[u'],by rw[ey,ak];rfl,?_};rw[di,ep];exact Paired.snoc (Paired.mapP pu λt r z=>su _ _ z) (by rw[AD];simp[BG]);obtain⟨s',us,rfl,pu⟩:=hzz;rw[show(AQ ps).length=ps.length by simp[AQ],bx]at pu
 have sc:=AK (o:=.lst<|us.map V.ref) hlc
 have s5:=s'.trans sc;refine GY TS (s5 _ _ ho4) (s5 _ _ el4) (BY) (yL TL (I4.ly.same s5) λur hur=>{by decide,λlr hlr=>.inl ?_})
 have se:=AK (o:=.lst [V.ref ur]) hlr
 have sd:=AK (o:=.tup [.int (X.n+X.r+X.c+(rec:Int)/X.w),.int<|(rec:Int)%X.w]) hur;refine x4 lc lr _ _ {rfl,rfl,se _ _<|sd _ _ AD,AD,CF _ (by have:=pu.length;simp;exact oA (ψ (bc this) CD) rfl),λl2 CY=>?_}
 have sf':=AK (o:=.lst<|us.map V.ref++[V.ref ur]) CY
 have er:upd (upd (upd (upd H' lc<|.lst<|us.map V.ref) ur (.tup [.int (X.n+X.r+X.c+(rec:Int)/X.w),.int<|(rec:Int)%X.w])) lr (.lst [V.ref ur])) l2 (.lst<|us.map V.ref++[V.ref ur]) ur=some (.tup [.int (BG X.n X.r X.c X.w 1 rec:Nat),.int (rec%X.w:Nat)]):=(se.trans sf') _ _ (by rw[AD];simp[BG])
 have sg:=(sd.trans se).trans sf'
 have hl2F:¬ X.S.A.F l2:=by
  have:=((I4.same s5).same (sd.trans se)).bk.off CY;exact this
 have el2:upd (upd (upd (upd H' lc<|.lst<|us.map V.ref) ur (.tup [.int (X.n+X.r+X.c+(rec:Int)/X.w),.int<|(rec:Int)%X.w])) lr (.lst [V.ref ur])) l2 (.lst<|us.map V.ref++[V.ref ur]) l2=some (.lst<|(us++[ur]).map V.ref):=by rw[AD];simp
 have s6:=s5.trans sg
 have nlm:=(BE (se _ _<|sd _ _<|s5 _ _ em4) CY).symm
 have PP:Paired (λu (y:Nat × Nat)=>upd (upd (upd (upd H' lc<|.lst<|us.map V.ref) ur (.tup [.int (X.n+X.r+X.c+(rec:Int)/X.w),.int<|(rec:Int)%X.w])) lr (.lst [V.ref ur])) l2 (.lst<|us.map V.ref++[V.ref ur]) u=some (.tup [.int (BG X.n X.r X.c X.w y.1 y.2:Nat),.int (y.2%X.w:Nat)])) (us++[ur]) (ps.map (λp=>(2,p))++[(1,rec)]) :=
  Paired.snoc (MH pu λu p z=>sg _ _<|sc _ _ z) er
 revert s6 el2 PP;generalize upd (upd (upd (upd H' lc<|.lst<|us.map V.ref) ur (.tup [.int (X.n+X.r+X.c+(rec:Int)/X.w),.int<|(rec:Int)%X.w])) lr (.lst [V.ref ur])) l2 (.lst<|us.map V.ref++[V.ref ur])=H6;intro el2 s6 PP;generalize us++[ur]=vs at el2 PP
 have hall:∀ y∈ps.map (λp=>(2,p))++[(1,rec)],(y.1=1\/y.1=2)/\y.2<BH X.n X.r X.c X.w y.1:=λy hy=>by
  rcases a_.mp hy with hy|hy
  ·obtain⟨p,hp,rfl⟩:=av.mp hy;exact{.inr rfl,by simpa [BH]using hps p hp}
  ·rw[aa.mp hy];exact{.inl rfl,by simpa [BH]using hr}
 have hyl:(ps.map (λp=>((2:Nat),p))++[(1,rec)]).length=ps.length+1:=by simp
 have hfin:(ps.map (λp=>(2,p))++[(1,rec)]).foldl (λ(M:Hs) (y:Nat × Nat)=>M.put y.1 y.2 (.mk 0) [cs.length]) (M.put 3 rec .no [gone])=((M.put 3 rec .no [gone]).unmark cs.length ps).put 1 rec (.mk 0) [cs.length]:=by
  rw[ka,List.foldl_map];rfl
 revert hall hyl hfin PP;generalize ps.map (λp=>((2:Nat),p))++[(1,rec)]=pls;intro PP hall hyl hfin;refine(.inl ⟨{_,SqL.of el2},FN (xs:=vs.map V.ref) (drI a X cs tks M rec gone u0 ml pls H6)
  {{[ch],rfl,I4.same s6,by rw[s6 _ _ em4];simp[AQ,bt],λy o e j=>e},_,rfl} (λi σ H' j {⟨_,_,_,_,sb'⟩,_}=>SqL.of<|sb' _ _ el2 ?_) (λi x σ H7 hx hzz=>?_) (λσ H7 hzz=>?_)⟩)
 rintro (y|y);exact hl2F y;exact nlm y;obtain⟨⟨ex,C8,I7,em7,sb7⟩,y6,rfl⟩:=hzz
 have hi:=(ε.mp hx).1;rw[ζ]at hi
 have hip:i<pls.length:=by rw[<-PP.length];exact hi
 have ey:=η hip;obtain⟨u',eu',hu'⟩:=G7 PP ey;rw[τ,eu']at hx;obtain rfl:=μ hx;obtain⟨hk12,hky⟩:=hall _<|θ ey
 have etk:pls.take (i+1)=pls.take i++[pls[i]]:=by rw[di,ey];rfl
 revert etk hk12 hky hu';generalize pls[i]=y;intro hu' hk12 hky etk;obtain⟨dx7,ho7⟩:=I7.ob;obtain⟨db7,eb7⟩:=I7.bk.bk.ob;push_cast[↓vL_]
 have k67:∀ b xs,H6 b=some (.tup xs)->H7 b=some (.tup xs):=λb xs e=>sb7 _ _ e λz=>z.elim (λz=>((I4.same s6).bk.loose z).1 _ e) λz=>by rw[z,s6 _ _ em4]at e;cases e
 refine{.inl {rfl,_,SqL.of em7},y3 {ho7,TS.cl,TS.n2,_,HF,y2 {eb7,C1,by decide,λn8 hn8=>?_}}}
 have s8:=AK (o:=.lst [V.int cs.length]) hn8;refine IE (ns:=[(cs.length:Int)]) T4' (I7.same s8) (kind:=y.1) (x:=.mk 0) (by lia) hky (s8 _ _<|k67 _ _ hu') AD (by simp) (by simp;lia) (λx hx=>by rw[aa.mp hx];exact{i0,by simp;lia}) trivial rfl (by rcases hk12 with z|z<;>rw[z]<;>exact bh _) λch9 H9 I9 N0=>?_
 have em9:=N0 _ _ (s8 _ _ em7) fml;refine{_,em9,χ (show(AQ ((ξ<|i+1).map (cs.length+·))).length<1000 by simp[AQ];lia) (by decide),({{ex++[ch9],by simp[C8],by have:=I9.lput (ys:=AQ ((ξ<|i+1).map (cs.length+·))++[V.int ((cs++ex).length:Nat)]) em9 fml;rw[etk,ka,<-gr];exact this,by rw[AD];simp[AQ,bt,C8],λb o e n=>?_},_,rfl})};rw[AH λz=>n<|.inr z];exact N0 _ _ (s8 _ _<|sb7 _ _ e n) λz=>n<|.inl z;obtain⟨⟨ex,C8,I7,em7,sb7⟩,y6,rfl⟩:=hzz
 have hvl:=PP.length;rw[ζ,hvl,hyl]at C8 em7;rw[ζ,hvl,bx,hfin]at I7;exact q ex ml H7 hmlH em7 C8 I7 λy o e n=>(sb7 _ _ (s6 _ _<|sb4 _ _ e n) λy'=>y'.elim n λz=>by rw[z,hmlH]at e;cases e)
def zr6:T5 K a vs H Q E->vs.length=3:=by
 apply u8;rintro z z z z z z z z ⟨rfl,z⟩
 rfl
def MI{X:SX}{cs:Ox}{tks:rR}{M:Hs}{H':Hp}{l:Addr}(I:X.at a H' cs tks M)(sb:SameBut (λx=>X.S.A.F x\/x=X.S.tk) H H')(hl:H' l=none):H l=none:=by
 cases e:H l with
 |none=>rfl
 |some o =>
  have:=sb _ _ e λz=>z.elim (I.bk.off hl) λz=>by rw[z,I.tk]at hl;cases hl
  rw[hl]at this;cases this
example:(zr7,T6,ZK,6):=by
 apply u5;rintro X cs tks M z ⟨rfl,T4,I,hzl,hcs,q,q1,q2,q3⟩;obtain⟨dx,ho⟩:=I.ob
 have T4':=T4
 have hm3:BH X.n X.r X.c X.w 3=X.r*X.w:=by simp[BH]
 push_cast[ZK,↓vU_];refine y2 {ho,BT,by decide,λgl hgl=>?_}
 have s1:=AK (o:=.lst [V.str z]) hgl;refine x7 X cs _ M z gl [z] {rfl,T4,I.same s1,AD,by simp,λy hy=>by rw[aa.mp hy];exact hzl,λhb hc H2 s2=>?_,λhb H2 s2=>q1 (by simpa using hb) _ (s1.trans s2),λhb hc H2 s2=>q2 (by simpa using hb) hc _ (s1.trans s2)}
 have hb:CI z=true:=by simpa using hb
 have CG:=s1.trans s2;obtain⟨T,TP,TL,TS⟩:=T4;refine y3 {CG _ _ ho,TS.cl,TS.n1,_,ID,y3 {CG _ _ ho,TS.cl,TS.n2,_,HF,x2 _ _ {rfl,UO T4' (I.same CG) (by decide) (λrec er JI H3 s3=>?_) λer H3 s3=>q3 hb hc (.inl<|er) _ (CG.trans s3)}}}
 have s13:=CG.trans s3;refine y3 {s13 _ _ ho,TS.cl,TS.n1,_,ID,y3 {s13 _ _ ho,TS.cl,TS.n2,_,HF,x2 _ _ {rfl,UO T4' (I.same s13) (by decide) (λcell ec BC H4 s4=>?_) λer H3 s3=>q3 hb hc (.inr<|er) _ (s13.trans s3)}}}
 have s14:=s13.trans s4
 have I4:=I.same s14;obtain⟨dl4,el4⟩:=I4.ly.ob;obtain⟨dx4,ho4⟩:=I4.ob;obtain⟨db4,eb4⟩:=I4.bk.bk.ob;push_cast[↓vV_];refine J9 TS (ho4) (eb4) (C1) (GY TS (ho4) (el4) (BY) (yL TL (I4.ly) λu hu=>{by decide,λl0 hl0=>?_}))
 have sb:=AK (o:=.lst []) hl0
 have eu:=sb _ _ (show upd H4 u _ u=some (.tup [.int (BG X.n X.r X.c X.w 1 rec),.int<|rec%X.w]) by rw[AD];simp[BG])
 have el0:upd (upd H4 u<|.tup [.int (X.n+X.r+X.c+rec/X.w),.int<|rec%X.w]) l0 _ l0=some (.lst<|([]).map V.int):=AD
 have s5:=(AK (o:=.tup [.int (X.n+X.r+X.c+rec/X.w),.int<|rec%X.w]) hu).trans sb;revert eu el0 s5;refine λeu el0 s5=>IE T4' (I4.same s5)  (x:=.mk 1) (by decide) (JI) eu el0 (by simp) (oA hcs rfl) (λx hx=>by cases hx) trivial rfl (ρ _) λc1 H6 I6 sb6=>?_;obtain⟨dx6,ho6⟩:=I6.ob;obtain⟨dl6,el6⟩:=I6.ly.ob;obtain⟨db6,eb6⟩:=I6.bk.bk.ob;push_cast[↓vW_];refine J9 TS (ho6) (eb6) (C1) (GY TS (ho6) (el6) (BY) (NS TL (I6.ly) λu2 hu2=>({by decide,λe6 he6=>{by decide,λt6 ht6=>{by decide,λl6 hl6=>?_}}})))
 have sc:=AK (o:=.tup [.int 1,.ref e6]) ht6
 have sd:=AK (o:=.lst [.int cs.length]) hl6
 have sb:=AK (o:=.tup []) he6
 have s67:=(((AK  hu2).trans sb).trans sc).trans sd
 have f1:=sd _ _ (sc _ _ (sb _ _ (show upd H6 u2 _ u2=some (.tup [.int (BG X.n X.r X.c X.w 3 rec),.int<|rec%X.w]) by rw[AD];simp[BG])))
 have f2:=sd _ _<|sc _ _<|AD   
 have f3:=sd _ _<|AD   
 have f4:=AD (H:=upd (upd (upd H6 u2<|.tup [.int (X.n+rec/X.w),.int<|rec%X.w]) e6 (.tup [])) t6 (.tup [.int 1,.ref e6])) (a:=l6) (o:=.lst [.int cs.length]);revert s67 f1 f2 f3 f4;refine λs67 f1 f2 f3 f4=>IE (ns:=[cs.length]) T4' (I6.same s67)  (x:=.rc 1 []) (by decide) (by exact JI) f1 f4 (by simp) (by simp;exact oC hcs rfl) (λx hx=>by rw[aa.mp hx];exact{i0,by simp;exact Aa _}) (ZT (ps:=[]) f3 f2 (by simp)) (x2 t6 e6 ⟨rfl,f3,f2⟩) trivial λc2 H8 I8 sb8=>?_;obtain⟨dx8,ho8⟩:=I8.ob
 have CC:(cs++[c1]).length=cs.length+1:=by simp
 push_cast[↓vX_];rw[CC];refine y2 {ho8,BT,x8 X _ _ _ _ _ _ z {rfl,T4',I8,BC,by simp,by simp;exact oH hcs rfl,yI hb,λc3 H9 I9 N0=>{by decide,λl hl=>?_}}}
 have sl:=AK (o:=.lst [V.int cs.length,V.int<|cs.length+1,V.int<|(cs++[c1]++[c2]).length]) hl
 have sbH:SameBut (λx=>X.S.A.F x\/x=X.S.tk) H H9:=λy o e n=>N0 _ _ (sb8 _ _ (s67 _ _<|sb6 _ _ (s5 _ _<|s14 _ _ e) λz=>n<|.inl z) λz=>n<|.inl z) λz=>n<|.inl z;exact q hb hc _ _ er ec JI BC _ l _ rfl (MI I9 sbH hl) (by rw[AD];simp[AQ,bt]) (by simpa using (I9.same sl)) λy o e n=>sl _ _<|sbH _ _ e n
def zr8:T6 K a vs H Q E->vs.length=2:=by
 apply u5;rintro z z z z z ⟨rfl,z⟩
 rfl
example:(zr9,QE,ZL,6):=by
 apply u6;rintro X cs tks M y z ⟨rfl,T4,I,hyl,hzl,hcs,q,q1,q2,q3,q4⟩
 have T4':=T4;obtain⟨dx,ho⟩:=I.ob;push_cast[ZL,↓vY_];refine y2 {ho,BT,by decide,λgl hgl=>?_}
 have s1:=AK (o:=.lst [V.str y,V.str z]) hgl;refine x7 X cs _ M z gl [y,z] {rfl,T4,I.same s1,AD,by simp,λx hx=>?_,λhb hc H2 s2=>?_,λhb H2 s2=>q1 (by simpa using hb) _ (s1.trans s2),λhb hc H2 s2=>?_};simp only[ax,b_,or_false]at hx;rcases hx with rfl|rfl
 exact hyl;exact hzl
 have hb:CI y=true/\CI z=true:=by simpa using hb
 have CG:=s1.trans s2;obtain⟨T,TP,TL,TS⟩:=T4;refine y2 {CG _ _ ho,BT,x5 X cs _ M y {rfl,T4',I.same CG,λold rec eo hol eM H3 s3=>?_,λeo H3 s3=>q3 hb.1 hb.2 hc eo _<|CG.trans s3}}
 have s13:=CG.trans s3;refine y3 {s13 _ _ ho,TS.cl,TS.n1,_,ID,y3 {s13 _ _ ho,TS.cl,TS.n2,_,HF,x2 _ _ {rfl,UO T4' (I.same s13) (by decide) (λcell ec BC H4 s4=>?_) λer H3 s3=>q4 hb.1 hb.2 hc ⟨_,eo⟩ (er) _ (s13.trans s3)}}};obtain⟨hr,m,ps,eR,hps,q⟩:=q hb.1 hb.2 hc _ _ _ eo hol eM
 have s14:=s13.trans s4;refine y2 {s14 _ _ ho,BT,by decide,λl0 hl0=>?_}
 have s5:=AK (o:=.lst []) hl0;refine N2 X cs _ M _ m _ 1 ps l0 [] {rfl,T4',(I.same s14).same s5,hr,eR,rfl,hps,AD,by simp,(λx hx=>by cases hx),oA hcs rfl,λc1 H6 I6 sb6=>?_};obtain⟨dx6,ho6⟩:=I6.ob;push_cast[↓vZ_];refine y2 {ho6,BT,x8 X _ _ _ _ _ _ z {rfl,T4',I6,BC,by simp,by simp;exact oC hcs rfl,yI hb.2,λc2 H7 I7 sb7=>{by decide,λl hl=>?_}}}
 have sl:=AK (o:=.lst [V.int cs.length,V.int<|(cs++[c1]).length]) hl
 have sbH:SameBut (λx=>X.S.A.F x\/x=X.S.tk) H H7:=λy o e n=>sb7 _ _ (sb6 _ _ (s5 _ _<|s14 _ _ e) λz=>n<|.inl z) λz=>n<|.inl z;exact q ec BC _ l _ rfl (MI I7 sbH hl) (by rw[AD];simp[AQ,bt]) (by simpa using (I7.same sl)) λy o e n=>sl _ _<|sbH _ _ e n
 have hb:CI y=true/\CI z=true:=by simpa using hb
 exact q2 hb.1 hb.2 hc _<|s1.trans s2
def zsa:QE K a vs H Q E->vs.length=3:=by
 apply u6;rintro z z z z z z ⟨rfl,z⟩
 rfl
def zsb(n d:Nat):AQ ((ξ<|d+1).map (n+·))=[V.int n]++AQ ((ξ d).map (n+1+·)):=by
 rw[yq];simp[AQ,eh,ua 1]
example:(zsc,T7,v8,4):=by
 apply u5;rintro X cs tks M z ⟨rfl,T4,I,hcs,q,q1⟩;obtain⟨dx,ho⟩:=I.ob;refine y2 {ho,BT,x5 X cs _ M z {rfl,T4,I,λcell rec ec BC eM H1 s1=>?_,λeo H3 s3=>q1 eo _ s3}};obtain⟨hr,m,ps,eR,hps,CD,q2,q3⟩:=q _ _ ec BC eM;refine y2 {s1 _ _ ho,BT,by decide,λl0 hl0=>?_}
 have s2:=AK (o:=.lst []) hl0;refine x8 X cs _ M _ z l0 [] {rfl,T4,(I.same s1).same s2,ec,BC,AD,by simp,(λx hx=>by cases hx),oA hcs rfl,λc1 H3 I3 MO=>?_}
 have sb:SameBut (λx=>X.S.A.F x\/x=X.S.tk) H H3:=λy o e n=>MO _ _ (s2 _ _<|s1 _ _ e) n
 have eR':(M.put 0 cell .no<|LA []) 3 _=.rc m ps:=eR;obtain⟨dx3,ho3⟩:=I3.ob;refine y2 {ho3,BT,x5 X _ _ _ _ {rfl,T4,I3,hr,λv H4 rv s4=>?_}};rw[eR']at rv;revert rv;apply u2;rintro t0 u0 ⟨rfl,GJ,FV⟩
 have I4:=I3.same s4;refine BM GJ  rfl rfl ?_;push_cast[];split;rename_i hm;push_cast[↓v6_];refine y2 {s4 _ _ ho3,BT,by decide,λl5 hl5=>?_}
 have s5:=AK (o:=.lst [V.int cs.length]) hl5;refine N2 X _ _ _ _ m (m-1) _ ps l5 [cs.length] {rfl,T4,I4.same s5,hr,eR',by lia,oA CD rfl,AD,by simp,(λx hx=>by rw[aa.mp hx];exact{i0,by simp;exact Aa _}),by simp;exact oC hcs rfl,λc2 H6 I6 sb6=>{by decide,λl hl=>?_}}
 have sl:=AK (o:=.lst [V.int cs.length,V.int<|(cs++[c1]).length]) hl
 have sbH:SameBut (λx=>X.S.A.F x\/x=X.S.tk) H H6:=λy o e n=>sb6 _ _ (s5 _ _<|s4 _ _<|sb _ _ e n) λz=>n<|.inl z;exact q2 (dr.mp hm) _ l _ rfl (MI I6 sbH hl) (by rw[AD];simp[AQ,bt]) (by simpa using (I6.same sl)) λy o e n=>sl _ _<|sbH _ _ e n;push_cast[↓v7_];refine{by decide,λl5 hl5=>?_}
 have s5:=AK (o:=.lst [V.int cs.length]) hl5;refine y2 {s5 _ _<|s4 _ _ ho3,BT,x8 X _ _ _ _ m _ ps {rfl,T4,(I4.same s5),hr,eR',by simp,hps,CD,by simp;exact oC hcs rfl,λex l H6 hl6 el6 hex I6 sb6=>.inl (x4 l5 l _ _ {rfl,rfl,sb6 _ _ AD<|I4.bk.off hl5,el6,CF _ (by simp[AQ];lia),λl7 hl7=>?_})}}
 have sl:=AK (o:=.lst ([V.int cs.length]++AQ ((ξ<|ps.length+2).map ((cs++[c1]).length+·)))) hl7
 have sbH:SameBut (λx=>X.S.A.F x\/x=X.S.tk) H H6:=λy o e n=>sb6 _ _ (s5 _ _<|s4 _ _<|sb _ _ e n) λz=>n<|.inl z;exact q3 (by lia) (c1::ex) l7 _ (by simp[hex]) (MI I6 sbH hl7) (by rw[AD,zsb _<|ps.length+2];simp) (by simpa using (I6.same sl)) λy o e n=>sl _ _<|sbH _ _ e n
def zsd:T7 K a vs H Q E->vs.length=2:=by
 apply u5;rintro z z z z z ⟨rfl,z⟩
 rfl
def cat_tup(h1:H b=some (.tup xs))(h2:H d=some (.tup ys))(hy:ys≠[])(hl:xs.length+ys.length<=1000)(q:∀ p H',Same H H'->H' p=some (.tup<|xs++ys)->Q (.ref p) H'):BL K (.ref b) (.ref d) H Q:=by
 by_cases hx:xs=[];subst hx;exact .inr<|.inr<|x3 b d ys {rfl,rfl,SqT.of h1,SqT.of h2,q d H (Same.refl _) h2};exact .inr<|.inl<|x4 b d xs ys {rfl,rfl,SqT.of h1,SqT.of h2,hx,CF _<|oA hl rfl,λe=>absurd e hy,λz p hp=>q p _ (AK hp) AD}
example:(zse,T8,wC,7):=by
 apply u6;rintro X cs tks M z t ⟨rfl,T4,I,htl,hts,hcs,q,q1,q2,q3⟩
 have T4':=T4;obtain⟨dx,ho⟩:=I.ob;refine y2 {ho,BT,x5 X cs _ M z {rfl,T4,I,λcell rec ec BC eM H1 s1=>?_,λeo H3 s3=>q1 eo _ s3}};obtain⟨T,TP,TL,TS⟩:=T4;refine{t,rfl,htl,λH2 s2=>?_}
 have CG:=s1.trans s2;cases hb:NH t with
 |false =>
  exact{by decide,q2 ⟨_,ec⟩ hb _ CG}
 |true =>
  refine y3 {CG _ _ ho,TS.cl,TS.n1,_,ID,y3 {CG _ _ ho,TS.cl,TS.n2,_,HF,x2 _ _ {rfl,UO T4' (I.same CG) (by decide) (λp ep CD H4 s4=>?_) λer H3 s3=>q3 ⟨_,ec⟩ hb (er) _ (CG.trans s3)}}};obtain⟨hr,m,ps,eR,hps,q⟩:=q _ _ ec BC eM hb p ep CD
  have s14:=CG.trans s4
  have I4:=I.same s14;obtain⟨dx4,ho4⟩:=I4.ob;obtain⟨dl4,el4⟩:=I4.ly.ob;obtain⟨db4,eb4⟩:=I4.bk.bk.ob;push_cast[↓v9_];refine J9 TS (ho4) (eb4) (C1) (GY TS (ho4) (el4) (BY) (lPM TL (I4.ly) λu hu=>{by decide,λl0 hl0=>?_}))
  have sb:=AK (o:=.lst []) hl0
  have sa:=AK (o:=.tup [.int (X.n+X.r+X.c+X.r+p/X.w),.int<|p%X.w]) hu
  have eu:=sb _ _ (show upd H4 u _ u=some (.tup [.int (BG X.n X.r X.c X.w 2 p),.int<|p%X.w]) by rw[AD];simp[BG])
  have el0:upd (upd H4 u<|.tup [.int (X.n+X.r+X.c+X.r+p/X.w),.int<|p%X.w]) l0 _ l0=some (.lst<|([]).map V.int):=AD
  have s5:=sa.trans sb;revert eu el0 s5;refine λeu el0 s5=>IE T4' (I4.same s5)  (x:=.mk 1) (by decide) (CD) eu el0 (by simp) (oA hcs rfl) (λx hx=>by cases hx) trivial rfl (ρ _) λc1 H6 I6 sb6=>?_;obtain⟨dx6,ho6⟩:=I6.ob;obtain⟨dl6,el6⟩:=I6.ly.ob;obtain⟨db6,eb6⟩:=I6.bk.bk.ob;push_cast[↓wA_];refine J9 TS (ho6) (eb6) (C1) (GY TS (ho6) (el6) (BY) (yK TL (I6.ly) λu2 hu2=>{by decide,λl6 hl6=>?_}))
  have sb:=AK (o:=.lst [.int cs.length]) hl6
  have f1:=sb _ _ (show upd H6 u2 _ u2=some (.tup [.int (BG X.n X.r X.c X.w 4 p),.int<|p%X.w]) by rw[AD];simp[BG])
  have sa:=AK (o:=.tup [.int (X.n+X.r+p/X.w),.int<|p%X.w]) hu2
  have f4:=AD (H:=upd H6 u2<|.tup [.int (X.n+X.r+p/X.w),.int<|p%X.w]) (a:=l6) (o:=.lst [.int cs.length])
  have s67:=sa.trans sb;revert s67 f1 f4;refine λf1 f4 s67=>IE (ns:=[cs.length]) T4' (I6.same s67)  (x:=.tx t) (by decide) (by exact CD) f1 f4 (by simp) (by simp;exact oC hcs rfl) (λx hx=>by rw[aa.mp hx];exact{i0,by simp;exact Aa _}) hts rfl trivial λc2 H8 I8 sb8=>?_;obtain⟨dx8,ho8⟩:=I8.ob
  have eR':((M.put 2 p (.mk 1) (LA [])).put 4 p (.tx t) (LA [cs.length])) 3 rec=.rc m ps:=eR;push_cast[↓wB_];refine y2 {ho8,BT,y2 {ho8,BT,x5 X _ _ _ _ {rfl,T4',I8,hr,λv H9 rv s9=>?_}}};rw[eR']at rv;obtain⟨t0,u0,rfl,GJ,FV⟩:=rv;refine BM GJ  rfl rfl {by decide,λt9 ht9=>?_}
  have sa:=AK (o:=.tup [V.int p]) ht9;refine cat_tup (sa _ _ FV) AD (by simp) (by simp[AQ];exact oA hps rfl) λpp H10 s10 epp=>{by decide,λl10 hl10=>?_}
  have sc:=AK (o:=.lst [V.int ((cs++[c1]).length)]) hl10
  have CG:=((s9.trans sa).trans s10).trans sc;refine N2 X _ _ _ _ m ps (ps++[p]) pp _ [((cs++[c1]).length)] {rfl,T4',I8.same CG,hr,eR',sc _ _ (by rw[epp];simp[AQ]),by simp;exact oA hps rfl,AD,by simp,(λx hx=>by rw[aa.mp hx];exact{i0,by simp}),by simp;exact oH hcs rfl,λc3 H13 I13 sb13=>{by decide,λl hl=>?_}}
  have sl:=AK (o:=.lst [V.int cs.length,V.int<|(cs++[c1]).length,V.int<|(cs++[c1]++[c2]).length]) hl
  have sbH:SameBut (λx=>X.S.A.F x\/x=X.S.tk) H _:=λy o e n=>sb13 _ _ (CG _ _<|sb8 _ _ (s67 _ _<|sb6 _ _ (s5 _ _<|s14 _ _ e) λz=>n<|.inl z) λz=>n<|.inl z) λz=>n<|.inl z;exact q _ l _ rfl (MI I13 sbH hl) (by rw[AD];simp[AQ,bt]) (by simpa using (I13.same sl)) λy o e n=>sl _ _<|sbH _ _ e n
def zsf:T8 K a vs H Q E->vs.length=3:=by
 apply u6;rintro z z z z z z ⟨rfl,z⟩
 rfl
example:(zsg,QF,wG,3):=by
 apply u5;rintro X cs tks M z ⟨rfl,T4,I,q,q1⟩
 have T4':=T4;obtain⟨dx,ho⟩:=I.ob;obtain⟨dl,el⟩:=I.ly.ob;obtain⟨db,eb⟩:=I.bk.bk.ob;obtain⟨T,TP,TL,TS⟩:=T4;refine y2 {ho,BT (by decide),y2 {ho,BT (by decide),x5 X cs _ M z {rfl,T4',I,λcell rec ec BC eM H1 s1=>?_,λeo H3 s3=>q1 eo _ s3}}};obtain⟨hr,m,ps,eR,hps,ts,pt,q⟩:=q _ _ ec BC eM;refine x5 X cs _ M _ {rfl,T4',I.same s1,hr,λv H2 rv s2=>?_};rw[eR]at rv;revert rv;apply u2;rintro t0 u0 ⟨rfl,GJ,FV⟩
 have CG:=s1.trans s2;refine BM GJ  rfl rfl (.inr {{_,SqT.of FV},ZU  (CF _ (by simp[AQ];exact oA hps rfl)) (λi ys H'=>Same H2 H'/\ys=(ts.take i).map V.str) {Same.refl _,rfl} (λi ys H' y ⟨s',_⟩=>SqT.of<|s' _ _ FV) (λi x ys H' hx hyl hzz=>?_) (λys H' hyl hzz lc hlc=>?_)});obtain⟨s',ey⟩:=hzz;unfold AQ at hx;rw[τ,ae]at hx;obtain⟨p,ep,rfl⟩:=hx
 have hti:i<ts.length:=by have:=(ε.mp ep).1;have:=pt.length;lia
 have eti:=η hti;obtain⟨p',ep',RG,eP⟩:=G7 pt eti;rw[ep]at ep';obtain rfl:=μ ep'
 have hm:p<BH X.n X.r X.c _ 4:=RG
 have sH:=CG.trans s'
 have I':=I.same sH;refine y3 {sH _ _ ho,TS.cl,TS.n2,_,HF,y2 {sH _ _ eb,C1 (by decide),y3 {sH _ _ ho,TS.cl,TS.n1,_,ID,y2 {sH _ _ el,BY (by decide),x6 _ _ _ _ _ p {rfl,TL,I'.ly,λu' hu'=>?_}}}}}
 have su:=AK (o:=.tup [.int (X.n+X.r+p/X.w),.int<|p%X.w]) hu';refine x9 _ _ _ _ cs _ u' _ _ {rfl,T,TP,I'.bk.same su,by rw[AD];simp[BG],λy v H3 ev s3=>?_,λz=>absurd (I.onPl  (by decide) hm) z}
 have rv:=I.rp 4 p v (by decide) hm ev;rw[eP]at rv;rw[rv];refine{(s'.trans su).trans s3,?_};rw[di,eti,ey,ak]
 rfl;obtain⟨s',ey⟩:=hzz
 have hl:(AQ ps).length=ts.length:=by rw[<-pt.length];simp[AQ]
 rw[hl,bx]at ey;subst ey;exact q lc _ (CG.free<|s'.free hlc) ((CG.trans s').trans (AK  hlc)) AD
def zsh:QF K a vs H Q E->vs.length=2:=by
 apply u5;rintro z z z z z ⟨rfl,z⟩
 rfl
def zsi(h1:H b=some (.tup xs))(h2:H d=some (.tup ys))(hl:xs.length+ys.length<=1000)(q:∀ p H',Same H H'->H' p=some (.tup<|xs++ys)->Q (.ref p) H'):BL K (.ref b) (.ref d) H Q:=by
 by_cases hy:ys=[];subst hy;by_cases hx:xs=[];subst hx;exact .inr<|.inr<|x3 b d [] {rfl,rfl,SqT.of h1,SqT.of h2,q d H (Same.refl _) h2};exact .inr (.inl (x4 b d xs [] {rfl,rfl,SqT.of h1,SqT.of h2,hx,CF _<|oA hl rfl,λz=>q b H (Same.refl _) (by rw[h1];simp),λe=>absurd rfl e}));exact cat_tup h1 h2 hy hl q
example:(zsj,T9,wF,6):=by
 apply u6;rintro X cs tks M z x ⟨rfl,T4,I,hcs,q,q1⟩
 have T4':=T4;obtain⟨dx,ho⟩:=I.ob;refine y2 {ho,BT,x5 X cs _ M z {rfl,T4,I,λcell rec ec BC eM H1 s1=>?_,λeo H3 s3=>q1 eo _ s3}};obtain⟨hr,m,ps,eR,hps,q2,q3⟩:=q _ _ ec BC eM;refine y2 {s1 _ _ ho,BT,x5 X cs _ M rec {rfl,T4,I.same s1,hr,λv H2 rv s2=>?_}};rw[eR]at rv;revert rv;apply u2;rintro t0 u0 ⟨rfl,GJ,FV⟩
 have CG:=s1.trans s2;refine BM GJ  rfl rfl ?_;push_cast[↓wD_];split;rename_i h0;refine{ps.length,.inr {_,SqT.of FV,by simp[AQ]},?_};split;exact{by decide,q2 (by lia) _ CG};obtain⟨k,rfl⟩:∃ k:Nat,x=k:={_,(gi h0).symm}
 have hk:k<ps.length:=by lia
 have ek:=η hk;obtain⟨hp,q3⟩:=q3 k _ rfl ek
 have e1:HT.sIx (AQ ps).length (AQ ps).length (some k)=k:=by
  simp[AQ];exact vm<|l8 hk
 refine y2 {CG _ _ ho,BT,?_}
 have e2:HT.sIx (AQ ps).length 0 (some<|k+1)=k+1:=by
  simp[AQ];exact vm hk
 have hnl:(AQ ps).length=ps.length:=by simp[AQ]
 refine .inr (x2 u0 _ {rfl,SqT.of FV,λy=>by lia,λp1 LQ=>?_})
 have sa:=AK (o:=.tup<|FM (AQ ps) none (some k)) LQ;refine .inr (x2 u0 _ {rfl,SqT.of<|sa _ _ FV,λy=>by lia,λp2 IF=>?_})
 have sb:=AK (o:=.tup<|FM (AQ ps) (some<|k+1) none) IF
 have c1:FM (AQ ps) none (some k)=AQ (ps.take k):=by rw[zd8 _ (i0),cb];simp[AQ]
 have c2:FM (AQ ps) (some<|k+1) none=AQ (ps.drop<|k+1):=by rw[zd9 _ (by exact i0)];simp[AQ]
 rw[c1,c2]at sb;rw[c1]at sa;rw[c1,c2];refine zsi (sb _ _ AD) AD (by simp[AQ];lia) λpp H5 s5 epp=>{by decide,λl5 hl5=>?_}
 have sc:=AK (o:=.lst []) hl5
 have s6:=(((CG.trans sa).trans sb).trans s5).trans sc;refine N2 X cs _ M _ m ps (ps.eraseIdx k) pp l5 [] {rfl,T4',I.same s6,hr,eR,sc _ _ (by rw[epp,ku];simp[AQ]),(by rw[List.length_eraseIdx];split<;>lia),AD,by simp,(λx hx=>by cases hx),oA hcs rfl,λc1' H7 I7 sb7=>?_};obtain⟨T,TP,TL,TS⟩:=T4;obtain⟨dx7,ho7⟩:=I7.ob;obtain⟨dl7,el7⟩:=I7.ly.ob;obtain⟨db7,eb7⟩:=I7.bk.bk.ob;push_cast[↓wE_]
 have hm2:BH X.n X.r X.c X.w 2=X.c*X.w:=by simp[BH]
 refine y3 {ho7,TS.cl,TS.n2,_,HF,y2 {eb7,C1,y3 {ho7,TS.cl,TS.n1,_,ID,y2 {el7,BY,BM ((J7 sb7 λx hx=>(I.same s6).bk.loose hx) _ _ ((((sa.trans sb).trans s5).trans sc) _ _ FV)) (n:=k) rfl (by unfold AQ;rw[τ,ek];rfl) (x6 X.S.lp X.n X.r X.c X.w (ps[k]) {rfl,TL,I7.ly,λu hu=>{by decide,λl8 hl8=>?_}})}}}}
 have se:=AK (o:=.lst [.int cs.length]) hl8
 have sd:=AK (o:=.tup [.int (X.n+X.r+X.c+X.r+(ps[k]:Int)/X.w),.int<|(ps[k]:Int)%X.w]) hu;refine IE (ns:=[(cs.length:Int)]) T4' (I7.same<|sd.trans se) (kind:=2) (x:=.mk 0) (by decide) (by rw[hm2];exact hp) (se _ _ (show upd H7 u (.tup [.int (X.n+X.r+X.c+X.r+(ps[k]:Int)/X.w),.int<|(ps[k]:Int)%X.w]) u=some (.tup [.int (BG X.n X.r X.c X.w 2 ps[k]:Nat),.int (ps[k]%X.w:Nat)]) by rw[AD];simp[BG])) AD (by simp) (by simp;exact oC hcs rfl) (λx hx=>by rw[aa.mp hx];exact{i0,by simp;exact Aa _}) trivial rfl (bh _) λc2' H9 I9 N0=>{by decide,λl hl=>?_}
 have sl:=AK (o:=.lst [V.int cs.length,V.int ((cs++[c1']).length:Nat)]) hl
 have sbH:SameBut (λx=>X.S.A.F x\/x=X.S.tk) H H9:=λy o e n=>N0 _ _ ((sd.trans se) _ _ (sb7 _ _ (s6 _ _ e) λz=>n<|.inl z)) λz=>n<|.inl z;exact q3 [c1',c2'] l _ rfl (MI I9 sbH hl) (by rw[AD];simp[AQ,bt]) (by have:=I9.same sl;simpa using this) λy o e n=>sl _ _<|sbH _ _ e n;exact{by decide,q2 (by lia) _ CG}
def NT{f:YY}{m k:Nat}(h:EE f m=k):f k=true:=by
 unfold EE at h;cases e:(ξ m).find? f with
 |none=>rw[e]at h;simp at h
 |some k' =>
  rw[e]at h
  have:=Im e
  have  :=cg h;subst this
  assumption
def zsk(hyz:y≠z)(fc:GT 0 (M 0 cell)=true):cellOf ((M.put 3 rec x n1).put 0 cell (.nm z rec) n2) m y=cellOf M m y:=by
 refine ZS λk v=>?_;unfold EF;by_cases hk:k=cell;subst hk;rw[Hs.put_at];cases e:M 0 k with
 |nm z' r'=>rw[e]at fc;simp[GT]at fc
 |_=>simp;exact λh=>hyz h.symm
 rw[Hs.put_at,if_neg<|λz=>hk z.2,Hs.put_at,if_neg<|nE rfl]
example:(zsl,UA,wN,6):=by
 apply u6;rintro X cs tks M y z ⟨rfl,T4,I,hyl,hzl,hcs,q,q1,q2,q3,q4⟩;obtain⟨dx,ho⟩:=I.ob;refine y2 {ho,BT,x6 X cs _ M y z {rfl,T4,I,hyl,hzl,oA hcs rfl,λhy hz hc old rec cell eo hol e0=>?_,q1,q2,q3,q4}};obtain⟨hr,m,ps,e3,hps,q⟩:=q hy hz hc _ _ _ eo hol e0;refine{hr,x2 m ps {e3,hps,λec BC ex l1 H1 hex DH el1 I1 sb1=>?_}}
 have fc:=NT ec
 have e01:((M.put 3 rec (.rc (m+1) ps) []).put 0 cell (.nm z rec) (cs.length::EY tks z)) 0 old=.nm y rec:=by rw[Hs.put_at,if_neg (λz=>(λh=>by rw[<-h,e0]at fc;simp[GT]at fc) z.2)];exact e0
 have ec1:cellOf ((M.put 3 rec (.rc (m+1) ps) []).put 0 cell (.nm z rec) (cs.length::EY tks z)) X.m0 y=some old:=by rw[zsk (λh=>by rw[h,hc]at eo;cases eo) fc];exact eo
 obtain⟨dx1,ho1⟩:=I1.ob
 have fl1:¬ X.S.A.F l1/\l1≠X.S.tk:={λz=>(I.bk.off DH) z,λz=>by rw[z,I.tk]at DH;cases DH}
 refine y2 {ho1,BT,x5 X _ _ _ y {rfl,T4,I1,λcell' k' ec' hc' eM' H2 s2=>?_,λe=>by rw[ec1]at e;cases e}};rw[ec1]at ec';obtain rfl:=μ ec';rw[e01]at eM';cases eM';push_cast[↓wL_];refine y2 {s2 _ _ ho1,BT,DC (SqL.of<|s2 _ _ el1)  (v:=.int<|cs.length+1) rfl (by simp[AQ]) {by decide,λl3 hl3=>?_}}
 have s3:=AK (o:=.lst [V.int (cs.length+1)]) hl3;refine x8 X _ _ _ _ y l3 [((cs.length+1))] {rfl,T4,((I1.same s2).same s3),ec1,hol,AD,by simp,(λx hx=>by rw[aa.mp hx];exact{i0,by simp[hex]}),by simp[hex];exact oH hcs rfl,λc3 H4 I4 sb4=>?_};obtain⟨dx4,ho4⟩:=I4.ob
 have CC:(cs++ex).length=cs.length+2:=by simp[hex]
 rw[CC];push_cast[↓wM_];refine y2 {ho4,BT,by decide,λl5 hl5=>?_}
 have s5:=AK (o:=.lst [V.int (cs.length+2)]) hl5;refine N2 X _ _ _ _ _ m _ ps l5 [((cs.length+2))] {rfl,T4,I4.same s5,hr,(by rw[Hs.put_at,if_neg<|nE rfl];exact(by rw[Hs.put_at,if_neg<|nE rfl,Hs.put_at,if_pos ⟨rfl,rfl⟩])),by lia,hps,AD,by simp,(λx hx=>by rw[aa.mp hx];exact{i0,by simp[hex]}),by simp[hex];exact oH hcs rfl,λc4 H6 I6 sb6=>{by decide,λl6 hl6=>.inl ?_}}
 have s6:=AK (o:=.lst [V.int (cs.length+2),V.int<|(cs++ex++[c3]).length]) hl6;refine x4 l1 l6 _ _ {rfl,rfl,s6 _ _<|sb6 _ _ (s5 _ _<|sb4 _ _ (s3 _ _<|s2 _ _ el1) λz=>z.elim fl1.1 fl1.2) fl1.1,AD,CF _ (by simp[AQ]),λl hl=>?_}
 have sl:=AK (o:=.lst (AQ ((ξ 2).map (cs.length+·))++[V.int (cs.length+2),V.int<|(cs++ex++[c3]).length])) hl
 have h2:((cs.length:Int)+2).toNat=cs.length+2:=rfl
 have sbH:SameBut (λx=>X.S.A.F x\/x=X.S.tk) H _:=λb o e n=>s6 _ _<|sb6 _ _ (s5 _ _<|sb4 _ _ (s3 _ _<|s2 _ _<|sb1 _ _ e n) n) λz=>n<|.inl z;exact(q ec BC) (ex++[c3]++[c4]) l _ (by simp[hex]) (MI (I6.same s6) sbH hl) (by rw[AD];simp[AQ,bt,hex]) (by simpa [hex,h2]using ((I6.same s6).same sl)) λb o e n=>sl _ _<|sbH _ _ e n
def zsm:T9 K a vs H Q E->vs.length=3:=by
 apply u6;rintro z z z z z z ⟨rfl,z⟩
 rfl
def zsn:UA K a vs H Q E->vs.length=3:=by
 apply u6;rintro z z z z z z ⟨rfl,z⟩
 rfl
def yO(C C':YY)(hC:∀ j,C j=true->C' j=true)(kind k:Nat):∀ as:List AC,(∃ x,∀ M,sh M C' as kind k=x)\/((∀ M,sh M C' as kind k=M kind k)/\∀ M,sh M C as kind k=M kind k)
 | []=>.inr {λ_=>rfl,λ_=>rfl}
 |b::r=>by
  have ih:=yO C C' hC kind k r;by_cases e:kind=b.kind/\k=b.k;obtain⟨rfl,rfl⟩:=e;by_cases c:C' r.length=true;exact .inl {_,λM=>by rw[CS c,CL]};rcases ih with⟨x,h⟩|⟨h1,h2⟩
  exact .inl {x,λM=>by rw[D4 c];exact h M};exact .inr {λM=>by rw[D4 c];exact h1 M,λM=>by rw[D4 (λz=>c<|hC _ z)];exact h2 M}
  have far:∀ (D:YY) (M:Md),sh M D _ _ k=sh M D r _ k:=λD M=>by
   by_cases c:D r.length=true;rw[CS c];exact if_neg e;rw[D4 c]
  rcases ih with⟨x,h⟩|⟨h1,h2⟩
  exact .inl {x,λM=>by rw[far];exact h M};exact .inr {λM=>by rw[far];exact h1 M,λM=>by rw[far];exact h2 M}
def zso(hC:∀ j,C j=true->C' j=true):sh (sh M C as) C' as kind k=sh M C' as kind k:=by
 rcases yO C C' hC _ k as with⟨x,h⟩|⟨h1,h2⟩
 rw[h,h];rw[h1,h1,h2]
def zsp:EM (cs++[ch]) O b row=if ch.blk=b/\O cs.length=true then(EM cs O b row).set ch.cell ch.val else EM cs O b row:=by
 have st:∀ (l:List _) (row:Oj),(∀ k∈l,k<cs.length)->l.foldl (HA (cs++[ch]) O) row=l.foldl (HA cs O) row:=by
  intro l
  induction l with
  |nil=>intro y y;rfl
  |cons k l ih =>
   intro row h;rw[fj,fj,ih _ λj hj=>h j<|υ _ hj];unfold HA;rw[ba (h k ω)]
 have lt:∀ k∈C3 cs b,k<cs.length:=λk hk=>by
  obtain⟨c,e,y⟩:=SS.mp hk;exact(ε.mp e).1
 have ib:C3 (cs++[ch]) b=if ch.blk=b then C3 cs b++[cs.length]else C3 cs b:=by simp[C3,GP]
 unfold EM;rw[ib];by_cases e:ch.blk=b;rw[if_pos e,ka,st _ _ lt];simp only[fj,List.foldl_nil];unfold HA;rw[cf (ρ _),vx];by_cases o:O cs.length=true;rw[if_pos o,if_pos ⟨e,o⟩];rfl;rw[if_neg o,if_neg λz=>o z.2];rw[if_neg e,if_neg λz=>e z.1,st _ _ lt]
section
variable{n r c w:Nat}{cs:Ox}{as:List AC}
def LaidA.len(h:LaidA n r c w H cs as):cs.length=as.length:=by
 induction h with
 |nil=>rfl
 |snoc _ _ _ _ _ _ _ ih=>rw[af,ih];rfl
def LaidA.cut(h:LaidA n r c w H cs as)(hc:SW cs outs):EX (λj=>outs (j:Nat)) as:=by
 induction h with
 |nil=>trivial
 |@snoc cs as ch x l e1 e2 e3 e4 e5 e6 ih =>
  refine{ih λk c ec=>hc k c (by rw[ba (ε.mp ec).1];exact ec),λo=>?_}
  have nd:=hc _ ch (by rw[cf (ρ _),vx];rfl) (by rw[l.len];exact o);exact{λy hy=>nd _<|(e4 _).mpr (.inl ⟨y,hy,rfl⟩),λj hj=>nd _<|(e4 _).mpr (.inr ⟨j,hj,rfl⟩)}
def LaidA.far(h:LaidA n r c w H cs as){C C':rW}(hC:∀ (j:Nat) (ch:Ch),cs[j]? =some ch->ch.blk≠b->C' j=C j)(hb:BG n r c w kind k≠b):sh M (λj=>C' (j:Nat)) as kind k=sh M (λj=>C (j:Nat)) as kind k:=by
 induction h with
 |nil=>rfl
 |@snoc cs as ch x l e1 e2 e3 e4 e5 e6 ih =>
  have ih:=ih λj c ec=>hC j c (by rw[ba (ε.mp ec).1];exact ec);by_cases e:kind=x.kind/\k=x.k
  have cc:=hC _ ch (by rw[cf (ρ _),vx];rfl) (by rw[e1,<-e.1,<-e.2];exact hb);rw[l.len]at cc;by_cases o:C as.length=true;rw[CS (C:=λj=>C j) o,CS  (cc.trans o),e.1,e.2,CL,CL];rw[D4 (C:=λj=>C j) o,D4  (by rw[cc];exact o)];exact ih
  have far:∀ D:Nat->Bool,sh M D _ _ k=sh M D as _ k:=λD=>by
   by_cases o:D as.length=true;rw[CS o];exact if_neg e;rw[D4 o]
  rw[far,far];exact ih
def LaidA.laid(h:LaidA n r c w H cs as)(hr:∀ kind k v,kind<5->k<BH n r c w kind->BG n r c w kind k=b->row[k % w]? =some v->RepC H (S kind k) v):∀ kind k v,kind<5->k<BH n r c w kind->BG n r c w kind k=b->(EM cs O b row)[k % w]? =some v->RepC H (sh S (λj=>O (j:Nat)) as kind k) v:=by
 induction h with
 |nil=>exact hr
 |@snoc cs as ch x l e1 e2 e3 e4 e5 e6 ih =>
  intro kind k v h1 hk hb hv;rw[zsp]at hv
  have ih:=ih _ k v h1 hk hb;by_cases e:kind=x.kind/\k=x.k;obtain⟨rfl,rfl⟩:=e;rw[e1,hb]at hv;by_cases o:O as.length=true;rw[CS  o,CL];rw[if_pos {rfl,by rw[l.len];exact o},e2]at hv
  have hl:=(ε.mp hv).1;rw[jw]at hl;rw[fz hl]at hv;obtain rfl:=μ hv;exact e3;rw[D4  o];rw[if_neg λz=>o (by rw[<-l.len];exact z.2)]at hv;exact ih hv
  have far:sh S (λj=>O j) (x::as) kind k=sh S (λj=>O j) as kind k:=by
   by_cases o:O as.length=true;rw[CS  o];exact if_neg e;rw[D4  o]
  rw[far];refine ih ?_;split at hv;rename_i z
  have:ch.cell≠k%w:=λy=>e ((ZR     h1 e5 hk e6 (by rw[hb,<-e1];exact z.1.symm) (by rw[<-y,e2])));rw[ia this]at hv;exact hv;exact hv
end
def RowsAre.keep(h:RowsAre H n r c w rows S)(k:DV H H'):RowsAre H' n r c w rows S:=λkind i v h1 h2 h3=>(h _ i v h1 h2 h3).keep k
def RowsAre.write{rows:qT}{outs:rW}(h:RowsAre H n r c w rows (sh B (λj=>outs (j:Nat)) as))(l:LaidA n r c w H cs as)(er:rows[b]? =some row) :
  RowsAre H n r c w (rows.set b<|EM cs (C7 cs outs b) b row) (sh B (λj=>C7 cs outs b (j:Nat)) as):=λkind k v h1 hk hv=>by
 by_cases e:BG n r c w kind k=b;rw[e,fz<|(ε.mp er).1]at hv
 have:=l.laid     (λkind k v h1 hk e hv=>h _ k v h1 hk (by rw[e,er];exact hv)) _ k v h1 hk e hv;rw[zso   (λj e=>by unfold C7;rw[e];rfl)]at this;exact this;rw[ia (λz=>e z.symm)]at hv;rw[l.far    (λj ch ej nb=>?_) e];exact h _ k v h1 hk hv;unfold C7
 have:(outcome cs outs (λy=>false) b).out.any (λi=>j ==(i:Int))=false:=by
  rw[Bool.eq_false_iff];intro z;obtain⟨i,hi,ei⟩:=c_.mp z
  have ei:=cg (beq_iff_eq.mp ei).symm;subst ei;obtain⟨c',ec',eb⟩:=SS.mp<|(SU.2.1 i hi).2;rw[ej]at ec';obtain rfl:=μ ec';exact nb eb
 rw[this,qz]
def zsq(hn:DQ cs (b:Nat) (j:Nat)=none):(EM cs O b row)[j]? =row[j]? :=by
 rw[zei,m8];cases el:IT cs _ j with
 |none=>simp
 |some c =>
  obtain⟨k,hk,ec,ecell,z⟩:=m9 el;obtain⟨c',ec',eb⟩:=SS.mp (dn.mp hk).1;rw[ec]at ec';obtain rfl:=μ ec';refine u2 ?_<|zej ec;rintro j0 c0 ⟨hn0,z⟩;rw[eb,ecell,hn]at hn0;cases hn0
def zsr(h:v∈EM cs O b row):v∈row\/∃ c∈cs,v=c.val:=by
 unfold EM at h;revert h;generalize C3 cs b=l
 induction l generalizing row with
 |nil=>exact .inl
 |cons k l ih =>
  intro h;rcases ih h with h|h
  unfold HA at h;split at h;split at h;rename_i c ec;rcases qu h with h|h
  exact .inl h;exact .inr {c,θ ec,h};exact .inl h;exact .inl h;exact .inr h
example:(zss,QS,uS,2):=by
 apply u6;rintro X cs tks M b row ⟨rfl,⟨T,TP,TL,TS⟩,I,er,q⟩;obtain⟨dx,ho⟩:=I.ob;obtain⟨dp,ep⟩:=I.bk.pk.ob;obtain⟨db,eb⟩:=I.bk.bk.ob
 have hb:=(ε.mp er).1;refine y3 {ho,TS.cl,TS.n2,_,HF,y2 {eb,C1 (by decide),x7 _ _ _ _ cs _ b {rfl,T,TP,I.bk,λb' row' t ol hl H' eb' er' u u u u B' sb=>?_,λz=>by lia}}};obtain rfl:b=b':=cg eb';rw[er]at er';obtain rfl:=μ er'
 have lo:∀ x,X.S.A.F x->EW _:=λx hx=>I.bk.loose hx;obtain⟨⟨dx,e1⟩,e2,e3,e4,e5,e6,e7,e8,e9,e10,e11,e12⟩:=I
 have tk:DV H H':=λy ys e=>sb _ _ e λz=>z.elim (λz=>(lo _ z).1 _ e) λz=>by rw[z,ep]at e;cases e
 obtain⟨dl,el⟩:=e2.ob;refine q t H' {{dx,sb _ _ e1 λz=>z.elim (λz=>(lo _ z).2 _ _ _ e1) λz=>?_},e2.sb sb λz=>z.elim (λz=>(lo _ z).2 _ _ _ el) λz=>?_,B',sb _ _ e4 λz=>z.elim e7 λz=>?_,e5,e6,e7,{e8.1,e8.2.1,e8.2.2.1,e8.2.2.2.1,by show(X.rows.set b _).length=X.n+X.r+X.c+X.r+X.c;rw[jw];exact e8.2.2.2.2},{λq hq v hv=>?_,(e9.keep tk).2},λkind k v h1 hk hv=>?_,e11,e12.keep tk} sb;rw[show X.S.st=X.S.A.gp from z,ep]at e1;injection e1 with e1
 injection e1 with _ _ e1
 cases (congrArg (·.lookup ("plan":Str)) e1);rw[z,ep]at el;injection el with el
 injection el with _ _ el
 exact absurd (congrArg lu el) (by simp[pf,lf]);rw[show X.S.tk=X.S.A.gp from z,ep]at e4;cases e4
 have g:=e9.keep tk;rcases qu hq with hq|hq
 exact g.1 q hq v hv;rw[hq]at hv;rcases zsr hv with hv|⟨c,hc,rfl⟩
 exact g.1 _ (θ er) v hv;exact g.2 c hc
 have hv:ED cs (X.rows.set b _) (BG X.n X.r X.c X.w _ k) (k%X.w:Nat)=some v:=hv;refine(e10 _ k v h1 hk ?_).keep tk;rw[<-hv];unfold ED;cases en:DQ cs _ _ with
 |some j=>rfl
 |none =>
  rw[cb];by_cases e:BG X.n X.r X.c X.w kind k=b;rw[e]at en ⊢;rw[er,fz hb]
  show row[_]? =(EM cs _ b _)[_]?;rw[cb,zsq en];rw[ia (λz=>e z.symm)]
def UP{α β :Type}{F: α -> β ->Prop}{x: α}:∀ {l:List α} {m:List β} {i:Nat},Paired F l m->l[i]? =some x->∃ y,m[i]? =some y/\F x y
 |_,_,0,.cons h _,e=>{_,rfl,by cases e;exact h}
 |_,_,i+1,.cons _ t,e=>UP (i:=i) t e
example:(zst,X0,wJ,4):=by
 apply u5;rintro X cs tks M z ⟨rfl,T4,I,q,qE⟩;obtain⟨dx,ho⟩:=I.ob
 have T4':=T4;obtain⟨T,TP,TL,TS⟩:=T4;refine y2 {ho,BT (by decide),x5 X cs _ M z {rfl,T4',I,λcell rec e BC hm H1 s1=>?_,qE}};obtain⟨hr,m,ps,e3,hps,RG,q⟩:=q _ _ e BC hm
 have I1:=I.same s1;obtain⟨d1,ho1⟩:=I1.ob;obtain⟨dl1,el1⟩:=I1.ly.ob;push_cast[↓wH_];refine GY TS ho1 el1 (BY (by decide)) (y2 {ho1,BT (by decide),x5 X cs _ M z {rfl,T4',I1,λH2 s2=>?_}});rw[e]
 have I2:=I1.same s2;refine yJ  TL I2.ly λt1 ht1=>?_
 have I3:=I2.same<|AK (o:=.tup [.int (0+cell/X.w),.int<|cell%X.w]) ht1;obtain⟨d3,ho3⟩:=I3.ob;obtain⟨dl3,el3⟩:=I3.ly.ob
 have b1:∀ k:Nat,[V.int _,V.int _]=UB X (0,k):=λk=>by
  rfl
 have b3:∀ k:Nat,[V.int _,V.int _]=UB X (3,k):=λk=>rfl;refine GY TS ho3 el3 (BY (by decide)) (NS  TL I3.ly λt2 ht2=>{by decide,λl1 DH=>?_})
 have st3:=AK (o:=.lst [.ref t1,.ref t2]) DH
 have st2:=AK (o:=.tup [.int (X.n+rec/X.w),.int<|rec%X.w]) ht2
 have et1:=st3 _ _<|st2 _ _<|AD   
 have et2:=st3 _ _<|AD  
 have s4:=s1.trans<|s2.trans<|(AK  ht1).trans (st2.trans st3)
 have el1':upd (upd (upd H2 t1<|.tup [.int (0+cell/X.w),.int<|cell%X.w]) t2 (.tup [.int (X.n+rec/X.w),.int<|rec%X.w])) l1 _ l1=some (.lst [.ref t1,.ref t2]):=AD;push_cast[↓wI_];revert et1 et2 s4 el1';intro et1 et2 s4 el1'
 have I4:=I.same s4;obtain⟨d4,ho4⟩:=I4.ob;refine y2 {ho4,BT (by decide),x5 X cs _ M _ {rfl,T4',I4,hr,λv H5 rv s5=>?_}};rw[e3]at rv;revert rv;apply u2;rintro t u ⟨rfl,et,eu⟩;refine BM et  rfl rfl (.inr {{_,SqT.of eu},ZU  (CF _ (by simp[AQ];exact oA hps rfl)) (λi ys H'=>Same H5 H'/\∃ ts:List _,ys=ts.map V.ref/\Paired (λt p=>H' t=some (.tup<|UB X p)) ts ((ps.take i).map λp=>(4,p))) {Same.refl _,[],rfl,.nil} (λi ys H' y ⟨s',_⟩=>SqT.of<|s' _ _ eu) (λi x ys H' hx hyl hzz=>?_) (λys H' hyl hzz lc hlc=>?_)});obtain⟨s',ts,ey,P⟩:=hzz;unfold AQ at hx;rw[τ,ae]at hx
 have I6:=(I4.same s5).same s';obtain⟨p,hp,rfl⟩:=hx;obtain⟨d6,ho6⟩:=I6.ob;obtain⟨dl6,el6⟩:=I6.ly.ob;push_cast[CH];refine GY TS ho6 el6 (BY (by decide)) (yK  TL I6.ly λt ht=>{s'.trans<|AK ht,ts++[t],by rw[ey,ak];rfl,?_});rw[di,hp,ak];exact Paired.snoc (Paired.mapP P λt p h=>AK ht _ _ h) AD;obtain⟨s',ts,ey,P⟩:=hzz;rw[ey]
 have s6:=AK (o:=.lst<|ts.map V.ref) hlc
 have hts:ts.length<=100:=by
  have:=P.length;rw[ζ,cz]at this
  lia
 refine .inl (x4 l1 lc _ _ {rfl,rfl,s6 _ _<|s' _ _<|s5 _ _ el1',AD,by rw[w_];simp;lia,λl hl=>?_})
 have s7:=s6.trans<|AK (o:=.lst<|[V.ref t1,V.ref t2]++ts.map V.ref) hl
 have s57:=s5.trans<|s'.trans s7;refine q l _ _ (s4.trans s57) AD (.cons ?_<|.cons ?_ ?_);exact s57 _ _ et1;exact s57 _ _ et2
 have P':=Paired.mapP P λt p h=>s7 _ _ h;rw[gb (by simp[AQ])]at P';exact P'
example:(zsu,UC,wQ,4):=by
 apply u5;rintro X cs tks M z ⟨rfl,T4,I,q,qE⟩;obtain⟨dx,ho⟩:=I.ob
 have T4':=T4;obtain⟨T,TP,TL,TS⟩:=T4;refine y2 {ho,BT (by decide),y5 {rfl,TS,ho,?_}};push_cast[↓wO_];refine y2 {ho,BT (by decide),x5 X cs _ M z {rfl,T4',I,λcell rec e BC hm=>?_,qE}};obtain⟨hr,m,ps,e3,hps,RG,q⟩:=q _ _ e BC hm;refine{hr,x2 m ps {e3,hps,RG,λl ts H1 s1 el P=>(.inl {{_,SqL.of el},?_})}}
 have I1:=I.same s1
 have hts:ts.length<=102:=by
  have:=P.length;unfold HD at this;simp at this
  lia
 have on:∀ p∈HD cell rec ps,p.1<5/\p.2<BH _ _ _ _ p.1:=λp hp=>by
  rcases ax.mp hp with rfl|hp
  exact{by show 0<5;decide,BC};rcases ax.mp hp with rfl|hp
  exact{by show 3<5;decide,hr};obtain⟨k,hk,rfl⟩:=av.mp hp;exact{by show 4<5;decide,RG k hk}
 refine kY  (CF _ (by rw[ζ];exact oA hts rfl)) (λi ys H'=>Same H1 H'/\ys=((HD cell rec ps).take i).map λp=>TF<|DQ cs (BG X.n X.r X.c X.w p.1 p.2) (p.2%X.w:Nat)) {Same.refl _,rfl} (λi ys H' _ ⟨s',_⟩=>SqL.of<|s' _ _ el) (λi x ys H' hx hyl hzz=>?_) (λys H' hyl hzz lc hlc=>?_);obtain⟨s',ey⟩:=hzz;rw[τ,ae]at hx
 have I2:=I1.same s';obtain⟨t,ht,rfl⟩:=hx;obtain⟨p,hp,e1⟩:=UP P ht;obtain⟨o1,o2⟩:=on p<|θ hp;obtain⟨db,eb⟩:=I2.bk.bk.ob;refine y2 {eb,C1 (by decide),x9 _ _ _ _ cs _ t _ _ {rfl,T,TP,I2.bk,s' _ _ e1,λ_=>{s',?_},λz=>absurd (I2.onPl o1 o2) z}};rw[di,hp,ak,ey]
 rfl;obtain⟨s',ey⟩:=hzz
 have e6:upd H' lc _ lc=some (.lst ys):=AD;push_cast[↓wP_];refine .inl {{_,SqL.of e6},WT (λv=>match v with|.non=>false|_=>true) (CF _ (by simp at *;lia)) (SqL.of e6) (λv hv QB qb=>?_) λl2 CY=>?_};rw[ey]at hv;obtain⟨p,_,rfl⟩:=av.mp hv;revert qb;cases DQ cs _ _ with
 |none=>intro qb;exact qb
 |some k=>intro qb;exact qb
 have ef:ys.filter (λv=>match v with|.non=>false|_=>true)=(NL X cs<|HD cell rec ps).map V.int:=by
  rw[ey,gb (by rw[ζ];exact bc P.length.symm)];unfold NL;generalize HD _ _ ps=L
  induction L with
  |nil=>rfl
  |cons p L ih =>
   rw[dk,qv];cases DQ cs _ _ with
   |none=>exact ih
   |some k=>exact congrArg _ ih
 have s7:=(AK  hlc).trans (AK (o:=.lst<|(NL X cs<|HD cell rec ps).map V.int) CY);rw[ef]
 have ln:(NL X cs<|HD cell rec ps).length<=200:=by
  refine ψ (i_ _ _) ?_;exact oA (ψ (bc P.length.symm) hts) rfl
 refine x8 _ _ _ _ cs _ l2 _ {rfl,T,(I1.same<|s'.trans s7).bk,SqL.of AD,by omega,λ_ l' row R H8 c1 c2 c3 c4 s8 e8=>q l' _ R H8 c1 c2 c3 ((s1.trans<|s'.trans s7).free c4) (s1.trans<|(s'.trans s7).trans s8) e8,λhzz=>?_};obtain⟨x,hx,nx⟩:=hzz;exfalso;obtain⟨p,_,ex⟩:=jo.mp hx;obtain⟨k,ek,rfl⟩:=ae.mp ex;exact nx {i0,dr.mpr<|NC ek}
def E5{c A B:Prop}[Decidable c](h:c)(x:A):if c then A else B:=by rw[if_pos h];exact x
def DW{c A B:Prop}[Decidable c](h:¬ c)(x:B):if c then A else B:=by rw[if_neg h];exact x
def zsv{α :Type}{l:List (Option α)}{k:Nat}{c: α}(h:AX l k=some c):some c∈l:=by
 unfold AX at h;cases e:l[k]? with
 |none=>rw[e]at h;cases h
 |some y =>
  rw[e]at h;exact h ▸ θ e
def FindsL.on{H':Hp}{l:Addr}{fs:qT}(h:FindsL H l fs)(hl:∀ o,H l=some o->H' l=some o)(tk:DV H H'):FindsL H' l fs:=by
 obtain⟨ps,e,P⟩:=h;exact{ps,hl _ e,Paired.mapP P λp f e=>tk _ _ e}
def NmV.keep(k:DV H H')(h:NmV H v c):NmV H' v c:=by
 cases c with
 |none=>exact h
 |some c=>obtain⟨p,e,h1⟩:=h;exact{p,e,k _ _ h1}
def RcV.keep(k:DV H H')(h:RcV H v c):RcV H' v c:=by
 cases c with
 |none=>exact h
 |some c=>revert h;apply u2;rintro p q ⟨e,h1,h2⟩;exact x2 p q {e,k _ _ h1,k _ _ h2}
def PcV.keep(_:DV H H')(h:PcV H v c):PcV H' v c:=by
 cases c<;>exact h
def MkV.keep(_:DV H H')(h:MkV H v c):MkV H' v c:=by
 cases c<;>exact h
def LstAt.keep{α :Type}{R:Hp->V-> α ->Prop}{H':Hp}{p:Addr}{cs:List α}(h:LstAt R H p cs)(kr:∀ v c,R H v c->R H' v c)(kp:∀ o,H p=some o->H' p=some o):LstAt R H' p cs:=by
 obtain⟨vs,e,P⟩:=h;exact{vs,kp _ e,Paired.mapP P λv c=>kr v c}
def FindsL.same(h:FindsL H l fs)(s:Same H H'):FindsL H' l fs:=by
 obtain⟨ps,e,P⟩:=h;exact{ps,s _ _ e,Paired.mapP P λp f e=>s _ _ e}
def ViewAt.same{H':Hp}{x:Addr}{A:VA}{vw:Vw}(h:ViewAt a H x A vw)(s:Same H H'):ViewAt a H' x A vw:=by
 obtain⟨⟨dx,e⟩,h1,h2,h3,h4,h5,h6,h7,h8,ok⟩:=h;exact{{dx,s _ _ e},h1.keep (λv c=>NmV.keep s.tk) (λo=>s _ _),h2.keep (λv c=>RcV.keep s.tk) (λo=>s _ _),h3.keep (λv c=>PcV.keep s.tk) (λo=>s _ _),h4.keep (λv c=>MkV.keep s.tk) (λo=>s _ _),h5.keep (λv c=>MkV.keep s.tk) (λo=>s _ _),s _ _ h6,s _ _ h7,s _ _ h8,ok}
def LstAt.at{α :Type}{R:Hp->V->Option α ->Prop}{p:Addr}{cs:List (Option α)}{k:Nat}(h:LstAt R H p cs)(hk:k<cs.length):∃ vs v,H p=some (.lst vs)/\vs.length=cs.length/\vs[k]? =some v/\R H v (AX cs k):=by
 obtain⟨vs,e,P⟩:=h;obtain⟨v,ev,hr⟩:=G7 P<|η hk;refine x2 vs v {e,P.length,ev,?_};unfold AX;rw[η hk];exact hr
def UQ{l:Oz}{k:Nat}{m:Nat}(h:l[k]? =some m):(AQ l)[k]? =some (.int m):=by
 unfold AQ;rw[τ,h]
 rfl
def NU{n k:Nat}{f:Nat->Nat}(h:k<n):((ξ n).map f)[k]? =some (f k):=by
 rw[τ,vp h]
 rfl
def Q3{p:Addr}{n k:Nat}{f:Nat->Nat}{Q:VK}(h:H p=some (.lst<|AQ<|(ξ n).map f))(hk:k<n)(q:Q (.int<|f k) H):BX K (.ref p) (.int k) H Q :=
 DC (SqL.of h)  rfl (UQ<|NU hk) q
def zsw:(vf A).lookup ("name_values":Str)=some (V.ref A.n):=by simp[vf]
def UR:(vf A).lookup ("record_values":Str)=some (V.ref A.r):=by
 simp[vf,ao,A7 (a:="record_values") (b:="name_values") (by decide)]
def zsx:(vf A).lookup ("piece_values":Str)=some (V.ref A.p):=by
 simp[vf,ao,A7 (a:="piece_values") (b:="name_values") (by decide),A7 (a:="piece_values") (b:="record_values") (by decide)]
def yP{A:VA}:(vf A).lookup ("record_marks":Str)=some (V.ref A.rm):=by
 simp[vf,ao,A7 (a:="record_marks") (b:="name_values") (by decide),A7 (a:="record_marks") (b:="record_values") (by decide),A7 (a:="record_marks") (b:="piece_values") (by decide)]
def yQ{A:VA}:(vf A).lookup ("piece_marks":Str)=some (V.ref A.pm):=by
 simp[vf,ao,A7 (a:="piece_marks") (b:="name_values") (by decide),A7 (a:="piece_marks") (b:="record_values") (by decide),A7 (a:="piece_marks") (b:="piece_values") (by decide),A7 (a:="piece_marks") (b:="record_marks") (by decide)]
def ZV{A:VA}:(vf A).lookup ("leads":Str)=some (V.ref A.ld):=by
 simp[vf,ao,A7 (a:="leads") (b:="name_values") (by decide),A7 (a:="leads") (b:="record_values") (by decide),A7 (a:="leads") (b:="piece_values") (by decide),A7 (a:="leads") (b:="record_marks") (by decide),A7 (a:="leads") (b:="piece_marks") (by decide)]
def yR{A:VA}:(vf A).lookup ("namings":Str)=some (V.ref A.ng):=by
 simp[vf,ao,A7 (a:="namings") (b:="name_values") (by decide),A7 (a:="namings") (b:="record_values") (by decide),A7 (a:="namings") (b:="piece_values") (by decide),A7 (a:="namings") (b:="record_marks") (by decide),A7 (a:="namings") (b:="piece_marks") (by decide),A7 (a:="namings") (b:="leads") (by decide)]
def zsy:(vf A).lookup ("reached":Str)=some (V.ref A.rh):=by
 simp[vf,ao,A7 (a:="reached") (b:="name_values") (by decide),A7 (a:="reached") (b:="record_values") (by decide),A7 (a:="reached") (b:="piece_values") (by decide),A7 (a:="reached") (b:="record_marks") (by decide),A7 (a:="reached") (b:="piece_marks") (by decide),A7 (a:="reached") (b:="leads") (by decide),A7 (a:="reached") (b:="namings") (by decide)]
def MJ{A:VA}{x:Str}(h:(DM x "name_values" || DM x "record_values" || DM x "piece_values" || DM x "record_marks" || DM x "piece_marks" || DM x "leads" || DM x "namings" || DM x "reached")=false):(vf A).lookup x=none:=by
 simp only[ic]at h;obtain⟨⟨⟨⟨⟨⟨⟨h1,h2⟩,h3⟩,h4⟩,h5⟩,h6⟩,h7⟩,h8⟩:=h;simp[vf,ao,A7 h1,A7 h2,A7 h3,A7 h4,A7 h5,A7 h6,A7 h7,A7 h8]
section
variable{tt:TT}{te:TE}{A4:Oz}{σ:St}
def HG{H0 H':Hp}{l:Addr}{o:HO}(s:Same H0 H')(h:H' l=none):Same H0 (upd H' l o):=s.trans<|AK h
def FnW(H:Hp)(is:Oz)(p:YY)(f:rT)(i:Nat)(ys:Oj)(H':Hp):Prop:=Same H H'/\∃ ps:qX,ys=ps.map V.ref/\Paired (λq g=>H' q=some (.tup g)) ps (((is.take i).filter p).map f)
def JB{α :Type}{l:List α}{i:Nat}{x: α}(h:l[i]? =some x):l.take (i+1)=l.take i++[x]:=by
 obtain⟨g1,g2⟩:=ε.mp h;rw[<-g2,ki]
def FnW.yes{p:YY}{f:rT}(h:FnW H is p f i ys H')(hk:is[i]? =some k)(hp:p k=true)(ht:H' t=none):FnW H is p f (i+1) (ys++[.ref t]) (upd H' t<|.tup<|f k):=by
 obtain⟨s,ps,e,P⟩:=h;refine{HG s ht,ps++[t],by rw[e,ak];rfl,?_};rw[JB hk,mn,ak]
 have:([k].filter p).map f=[f k]:=by simp[hp]
 rw[this];exact Paired.snoc (Paired.mapP P λq g e=>AK ht _ _ e) AD
def FnW.no{is:Oz}{p:YY}{f:rT}{i k:Nat}{ys:Oj}{H':Hp}(h:FnW H is p f i ys H')(hk:is[i]? =some k)(hp:p k=false):FnW H is p f (i+1) ys H':=by
 obtain⟨s,ps,e,P⟩:=h;refine{s,ps,e,?_}
 have:([k].filter p).map f=[]:=by simp[hp]
 rw[JB hk,mn,ak,this,jg];exact P
def FnW.len{is:Oz}{p:YY}{f:rT}{i:Nat}{ys:Oj}{H':Hp}(h:FnW H is p f i ys H'):ys.length<=i:=by
 obtain⟨s,ps,e,P⟩:=h;rw[e,ζ,P.length,ζ];exact ψ (cm ..) (by rw[cz];lia)
def FnW.fin{is:Oz}{p:YY}{f:rT}{ys:Oj}{H':Hp}{l:Addr}(h:FnW H is p f is.length ys H')(hl:H' l=none):H l=none/\Same H (upd H' l<|.lst ys)/\FindsL (upd H' l<|.lst ys) l ((is.filter p).map f):=by
 obtain⟨s,ps,rfl,P⟩:=h;rw[bx]at P;exact{s.free hl,HG s hl,ps,AD,Paired.mapP P λq g e=>AK hl _ _ e}
def MK{b:Addr}{is:Oz}(p:YY)(f:rT)(hb:H b=some (.lst<|AQ is))(hn:is.length<=1000)
  (ht:∀ k∈is,∀ H',Same H H'->∀ QB:Bool->Hp->Prop,QB (p k) H'->tt (some (.int (k:Int))::CH A4 σ) H' QB)
  (he:∀ k∈is,p k=true->∀ H' (Q':VK),Same H H'->(∀ t,H' t=none->Q' (.ref t) (upd H' t<|.tup<|f k))->te (some (.int (k:Int))::CH A4 σ) H' Q') (hd:newF ((is.filter p).map f) H Q):D2 (FX K b) (AE 0) tt te 1 A4 σ H Q:=by
 have at':∀ {i:Nat} {x:V},(AQ is)[i]? =some x->∃ k,is[i]? =some k/\x=.int k:=λe=>by
  unfold AQ at e;rw[τ,ae]at e;obtain⟨k,h1,h2⟩:=e;exact⟨k,h1,h2.symm⟩
 have hl:(AQ is).length=is.length:=by simp[AQ]
 refine mC  (λi=>match is[i]? with
  |some k=>p k
  |none=>false) (CF _<|oA (ψ (bc hl) hn) rfl) (FnW H is p f) {Same.refl _,[],rfl,.nil} (λi ys H' _ h=>{SqL.of<|h.1 _ _ hb,h.len}) (λi x ys H' hx h QB qb=>?_) (λi x ys H' hx hp h=>?_) (λi x ys H' hx hp h=>?_) (λys H' h q hq=>?_)
 obtain⟨k,ek,rfl⟩:=at' hx;simp only[ek]at qb;exact ht k (θ ek) H' h.1 QB qb;obtain⟨k,ek,rfl⟩:=at' hx;simp only[ek]at hp;exact he k (θ ek) hp H' _ h.1 λt ht0=>h.yes ek hp ht0;obtain⟨k,ek,rfl⟩:=at' hx;simp only[ek]at hp;exact h.no ek hp;rw[hl]at h;obtain⟨h1,h2,h3⟩:=h.fin hq;exact hd q _ h1 h2 h3
def Q4{b:Addr}{xs:Oj}(p:YY)(hb:H b=some (.lst xs))(hn:xs.length<=1000)
  (ht:∀ i x,xs[i]? =some x->∀ H',Same H H'->∀ QB:Bool->Hp->Prop,QB (p i) H'->tt (some (.int (i:Int))::some x::CH A4 σ) H' QB) (hd:newL (AQ<|(ξ xs.length).filter p) H Q):D2 (KS K b) (E8 K 2<|DJ (AE 0) (DJ (AE 1) E7)) tt (DP 0) 2 A4 σ H Q:=by
 refine W8  p (CF _<|oA hn rfl) (λi ys H'=>Same H H'/\ys=AQ ((ξ i).filter p)) {Same.refl _,rfl} (λi ys H' z ⟨s,e⟩=>{SqL.of<|s _ _ hb,?_}) (λi ys H' t o ⟨s,e⟩ h=>{HG s h,e}) (λi x ys H' hx ⟨s,e⟩ QB qb=>ht i x hx H' s QB qb) (λi x ys H' hx hp ⟨s,e⟩=>{s,by rw[e];unfold AQ;rw[bt];simp[hp]}) (λi x ys H' hx hp ⟨s,e⟩=>{s,?_}) (λys H' hzz q hq=>?_);rw[e];unfold AQ;rw[ζ];exact ψ (cm ..) (by rw[cy];exact ρ _);rw[e];rw[bt];simp[hp];obtain⟨s,rfl⟩:=hzz;exact hd q _ (s.free hq) (HG s hq) AD
end
def ZW(h:RcV H v c):decide (v=.non)=c.isNone:=by
 cases c with
 |none=>rw[h];rfl
 |some c=>revert h;apply u2;rintro p q ⟨rfl,z⟩;rfl
def zsz{v:V}{c:NM}(h:NmV H v c):decide (v=.non)=c.isNone:=by
 cases c with
 |none=>rw[h];rfl
 |some c=>obtain⟨p,rfl,z⟩:=h;rfl
def zs0(h:PcV H v c):decide (v=.non)=c.isNone:=by
 cases c with
 |none=>rw[h];rfl
 |some c=>rw[h];rfl
example:(zs1,UF,n0,2):=by
 apply u5;rintro x A vw r c ⟨rfl,T,I,hc,q⟩;obtain⟨dx,e⟩:=I.ob
 have hr:r<vw.rc.length:=by
  unfold AX at hc;cases e2:vw.rc[r]? with
  |none=>rw[e2]at hc;cases hc
  |some _=>exact(ε.mp e2).1
 refine u2 ?_<|I.r.at hr;rintro us v ⟨e1,hl,ev,hv⟩;rw[hc]at hv;revert hv;apply u2;rintro p q' ⟨rfl,h1,h2⟩;exact y3 {e,T.cl,T.n2,_,UR,DC (SqL.of e1)  rfl ev (BM h1  rfl rfl q)}
example:(zs2,UE,nX,1):=by
 apply u3;rintro x A vw ⟨rfl,T,I,q⟩;obtain⟨dx,e⟩:=I.ob;obtain⟨us,e1,P⟩:=I.r
 have hl:=P.length;refine y3 {e,T.cl,T.n2,_,UR,{_,SqL.of e1},Q4 (λr=>(AX vw.rc r).isSome) e1 (oA (ψ (bc hl) I.ok.br) rfl) (λi v hv H' s QB qb=>?_) ?_};refine u2 ?_<|I.r.at  (hl ▸ ((ε.mp hv).1));rintro us' v' ⟨e1',z,ev,hr⟩;rw[e1]at e1';cases e1';rw[hv]at ev;obtain rfl:=μ ev;push_cast[];rw[ZW hr];simpa using qb;rw[hl];exact q
def ZX(n:Nat):decide ((0:Int)<(n:Int))=decide (0<n):=by simp
def zs3(n:Nat):decide ((1:Int)<(n:Int))=decide (1<n):=by
 lia
def zs4(n:Nat):decide ((n:Int)=(0:Int))=decide (n=0):=by simp
def HH(l:Oz):(AQ l).length=l.length:=by simp[AQ]
def ML(n:Nat)(f:Nat->Nat):((ξ n).map f).length=n:=by simp
example:(zs5,QQ,nY,1):=by
 apply u3;rintro x A vw ⟨rfl,T,I,q⟩;obtain⟨dx,e⟩:=I.ob
 have e1:=I.ng;refine y3 {e,T.cl,T.n7,_,yR,{_,SqL.of e1},Q4 (λp=>decide<|0<EO vw p) e1 (by rw[HH,ML];exact oA I.ok.bp rfl) (λi v hv H' s QB qb=>?_) ?_}
 have hi:=(ε.mp hv).1;rw[HH,ML]at hi;rw[UQ (NU hi)]at hv;obtain rfl:=μ hv;push_cast[];rw[ZX];exact qb;rw[HH,ML];exact q
example:(zs6,X1,nU,1):=by
 apply u4;rintro x ar al vw ⟨rfl,T,⟨dx,fs,e,l1⟩,⟨dx',fs',e',l2⟩,hr,hal,br,q⟩;rw[e]at e'
 have hr':=hr;cases e';obtain⟨us,e1,P⟩:=hr
 have hl:=P.length;refine y3 {e,T.cl,T.n2,_,l1,{_,SqL.of e1},(W8  (λr=>decide<|0<led vw r) (CF _<|oA (ψ (bc hl) br) rfl) (λi ys H'=>Same H H'/\Paired (RcV H') ys (((ξ i).filter λr=>decide<|0<led vw r).map (AX vw.rc))) {Same.refl _,.nil} (λi ys H' z ⟨s,e⟩=>{SqL.of<|s _ _ e1,?_}) (λi ys H' t o ⟨s,P'⟩ h=>{HG s h,Paired.mapP P' λv c=>RcV.keep (AK h).tk}) (λi v ys H' hv hzz QB qb=>?_) (λi v ys H' hv hp hzz=>?_) (λi v ys H' hv hp ⟨s,P'⟩=>{s,?_}) (λys H' hzz p hp=>?_))};rw[e.length,ζ];exact ψ (cm ..) (by rw[cy];exact ρ _);obtain⟨s,P'⟩:=hzz;refine y3 {s _ _ e,T.cl,T.n6,_,l2,Q3 (s _ _ hal) (hl ▸ ((ε.mp hv).1)) ?_};push_cast[];rw[ZX];exact qb;obtain⟨s,P'⟩:=hzz;refine u2 ?_<|hr'.at  (hl ▸ ((ε.mp hv).1));rintro us' v' ⟨e1',z,ev,hrv⟩;rw[e1]at e1';cases e1';rw[hv]at ev;obtain rfl:=μ ev;refine{s,?_};rw[bt,mn,ak]
 have:(([i].filter λr=>decide<|0<led vw r).map (AX vw.rc))=[AX vw.rc i]:=by simp[hp]
 rw[this];exact Paired.snoc P'<|RcV.keep s.tk hrv;rw[bt,mn,ak]
 have:(([i].filter λr=>decide<|0<led vw r).map (AX vw.rc))=[]:=by simp[hp]
 rw[this,jg];exact P';obtain⟨s,P'⟩:=hzz;rw[hl]at P';exact q p _ (s.free hp) (HG s hp) {ys,AD,Paired.mapP P' λv c=>RcV.keep (AK hp).tk}
def yS(h:MkV H0 v c)(q:Q (.bl<|decide<|c=some 1) H):CQ K v (.int 1) H Q:=by
 cases c with
 |none=>rw[h];exact q
 |some j=>rw[h];show Q _ _;simpa using q
def yT{H0:Hp}{v:V}{c:Option Int}{Q:VK}(h:MkV H0 v c)(q:Q (.bl<|!decide (c=some 1)) H):D3 K v (.int 1) H Q:=by
 cases c with
 |none=>rw[h];exact q
 |some j=>rw[h];show Q _ _;simpa using q
def KA{n:Nat}{p q r:YY}{f:rT}(h:∀ k,k<n->(p k&&q k)=r k):(((ξ n).filter p).filter q).map f=C9 n r f:=by
 rw[Bu]
 congr 1
 refine ud λk hk=>?_;rw[Bool.and_comm];exact h k<|ai.mp hk
def LH{n:Nat}{p:YY}(h:n<=100):((ξ n).filter p).length<=1000:=ψ (cm ..) (by rw[cy];exact oA h rfl)
def LJ{n k:Nat}{p:YY}(h:k∈(ξ n).filter p):k<n/\p k=true:=by
 obtain⟨h1,h2⟩:=dn.mp h;exact{ai.mp h1,h2}
def newF.of{fs:qT}{H1:Hp}(q:newF fs H Q)(s:Same H H1):newF fs H1 Q:=λl H' hl s' F=>q l H' (s.free hl) (s.trans s') F
def newL.of{xs:Oj}{H1:Hp}(q:newL xs H Q)(s:Same H H1):newL xs H1 Q:=λl H' hl s' F=>q l H' (s.free hl) (s.trans s') F
example:(zs7,X6,YL,2):=by
 apply u3;rintro x A vw ⟨rfl,T,I,q⟩;obtain⟨dx,e⟩:=I.ob
 have bp:=I.ok.bp;obtain⟨us,e1,P⟩:=I.pm
 have l2:=I.ok.l2
 have hl:=P.length;push_cast[YL,↓oN_];refine y3 {e,T.cl,T.n5,_,yQ,{_,SqL.of e1},Q4 (λp=>decide<|AX vw.pm p=some 1) e1 (by lia) (λi v hv H' s QB qb=>?_) λl H1 DH s1 el=>?_};refine u2 ?_<|I.pm.at  (hl ▸ ((ε.mp hv).1));rintro us' v' ⟨e1',z,ev,hr⟩;rw[e1]at e1';cases e1';rw[hv]at ev;obtain rfl:=μ ev;push_cast[];exact yS hr qb;rw[hl,l2]at el;refine .inl {{_,SqL.of el},MK (λp=>decide<|HZ vw p=0) (λp=>[.str "left",.str "piece",.int p]) el (LH bp) (λk hk H' s QB qb=>?_) (λk hk hp H' Q' s q'=>?_) ?_};obtain⟨hk,z⟩:=LJ hk
 have s':=s1.trans s;refine y3 {s' _ _ e,T.cl,T.n8,_,zsy,Q3 (s' _ _ I.rh) hk ?_};push_cast[];rw[zs4];exact qb;push_cast[];exact{by decide,q'};rw[KA λk z=>rfl];exact q.of s1
example:(zs8,X7,YM,2):=by
 apply u3;rintro x A vw ⟨rfl,T,I,q⟩;obtain⟨dx,e⟩:=I.ob
 have bp:=I.ok.br;obtain⟨us,e1,P⟩:=I.rm
 have l2:=I.ok.l1
 have hl:=P.length;push_cast[YM,↓oO_];refine y3 {e,T.cl,T.n4,_,yP,{_,SqL.of e1},Q4 (λp=>decide<|AX vw.rm p=some 1) e1 (by lia) (λi v hv H' s QB qb=>?_) λl H1 DH s1 el=>?_};refine u2 ?_<|I.rm.at  (hl ▸ ((ε.mp hv).1));rintro us' v' ⟨e1',z,ev,hr⟩;rw[e1]at e1';cases e1';rw[hv]at ev;obtain rfl:=μ ev;push_cast[];exact yS hr qb;rw[hl,l2]at el;refine .inl {{_,SqL.of el},MK (λr=>(AX vw.rc r).isNone) (λr=>[.str "marked",.int r]) el (LH bp) (λk hk H' s QB qb=>?_) (λk hk hp H' Q' s q'=>?_) ?_};obtain⟨hk,z⟩:=LJ hk
 have s':=s1.trans s;refine u2 ?_<|(I.same s').r.at hk;rintro us' v' ⟨e1',z,ev,hr⟩;refine y3 {s' _ _ e,T.cl,T.n2,_,UR,DC (SqL.of e1')  rfl ev ?_};push_cast[];rw[ZW hr];exact qb;push_cast[];exact{by decide,q'};rw[KA λk z=>rfl];exact q.of s1
def MM{α β :Type}{F: α -> β ->Prop}:∀ {l l':List α} {m m':List β},Paired F l m->Paired F l' m'->Paired F (l++l') (m++m')
 |_,_,_,_,.nil,h=>h
 |_,_,_,_,.cons x r,h=>.cons x<|MM r h
def DX{n:Nat}{p:YY}{f:rT}(h:n<=100):(C9 n p f).length<=100:=by
 unfold C9;rw[ζ];exact ψ (cm ..) (by rw[cy];exact h)
def JC{l1 l2:Addr}{f1 f2:qT}{Q:VK}(h1:FindsL H l1 f1)(h2:FindsL H l2 f2)(hn:f1.length+f2.length<=10000)(q:newF (f1++f2) H Q):BL K (.ref l1) (.ref l2) H Q:=by
 obtain⟨p2,e2,P2⟩:=h2;obtain⟨p1,e1,P1⟩:=h1;exact .inl (x4 l1 l2 _ _ {rfl,rfl,e1,e2,CF _ (by rw[ζ,ζ,P1.length,P2.length];exact oA hn rfl),λp hp=>(q p _ hp (AK hp) {_,by rw[AD,ak],Paired.mapP (MM P1 P2) λx f e=>AK hp _ _ e})})
def US(ok:D9 vw):(QH vw).length<=200/\(QI vw).length<=300/\(QJ vw).length<=200/\(QK vw).length<=200/\(QL vw).length<=100/\(QM vw).length<=100:=by
 unfold QH QI QJ QK QL QM;simp only[af];exact{ue (DX ok.bn) (DX ok.bn),ue (ue (DX ok.bp) (DX ok.bp)) (DX ok.br),ue (DX ok.br) (DX ok.bp),ue (DX ok.br) (DX ok.br),DX ok.bp,DX ok.br}
example:(zs9,UG,tO,1):=by
 apply u3;rintro x A vw ⟨rfl,T,I,q⟩;obtain⟨n1,n2,n3,z⟩:=US I.ok;exact x3 x A vw {rfl,T,I,λl1 H1 h1 s1 F1=>x3 x A vw {rfl,T,I.same s1,λl2 H2 h2 s2 F2=>JC (F1.same s2) F2 (by lia) λl3 H3 h3 s3 F3=>x3 x A vw {rfl,T,I.same<|(s1.trans s2).trans s3,λl4 H4 h4 s4 F4=>JC (F3.same s4) F4 (by simp only[af];lia) (q.of<|((s1.trans s2).trans s3).trans s4)}}}
example:(zta,X8,tP,1):=by
 apply u3;rintro x A vw ⟨rfl,T,I,q⟩;obtain⟨z,z,z,n1,n2,n3⟩:=US I.ok;exact x3 x A vw {rfl,T,I,λl1 H1 h1 s1 F1=>x3 x A vw {rfl,T,I.same s1,λl2 H2 h2 s2 F2=>JC (F1.same s2) F2 (by lia) λl3 H3 h3 s3 F3=>x3 x A vw {rfl,T,I.same<|(s1.trans s2).trans s3,λl4 H4 h4 s4 F4=>JC (F3.same s4) F4 (by simp only[af];lia) (q.of<|((s1.trans s2).trans s3).trans s4)}}}
example:(ztb,X4,YW,4):=by
 apply u3;rintro x A vw ⟨rfl,T,I,q⟩;obtain⟨dx,e⟩:=I.ob
 have br:=I.ok.br
 have bp:=I.ok.bp;push_cast[YW,↓p7_];refine y3 {e,T.cl,T.n6,_,ZV,{_,SqL.of I.ld},Q4 (λp=>decide<|0<led vw p) I.ld (by rw[HH,ML];exact oA br rfl) (λi v hv H' s QB qb=>?_) λl H1 DH s1 el=>?_}
 have hi:=(ε.mp hv).1;rw[HH,ML]at hi;rw[UQ (NU hi)]at hv;obtain rfl:=μ hv;push_cast[];rw[ZX];exact qb;rw[HH,ML]at el;push_cast[↓p8_];refine .inl {{_,SqL.of el},MK (λr=> !decide (AX vw.rm r=some 1)) (λr=>[.str "free",.str "record",.int r]) el (LH br) (λk hk H' s QB qb=>?_) (λk hk hp H' Q' s q'=>?_) ?_};obtain⟨hk,z⟩:=LJ hk
 have s':=s1.trans s;refine u2 ?_ ((I.same s').rm.at  (by rw[I.ok.l1];exact hk));rintro us' v' ⟨e1',z,ev,hr⟩;push_cast[CH];exact y3 {s' _ _ e,T.cl,T.n4,_,yP,DC (SqL.of e1')  rfl ev (yT hr qb)};push_cast[];exact{by decide,q'};rw[KA λk z=>rfl];intro l2 H2 CY s2 F2
 have I2:=I.same<|s1.trans s2;obtain⟨dx2,e2⟩:=I2.ob;push_cast[↓p9_];refine y2 {e2,MJ (by decide),x3 x A vw {rfl,T,I2,λl3 H3 hl3 s3 el3=>(.inl {{_,SqL.of el3},MK (λp=> !decide (AX vw.pm p=some 1)) (λp=>[.str "free",.str "piece",.int p]) el3 (LH bp) (λk hk H' s QB qb=>?_) (λk hk hp H' Q' s q'=>?_) ?_})}};obtain⟨hk,z⟩:=LJ hk
 have I':=(I2.same s3).same s;obtain⟨dx',e'⟩:=I'.ob;refine u2 ?_ (I'.pm.at  (by rw[I.ok.l2];exact hk));rintro us' v' ⟨e1',z,ev,hr⟩;push_cast[CH];exact y3 {e',T.cl,T.n5,_,yQ,DC (SqL.of e1')  rfl ev (yT hr qb)};push_cast[];exact{by decide,q'};rw[KA λk z=>rfl];intro l4 H4 hl4 s4 F4
 have n2:=DX (p:=λp=>decide (0<EO vw p) && !decide (AX vw.pm p=some 1)) (f:=λp=>[.str "free",.str "piece",.int p]) bp
 have n1:=DX (p:=λr=>decide (0<led vw r) && !decide (AX vw.rm r=some 1)) (f:=λr=>[.str "free",.str "record",.int r]) br;exact JC (F2.same<|s3.trans s4) F4 (by omega) (q.of<|((s1.trans s2).trans s3).trans s4)
example:(ztc,X3,YV,4):=by
 apply u3;rintro x A vw ⟨rfl,T,I,q⟩;obtain⟨dx,e⟩:=I.ob
 have br:=I.ok.br
 have bp:=I.ok.bp;push_cast[YV,↓p0_];refine y2 {e,MJ (by decide),x3 x A vw {rfl,T,I,λl1 H1 DH s1 el1=>(.inl {{_,SqL.of el1},MK (λp=>decide<|1<EO vw p) (λp=>[.str "shared",.int p]) el1 (LH bp) (λk hk H' s QB qb=>?_) (λk hk hp H' Q' s q'=>?_) ?_})}};obtain⟨hk,z⟩:=LJ hk
 have I':=(I.same s1).same s;obtain⟨dx',e'⟩:=I'.ob;refine y3 {e',T.cl,T.n7,_,yR,Q3 I'.ng hk ?_};push_cast[];rw[zs3];exact qb;push_cast[];exact{by decide,q'};rw[KA (r:=λp=>decide<|1<EO vw p) λk z=>by
  by_cases h:1<EO vw k;simp[h];exact ψ (by decide) h
  ·simp[h]]
 intro l2 H2 CY s2 F2
 have I2:=I.same<|s1.trans s2;obtain⟨dx2,e2⟩:=I2.ob;push_cast[↓p5_];refine y2 {e2,MJ (by decide),x3 x A vw {rfl,T,I2,λl3 H3 hl3 s3 el3=>(.inl {{_,SqL.of el3},MK (λp=>(AX vw.pc p).isNone) (λp=>[.str "empty",.int p]) el3 (LH bp) (λk hk H' s QB qb=>?_) (λk hk hp H' Q' s q'=>?_) ?_})}};obtain⟨hk,z⟩:=LJ hk
 have I':=(I2.same s3).same s;obtain⟨dx',e'⟩:=I'.ob;refine u2 ?_<|I'.p.at hk;rintro us' v' ⟨e1',z,ev,hr⟩;refine y3 {e',T.cl,T.n3,_,zsx,DC (SqL.of e1')  rfl ev ?_};push_cast[];rw[zs0 hr];exact qb;push_cast[];exact{by decide,q'};rw[KA λk z=>rfl];intro l4 H4 hl4 s4 F4
 have I4:=(I2.same s3).same s4;obtain⟨dx4,e4⟩:=I4.ob;push_cast[↓p6_];refine y2 {e4,MJ (by decide),x3 x A vw {rfl,T,I4,λl5 H5 hl5 s5 el5=>(.inl {{_,SqL.of el5},MK (JA vw) (λr=>[.str "few",.int r]) el5 (LH br) (λk hk H' s QB qb=>?_) (λk hk hp H' Q' s q'=>?_) ?_})}};obtain⟨hk,hs⟩:=LJ hk
 have I':=(I4.same s5).same s;obtain⟨dx',e'⟩:=I'.ob;obtain⟨c,hc⟩:=da.mp hs;refine y2 {e',MJ (by decide),x5 x A vw k c {rfl,T,I',hc,x3 _ _ _ {e',T.cl,T.n6,_,ZV,Q3 I'.ld hk ?_}}};unfold JA at qb;rw[hc]at qb;exact qb;push_cast[];exact{by decide,q'};rw[KA (r:=JA vw) λk z=>by
  unfold JA;cases AX _ k<;>simp]
 intro l6 H6 hl6 s6 F6
 have n2:=DX (p:=λp=>decide (0<EO vw p)&&(AX vw.pc p).isNone) (f:=λp=>[.str "empty",.int p]) bp
 have n1:=DX (p:=λp=>decide<|1<EO vw p) (f:=λp=>[.str "shared",.int p]) bp
 have n3:=DX (p:=JA vw) (f:=λr=>[.str "few",.int r]) br
 have s26:=((s3.trans s4).trans s5).trans s6;exact JC (F2.same s26) (F4.same<|s5.trans s6) (by lia) λl7 H7 hl7 s7 F7=>JC F7 (F6.same s7) (by simp only[af];lia) (q.of<|((s1.trans s2).trans s26).trans s7)
def TwoL(H:Hp)(l1 l2:Addr)(f1 f2:qT)(H':Hp):Prop:=SameBut (λy=>y=l1\/y=l2) H H'/\FindsL H' l1 f1/\FindsL H' l2 f2/\l1≠l2
def TwoL.same(h:TwoL H l1 l2 f1 f2 H1)(s:Same H1 H2):TwoL H l1 l2 f1 f2 H2:={h.1.trans s.sb,h.2.1.same s,h.2.2.1.same s,h.2.2.2}
def ztd(h:TwoL H l1 l2 f1 f2 H')(ht:H' t=some (.tup f)):TwoL H l1 l2 (f1++[f]) f2 (upd H' l1<|.lst<|((h.2.1).choose++[t]).map V.ref):=by
 obtain⟨s,F1,⟨p2,e2,P2⟩,n⟩:=h
 have k:∀ {y:Addr} {g:Oj},H' y=some (.tup g)->upd H' l1 (.lst<|(F1.choose++[t]).map V.ref) y=some _:=λe=>by rw[AH (BB e F1.choose_spec.1 (by intro z;cases z))];exact e
 exact{λy o e ny=>by rw[AH λz=>ny<|.inl z];exact s _ _ e ny,{_,AD,Paired.snoc (Paired.mapP F1.choose_spec.2 λq g e=>k e) (k ht)},{p2,by rw[AH n.symm];exact e2,Paired.mapP P2 λq g e=>k e},n}
def TwoL.flip{l1 l2:Addr}{f1 f2:qT}{H':Hp}(h:TwoL H l1 l2 f1 f2 H'):TwoL H l2 l1 f2 f1 H':={h.1.wide λz=>Or.symm,h.2.2.1,h.2.1,h.2.2.2.symm}
def UT{l1 l2 t:Addr}{f1 f2:qT}{f:Oj}{H':Hp}{Q:VK}(h:TwoL H l1 l2 f1 f2 H')(hn:f1.length<=1000)(ht:H' t=some (.tup f))(q:∀ H2,TwoL H l1 l2 (f1++[f]) f2 H2->Q .non H2):EL (.ref l1) [.ref t] H' Q:=by
 have:=q _<|ztd h ht;refine{_,h.2.1.choose_spec.1,χ (show(h.2.1.choose.map _).length<10000 by rw[ζ,h.2.1.choose_spec.2.length];exact oC hn rfl) (by decide),?_};rw[ak]at this;exact this
def yU:C9 (n+1) p f=if p n=true then C9 n p f++[f n]else C9 n p f:=by
 unfold C9;rw[bt];split;rename_i h;simp[h];rename_i h;simp[h]
def HI(is:Oz)(p:YY)(f:rT)(i:Nat):qT:=((is.take i).filter p).map f
def yV{is:Oz}{p:YY}{f:rT}{i k:Nat}(h:is[i]? =some k):HI is p f (i+1)=if p k=true then HI is p f i++[f k]else HI is p f i:=by
 unfold HI;rw[JB h];split;rename_i h;simp[h];rename_i h;simp[h]
def yW{is:Oz}{p:YY}{f:rT}{i:Nat}(h:is.length<=1000):(HI is p f i).length<=1000:=by
 unfold HI;rw[ζ];exact ψ (cm ..) (by rw[cz];lia)
def ViewAt.two(I:ViewAt a H0 x A vw)(s0:Same H0 H)(n1:H0 l1=none)(n2:H0 l2=none)(W:TwoL H l1 l2 f1 f2 H'):ViewAt a H' x A vw :=
 I.same λy o e=>W.1 _ _ (s0 _ _ e) λz=>by
  rcases z with z|z
  rw[z,n1]at e;cases e;rw[z,n2]at e;cases e
example:(zte,X5,qI,5):=by
 apply u3;rintro x A vw ⟨rfl,T,I,q⟩
 have br:=I.ok.br;refine{by decide,λl1 DH=>{by decide,λl2 CY=>?_}}
 have s2:Same H (upd _ l2<|.lst []):=(AK DH).trans (AK CY)
 have n12:=BE AD CY
 have k1:FindsL (upd (upd H l1<|.lst []) l2 (.lst [])) l1 []:={[],by rw[AH n12,AD];rfl,.nil}
 have k2:FindsL (upd (upd H l1<|.lst []) l2 (.lst [])) l2 []:={[],AD,.nil}
 have f2:=(AK DH).free CY;revert s2 k1 k2;generalize upd _ l2 _=H2;intro s2 k1 k2
 have I2:=I.same s2;obtain⟨dx2,e2⟩:=I2.ob;refine y2 {e2,MJ (by decide),x3 x A vw {rfl,T,I2,λl3 H3 hl3 s3 el3=>(.inl {{_,SqL.of el3},?_})}}
 have m1:l1≠l3:=λz=>by
  obtain⟨ps,e,u⟩:=k1;rw[z,hl3]at e;cases e
 have m2:l2≠l3:=λz=>by
  obtain⟨ps,e,u⟩:=k2;rw[z,hl3]at e;cases e
 have FU:=s2.trans s3
 let is:=(ξ vw.rc.length).filter λr=>(AX vw.rc r).isSome
 have hil:is.length<=1000:=LH br;refine FN  (λi σ H'=>TwoL H3 l1 l2 (HI is (GW vw) (λr=>[.str "many",.int r,.int<|led vw r]) i) (HI is (λr=>decide<|led vw r=0) (λr=>[.str "left",.str "record",.int r]) i) H'/\∃ y3 y4,σ=[some _,some _,some _,y3,y4]) {{SameBut.refl _,k1.same s3,k2.same s3,n12},x2 _ _ rfl} (by rintro i σ H' u ⟨W,u⟩;exact SqL.of<|W.1 _ _ el3 λz=>z.elim (λz=>m1 z.symm) λz=>m2 z.symm) (λi v σ H' hx hzz=>?_) (λσ H' hzz=>?_);obtain⟨W,y3,y4,eσ⟩:=hzz;subst eσ;unfold AQ at hx;rw[τ,ae]at hx;obtain⟨k,hk',rfl⟩:=hx;obtain⟨hk,hsm⟩:=LJ<|θ hk'
 have I':=I.two FU DH f2 W;obtain⟨dx',e'⟩:=I'.ob;obtain⟨c,hc⟩:=da.mp hsm;refine x3 _ _ _ {e',T.cl,T.n6,_,ZV,Q3 I'.ld hk ?_}
 have im:GW vw k=(decide (0<led vw k)&&decide ((led vw k)<c.1)):=by unfold GW;rw[hc]
 push_cast[↓qH_];rw[yV hk',yV hk',im];by_cases h0:led vw k=0;refine E5 (congrArg _ h0) ?_;push_cast[↓qB_];obtain⟨ps2,ep2,u⟩:=W.2.2.1;refine{.inl {rfl,_,SqL.of ep2},by decide,λt ht=>UT (W.same<|AK ht).flip (yW hil) AD λH4 W4=>?_};rw[decide_eq_false (h0.symm ▸ by decide),if_pos h0];exact W4.flip;refine DW (λz=>h0<|cg z) (y2 {e',MJ (by decide +kernel),x5 x A vw k c {rfl,T,I',hc,?_}});push_cast[];by_cases h1:(led vw k)<c.1;refine E5 h1 ?_;push_cast[↓qG_];obtain⟨ps2,ep2,u⟩:=W.2.1;refine{.inl {rfl,_,SqL.of ep2},by decide,λt ht=>UT (W.same<|AK ht) (yW hil) AD λH4 W4=>?_};rw[decide_eq_true (show 0<led vw k by exact s_ h0),decide_eq_true h1,if_neg h0];exact W4;refine DW h1 ?_;rw[decide_eq_false h1,J_,if_neg h0];exact W;obtain⟨W,y3,y4,eσ⟩:=hzz;subst eσ;rw[HH]at W
 have g1:HI is (GW vw) (λr=>[.str "many",.int r,.int<|led vw r]) is.length=C9 vw.rc.length (GW vw) (λr=>[.str "many",.int r,.int<|led vw r]):=by
  unfold HI;rw[bx];exact KA λk u=>by
   unfold GW;cases AX _ k<;>simp
 have g2:HI is (λr=>decide<|led vw r=0) (λr=>[.str "left",.str "record",.int r]) is.length=C9 vw.rc.length (λr=>(AX vw.rc r).isSome&&decide (led vw r=0)) (λr=>[.str "left",.str "record",.int r]):=by
  unfold HI;rw[bx];exact KA λk u=>rfl
 rw[g1,g2]at W
 have n1:=DX (p:=GW vw) (f:=λr=>[.str "many",.int r,.int<|led vw r]) br
 have n2:=DX (p:=λr=>(AX vw.rc r).isSome&&decide (led vw r=0)) (f:=λr=>[.str "left",.str "record",.int r]) br;exact JC W.2.1 W.2.2.1 (by lia) (q.of λy o e=>W.1 _ _ (FU _ _ e) λz=>by
  rcases z with z|z
  rw[z,DH]at e;cases e;rw[z,f2]at e;cases e)
def NV(vw:Vw)(i:Nat)(s:Str):Bool:=(ξ i).any λj=>match AX vw.nm j with
  |none=>false
  |some d=>decide<|d.1=s
structure NmW(H3:Hp)(vw:Vw)(l1 l2 sn:Addr)(i:Nat)(lo tw:qT)(j:Nat)(H':Hp):Prop where
 s:SameBut (λy=>y=l1\/y=l2\/y=sn) H3 H'
 f1:FindsL H' l1 lo
 f2:FindsL H' l2 tw
 d:∃ kvs:rR,H' sn=some (.dK kvs)/\(∀ s:Str,(A5 kvs<|.inr s).isSome=NV vw j s)/\kvs.length<=j
def NmW.two{H3:Hp}{vw:Vw}{l1 l2 sn:Addr}{i j:Nat}{lo tw lo' tw':qT}{H' H2:Hp}(h:NmW H3 vw l1 l2 sn i lo tw j H')(n1:sn≠l1)(n2:sn≠l2)(W:TwoL H' l1 l2 lo' tw' H2):NmW H3 vw l1 l2 sn i lo' tw' j H2:=by
 obtain⟨kvs,e,r⟩:=h.d;exact{h.s.trans<|W.1.wide λy z=>z.elim .inl λz=>.inr<|.inl z,W.2.1,W.2.2.1,{_,W.1 _ _ e λz=>z.elim n1 n2,r}}
def NmW.same{H3:Hp}{vw:Vw}{l1 l2 sn:Addr}{i j:Nat}{lo tw:qT}{H' H2:Hp}(h:NmW H3 vw l1 l2 sn i lo tw j H')(s:Same H' H2):NmW H3 vw l1 l2 sn i lo tw j H2:=by
 obtain⟨kvs,e,r⟩:=h.d;exact{h.s.trans s.sb,h.f1.same s,h.f2.same s,{_,s _ _ e,r}}
example:(ztf,X2,oM,6):=by
  apply u3;rintro x A vw ⟨rfl,T,I,q⟩
  have bn:=I.ok.bn;refine{by decide,λl1 DH=>{by decide,λl2 CY sn hsn=>?_}}
  have n12:=BE AD CY
  have s2:Same H (upd (upd H l1<|.lst []) l2 (.lst [])):=(AK DH).trans (AK CY)
  have k1:FindsL (upd (upd H l1<|.lst []) l2 (.lst [])) l1 []:={[],by rw[AH n12,AD];rfl,.nil}
  have k2:FindsL (upd (upd H l1<|.lst []) l2 (.lst [])) l2 []:={[],AD,.nil}
  have f2:=(AK DH).free CY;revert hsn s2 k1 k2;generalize upd (upd H l1<|.lst []) l2 (.lst [])=H2;intro hsn s2 k1 k2
  have fsn:=s2.free hsn;obtain⟨H3,zz0,s3,e3⟩:=ES  hsn;rw[zz0]
  have FU:=s2.trans s3
  have I3:=I.same FU;obtain⟨dx3,ob3⟩:=I3.ob;obtain⟨us,en,P⟩:=I3.n
  have hl:=P.length;refine y3 {ob3,T.cl,T.n1,_,zsw,{_,SqL.of en},?_}
  have m1:sn≠l1:=λz=>by
    obtain⟨ps,e,_⟩:=k1;rw[<-z,hsn]at e;cases e
  have m2:sn≠l2:=λz=>by
    obtain⟨ps,e,_⟩:=k2;rw[<-z,hsn]at e;cases e
  have vi:∀ {H':Hp} {i j:Nat} {lo tw:qT},NmW H3 vw l1 l2 sn i lo tw j H'->ViewAt a H' x A vw:=λh=>I.same λy o e=>h.s _ _ (FU _ _ e) λz=>by
    rcases z with z|z|z
    ·rw[z,DH]at e;cases e
    ·rw[z,f2]at e;cases e
    ·rw[z,fsn]at e;cases e
  have nA:A.n≠l1/\A.n≠l2/\A.n≠sn:=by
    obtain⟨us',e0,_⟩:=I.n;exact{λz=>(by rw[z,DH]at e0;cases e0),λz=>(by rw[z,f2]at e0;cases e0),λz=>(by rw[z,fsn]at e0;cases e0)}
  let LO:=λi=>C9 i (HE vw) (λk=>[.str "lost",.int k])
  let TW:=λi=>C9 i (IA vw) (λk=>[.str "twice",.int k])
  refine WZ (xs:=us) (λi σ H'=>NmW H3 vw l1 l2 sn i (LO i) (TW i) i H'/\∃ y4 y5,σ=[some (.ref x),some<|.ref l1,some<|.ref l2,some<|.ref sn,y4,y5]) {{SameBut.refl _,k1.same s3,k2.same s3,[],e3,λ_=>rfl,ρ _},x2 _ _ rfl} (λi σ H' _ ⟨W,_⟩=>SqL.of<|W.s _ _ en λz=>z.elim nA.1 λz=>z.elim nA.2.1 nA.2.2) (λi v σ H' t hx hzz ht=>?_) (λσ H' hzz=>?_)
  · obtain⟨W0,y4,y5,eσ⟩:=hzz
    subst eσ
    have hi:=(ε.mp hx).1;push_cast[];refine{_,SqT.of AD,rfl,?_}
    have W:=W0.same<|AK (o:=.tup [.int (i:Int),v]) ht;revert W;generalize upd H' t (.tup [.int (i:Int),v])=H4;intro W;clear W0
    have I4:=vi W;obtain⟨dx4,ob4⟩:=I4.ob;refine u2 ?_<|I4.n.at (k:=i) (hl ▸ hi);rintro us' v' ⟨e1',_,ev,hr⟩;rw[W.s _ _ en (λz=>z.elim nA.1 λz=>z.elim nA.2.1 nA.2.2)]at e1';cases e1';rw[hx]at ev;cases ev
    have bi:i<=100:=by lia
    have hLO:LO (i+1)=if HE vw i=true then LO i++[[.str "lost",.int i]]else LO i:=yU
    have hTW:TW (i+1)=if IA vw i=true then TW i++[[.str "twice",.int i]]else TW i:=yU
    have n1:(LO i).length<=100:=DX bi
    have n2:(TW i).length<=100:=DX bi
    have sS:∀ s:Str,NV vw (i+1) s=(NV vw i s||match AX vw.nm i with
      |none=>false
      |some d=>decide<|d.1=s):=λs=>by
      unfold NV;rw[bt,Il];simp
    push_cast[↓oJ_];cases hc:AX vw.nm i with
    |none =>
      rw[hc]at hr;refine DW (λz=>z hr) ?_
      have z1:HE vw i=false:=by unfold HE;rw[hc]
      have z2:IA vw i=false:=by unfold IA;rw[hc]
      rw[hLO,hTW,z1,z2,if_neg aw,if_neg aw];obtain⟨kvs,ek,hv,FL⟩:=W.d;exact{W.s,W.f1,W.f2,kvs,ek,λs=>by rw[hv,sS,hc,qz],bz FL}
    | some c =>
      rw[hc]at hr;obtain⟨p,rfl,hp⟩:=hr;refine E5 (by simp) ?_
      have hm:some c∈vw.nm:=by
        unfold AX at hc;cases e2:vw.nm[i]? with
        |none=>rw[e2]at hc;cases hc
        |some y =>
          rw[e2]at hc
          have hc:y=some c:=hc;exact hc ▸ θ e2
      have hcr:=(I.ok.n1 c hm).1
      have z1:HE vw i=(AX vw.rc c.2).isNone:=by unfold HE;rw[hc]
      have z2:IA vw i=NV vw i c.1:=by unfold IA NV;simp only[hc]<;>rfl
      have tail:∀ {H5:Hp},NmW H3 vw l1 l2 sn i (LO<|i+1) (TW i) i H5->H5 p=some (.tup [.str c.1,.int c.2])->AI (YK K a (λ_=>E) (λ_=>E)) (UJ K a (λ_=>E) (λ_=>E)) { nx:=λσ H'=>NmW H3 vw l1 l2 sn (i+1) (LO<|i+1) (TW<|i+1) (i+1) H'/\∃ y4 y5,σ=[some (V.ref x),some<|V.ref l1,some<|V.ref l2,some<|V.ref sn,y4,y5],rt:=Q,bk:=UK K a (λx=>E) (λx=>E) (AW Q),ct:=λσ H'=>NmW H3 vw l1 l2 sn (i+1) (LO<|i+1) (TW<|i+1) (i+1) H'/\∃ y4 y5,σ=[some (V.ref x),some<|V.ref l1,some<|V.ref l2,some<|V.ref sn,y4,y5] } [some (V.ref x),some<|V.ref l1,some<|V.ref l2,some<|V.ref sn,some<|V.int ↑i,some<|V.ref p] H5:=λ{H5} W5 hp5=>by
        have last:∀ {H6:Hp},NmW H3 vw l1 l2 sn i (LO<|i+1) (TW<|i+1) i H6->H6 p=some (.tup [.str c.1,.int c.2])->UJ K a (λ_=>E) (λ_=>E) { nx:=λσ H'=>NmW H3 vw l1 l2 sn (i+1) (LO<|i+1) (TW<|i+1) (i+1) H'/\∃ y4 y5,σ=[some (V.ref x),some<|V.ref l1,some<|V.ref l2,some<|V.ref sn,y4,y5],rt:=Q,bk:=UK K a (λx=>E) (λx=>E) (AW Q),ct:=λσ H'=>NmW H3 vw l1 l2 sn (i+1) (LO<|i+1) (TW<|i+1) (i+1) H'/\∃ y4 y5,σ=[some (V.ref x),some<|V.ref l1,some<|V.ref l2,some<|V.ref sn,y4,y5] } [some (V.ref x),some<|V.ref l1,some<|V.ref l2,some<|V.ref sn,some<|V.int ↑i,some<|V.ref p] H6:=λ{H6} W6 hp6=>by
          obtain⟨kvs,ek,hv,FL⟩:=W6.d;push_cast[↓UJ_];refine BM hp6 (n:=0) rfl rfl {_,pS ek (by lia),?_}
          have s7:SameBut (· =sn) H6 (upd H6 sn<|.dK<|B0 kvs (.inr c.1) (.bl true)):=λy o e ny=>by rw[AH ny];exact e
          obtain⟨q1,g1,P1⟩:=W6.f1;obtain⟨q2,g2,P2⟩:=W6.f2
          have kt:∀ {y:Addr} {g:Oj},H6 y=some (.tup g)->upd H6 sn (.dK<|B0 kvs (.inr c.1) (.bl true)) y=some (.tup g):=λe=>s7 _ _ e (BB e ek (by intro z;cases z));refine{W6.s.trans<|s7.wide λy z=>.inr<|.inr z,{q1,s7 _ _ g1 m1.symm,Paired.mapP P1 λq g e=>kt e},{q2,s7 _ _ g2 m2.symm,Paired.mapP P2 λq g e=>kt e},_,AD,λs=>?_,?_}
          · rw[F8,sS,hc,<-hv]
            by_cases z:s=c.1
            ·subst z;simp
            · rw[if_neg (by simpa using z)]
              have:decide (c.1=s)=false:=by simpa using λu=>z<|Eq.symm u
              simp only[this,qz]
          · have:=HU kvs (.inr c.1) (.bl true)
            lia
        obtain⟨kvs,ek,hv,FL⟩:=W5.d;push_cast[↓YK_];refine BM hp5 (n:=0) rfl rfl {_,dS ek,?_};rw[hv,<-z2];cases hz:IA vw i with
        | true =>
          refine E5 rfl ?_;push_cast[↓oI_];obtain⟨ps2,ep2,_⟩:=W5.f2;refine{.inl {rfl,_,SqL.of ep2},by decide,λt2 ht2=>?_}
          have W5':=W5.same<|AK (o:=.tup [V.str (cu "twice"),V.int ↑i]) ht2;refine UT (H:=upd H5 t2<|.tup [V.str (cu "twice"),V.int ↑i]) (l2:=l1) (f2:=LO<|i+1) {SameBut.refl _,W5'.f2,W5'.f1,n12.symm} (by lia) AD λH6 W6=>?_
          have W7:=W5'.two m1 m2 W6.flip;rw[show TW i++[[V.str (cu "twice"),V.int ↑i]]=TW (i+1) by rw[hTW,hz,if_pos rfl]]at W7;exact last W7 (W6.1 _ _ (AK ht2 _ _ hp5) λz=>by
            rcases z with z|z
            · obtain⟨ps,e,_⟩:=W5.f2
              rw[<-z,hp5]at e;cases e
            · obtain⟨ps,e,_⟩:=W5.f1
              rw[<-z,hp5]at e;cases e)
        |false =>
          refine DW aw ?_;rw[show TW i=TW (i+1) by rw[hTW,hz,if_neg aw]]at W5;exact last W5 hp5
      refine u2 ?_<|I4.r.at hcr;rintro us2 v2 ⟨e2,_,ev2,RF⟩;push_cast[↓oF_];refine y3 {ob4,T.cl,T.n2,_,UR,BM hp (n:=1) rfl rfl (DC (SqL.of e2) (n:=c.2) rfl ev2 ?_)};push_cast[]
      have JK:=ZW RF;by_cases hz:v2=.non
      · refine E5 hz ?_
        have hz':HE vw i=true:=by rw[z1,<-JK];simpa using hz
        push_cast[↓oE_];obtain⟨ps2,ep2,_⟩:=W.f1;refine{.inl {rfl,_,SqL.of ep2},by decide,λt2 ht2=>?_}
        have W5':=W.same<|AK (o:=.tup [V.str (cu "lost"),V.int ↑i]) ht2;refine UT (H:=upd H4 t2<|.tup [V.str (cu "lost"),V.int ↑i]) (l2:=l2) (f2:=TW i) {SameBut.refl _,W5'.f1,W5'.f2,n12} (by lia) AD λH6 W6=>?_
        have W7:=W5'.two m1 m2 W6;rw[show LO i++[[V.str (cu "lost"),V.int ↑i]]=LO (i+1) by rw[hLO,hz',if_pos rfl]]at W7;exact tail W7 (W6.1 _ _ (AK ht2 _ _ hp) λz=>by
            rcases z with z|z
            · obtain⟨ps,e,_⟩:=W.f1
              rw[<-z,hp]at e;cases e
            · obtain⟨ps,e,_⟩:=W.f2
              rw[<-z,hp]at e;cases e)
      · refine DW hz ?_
        have hz':HE vw i=false:=by rw[z1,<-JK];simpa using hz
        rw[show LO i=LO (i+1) by rw[hLO,hz',if_neg aw]]at W;exact tail W hp
  · obtain⟨W,y4,y5,eσ⟩:=hzz
    subst eσ;push_cast[↓UK_];rw[hl]at W;exact JC W.f1 W.f2 (by have:=DX (p:=HE vw) (f:=λk=>[.str "lost",.int k]) bn;have:=DX (p:=IA vw) (f:=λk=>[.str "twice",.int k]) bn;show(C9 _ _ _).length+(C9 _ _ _).length<=_;lia) (q.of λy o e=>W.s _ _ (FU _ _ e) λz=>by
      rcases z with z|z|z
      ·rw[z,DH]at e;cases e
      ·rw[z,f2]at e;cases e
      ·rw[z,fsn]at e;cases e)
def ztg{n b:Nat}(h:b<n):HP n (b:Int)=some b:=by
 unfold HP;rw[if_pos (i0),if_pos<|dr.mpr h,cb]
def KB{α β :Type}{F: α -> β ->Prop}:∀ {l:List α} {m:List β} {i:Nat} {x: α},Paired F l m->l[i]? =some x->∃ y,m[i]? =some y/\F x y
 |_,_,_,_,.nil,h=>by simp at h
 |_,_,0,_,.cons h _,e=>by obtain rfl:=μ e;exact⟨_,rfl,h⟩
 |_,_,i+1,_,.cons _ r,e=>by
  obtain⟨y,h1,h2⟩:=KB  r (e);exact⟨y,h1,h2⟩
example:(zth,LE,tQ,2):=by
 apply u8;rintro gp cl pl w rows m ts ps ⟨rfl,TP,P,CD,Pt,hin,hn,q⟩
 have hl:=Pt.length;refine .inl {{_,SqL.of CD},lS  (CF _ (by rw[ζ];exact oA (ψ (bc hl) hn) rfl)) (λi σ' ys H'=>Same H H'/\ys=(ps.take i).map (λij=>LD rows ij.1 ij.2)/\∃ y0 y1,σ'=[y0,y1,some<|.ref gp]) {Same.refl _,rfl,x2 none none rfl} (λi σ' ys H' ⟨s,e,_⟩=>{SqL.of<|s _ _ CD,by rw[e,ζ,cz];lia}) (λi x σ' ys H' hi hx hzz=>?_) (λσ' ys H' hzz p hp=>?_)}
 ·obtain⟨s,e,y0,y1,eσ⟩:=hzz;subst eσ;rw[ζ]at hi;rw[τ,ae]at hx;obtain⟨t,ht,rfl⟩:=hx;obtain⟨ij,eij,et⟩:=KB Pt ht
  have hb:=hin ij<|θ eij
  have P':=P.same s;obtain⟨dp,MP⟩:=P'.ob;push_cast[];refine{_,SqT.of<|s _ _ et,rfl,y2 {rfl,y2 {rfl,rfl,({λy H4=>Same H H4/\y=LD rows ij.1 ij.2,λy H4 ⟨s4,ey⟩=>Xy (by rw[ζ];exact hi) {s4,?_},y2 {MP,Q1 _ _ _,x6 gp cl w rows m ij.1 {rfl,TP,P',λb' row eb er l1 DH=>?_,λz=>by lia}}})}}}
  ·rw[ey,e,JB eij,ak]
   rfl
  ·obtain rfl:ij.1=b':=cg eb
   have ej:=η   (χ hb.2<|bc (P.wd row<|θ er).symm);refine DC (SqL.of AD)  rfl ej {HG s DH,?_};unfold LD;rw[er]
   show _=(row[ij.2]?).getD .non;rw[ej];rfl
 ·obtain⟨s,e,v⟩:=hzz;rw[ζ,hl,bx]at e;subst e;exact q p _ (s.free hp) (HG s hp) AD
example:(zti,QN,YN,4):=by
 apply u3;rintro many nl ks ⟨rfl,hnl,hks,hm,hkn,q⟩;push_cast[YN,↓oP_]
 have e0:(ξ many).map (λx=>V.int 0)=AQ ((ξ many).map λk=>([]).count k):=by
  unfold AQ;rw[pr]
  rfl
 refine{i0,by lia,Tz (CF _<|oA hm rfl) (λx=>V.int 0) (λj hj Q' q'=>q') λl hl=>?_};rw[e0]
 have s1:=AK (o:=.lst<|AQ<|(ξ many).map λk=>([]).count k) hl
 have e1:upd H l _ l=some (.lst<|AQ<|(ξ many).map λk=>([]).count k):=AD;revert s1 e1;refine λs1 e1=>.inl {{_,SqL.of<|s1 _ _ hnl},FN  (λi σ H'=>(Same H H'/\H' l=some (.lst<|AQ<|(ξ _).map λk=>(ks.take i).count k))/\∃ y,σ=[some _,some _,some _,y]) {⟨s1,e1⟩,_,rfl} (by rintro i σ H' x ⟨⟨s,x⟩,x⟩;exact SqL.of<|s _ _ hnl) (λi v σ H' hx hzz=>?_) (λσ H' hzz=>?_)};obtain⟨⟨s,e⟩,y,eσ⟩:=hzz;subst eσ;unfold AQ at hx;rw[τ,ae]at hx;obtain⟨k,hk',rfl⟩:=hx
 have hk:=hks k<|θ hk';push_cast[↓oQ_];refine x2 _ k {rfl,SqL.of e,_,UQ<|NU hk,?_};push_cast[];refine x4 l _ _ k {rfl,rfl,e,ztg (by rw[HH,ML];exact hk),λy o e=>by rw[AH (BE e hl)];exact s _ _ e,?_};rw[AD]
 congr 2
 unfold AQ;refine xq λj=>?_;by_cases hj:j<many;rw[τ,NU hj,JB hk',List.count_append];by_cases z:k=j;subst z;rw[fz (by simpa using hj)];simp;rw[ia z,τ,NU hj]
 have:List.count j [k]=0:=by simp[z]
 rw[this]
 rfl;rw[bq (by simp;exact ck hj),bq (by simp;exact ck hj)];obtain⟨⟨s,e⟩,y,eσ⟩:=hzz;subst eσ;rw[HH,bx]at e;exact q l _ hl s e
example:(ztj,UD,oV,3):=by
 apply u2;rintro rl cs ⟨rfl,⟨us,JI,P⟩,hcs,hp,q⟩
 have hl:=P.length;refine{by decide,λl hl0=>?_}
 have s1:=AK (o:=.lst []) hl0
 have e1:upd H l (.lst []) l=some (.lst<|AQ<|EN []):=AD;revert s1 e1;intro s1 e1
 have pl:∀ i,(EN<|cs.take i).length<=i * 20:=λi=>by
  induction i with
  |zero=>exact ρ _
  | succ i ih =>
   cases e:cs[i]? with
   |none =>
    rw[gb (bz<|wz.mp e)];rw[gb ((wz.mp e))]at ih
    lia
   | some c =>
    rw[JB e];unfold EN at ih ⊢;rw[List.flatMap_append,af]
    have:(List.flatMap LB [c]).length<=20:=by
     cases c with
     |none=>simp[LB]
     |some c =>
      simp[LB];exact hp c<|θ e
    lia
 refine .inl {{_,SqL.of<|s1 _ _ JI},FN  (λi σ H'=>(Same H H'/\H' l=some (.lst<|AQ<|EN<|cs.take i))/\∃ y,σ=[some (.ref rl),some<|.ref l,y]) {⟨s1,e1⟩,_,rfl} (λi σ H' x {⟨s,_⟩,_}=>SqL.of<|s _ _ JI) (λi v σ H' hx hzz=>?_) (λσ H' hzz=>?_)}
 ·obtain⟨⟨s,e⟩,y,eσ⟩:=hzz;subst eσ;obtain⟨c,ec,hr⟩:=KB P hx
  have hi:=(ε.mp hx).1
  have pli:=pl i
  have ep:EN (cs.take<|i+1)=EN (cs.take i)++LB c:=by
   rw[JB ec];unfold EN;simp
  rw[ep];push_cast[↓oU_];cases c with
  |none =>
   refine DW (λz=>z hr) ?_;rw[show LB none=[]from rfl,jg];exact⟨s,e⟩
  |some c =>
   revert hr;apply u2;rintro p t ⟨rfl,h1,h2⟩;push_cast[↓oR_]
   have hc:=hp c<|θ ec;refine{.inl {rfl,_,SqL.of e},BM (s _ _ h1)  rfl rfl (x4 l t _ _ {rfl,rfl,e,SqT.of<|s _ _ h2,CF _ (by rw[HH,HH];lia),{λy o e=>by rw[AH (BE e hl0)];exact s _ _ e,?_}})};rw[AD];unfold AQ;rw[ak]
   rfl
 ·obtain⟨⟨s,e⟩,y,eσ⟩:=hzz;subst eσ;rw[hl,bx]at e;exact q l _ hl0 s e
def HJ{α :Type}{l l':List α}{a k:Nat}(h:l.length=a):(l++l')[a+k]? =l'[k]? :=by
 subst h;rw[cf (uq _ _),Nat.add_sub_cancel_left]
def UU:∀ {rows:qT} {b j:Nat},(∀ r∈rows,r.length=w)->b<rows.length->j<w->rows.flatten[b*w+j]? =(rows[b]?).bind (·[j]?)
 | [],b,j,_,hb,_=>by simp at hb
 |r::rs,0,j,h,_,hj=>by
  rw[vy,mv,ii,ba<|χ hj<|bc (h r ω).symm]
  rfl
 |r::rs,b+1,j,h,hb,hj=>by
  rw[mf,ua<|b*w,eh,ii,HJ<|h r ω,UU (λr hr=>h r<|υ _ hr) (by simpa using hb) hj]
  rfl
def yX(h:∀ r∈rows,r.length=w)(hw:1<=w)(hk:k<n*w)(hb:b+n<=rows.length):(rows.flatten[b*w+k]?)=some (LD rows (b+k/w) (k%w))/\b+k/w<rows.length/\k%w<w:=by
 have h2:k%w<w:=sx _<|hw
 have h1:=kd (by rw[dh];exact hk)
 have e:b*w+k=(b+k/w)*w+k%w:=by
  rw[dz,eh,Hi]
 refine{?_,by lia,h2};rw[e,UU h (by lia) h2];unfold LD
 have hb':b+k/w<rows.length:=by lia
 rw[η _]
 show(rows[b+k/w])[k%w]? =some (((rows[b+k/w])[k%w]?).getD _);rw[η (χ h2<|bc (h _<|pq _).symm)]
 rfl
def ztk(h:∀ r∈rows,r.length=w)(hw:1<=w)(hb:b+n<=rows.length)(e:rows.flatten=pre++vs++post)(hp:pre.length=b*w)(hv:vs.length=n*w):(ξ<|n*w).map (λk=>LD rows (b+k/w) (k%w))=vs:=by
 refine xq λk=>?_;by_cases hk:k<n*w
 ·rw[τ,vp hk]
  show some _=_;rw[<-((yX h hw hk hb).1),e,gr,HJ hp,ba<|hv ▸ hk]
 ·rw[bq (by simp;exact ck hk),bq<|hv ▸ ck hk]
def ztl(hn:N<=1000)
  (he:∀ k,k<N->∀ H' (Q':VK),Same H H'->(∀ t,H' t=none->Q' (.ref t) (upd H' t<|.tup [.int ((b+k/w:Nat):Int),.int ((k%w:Nat):Int)]))->te (some (.int (k:Int))::CH A4 σ) H' Q')
  (hd:∀ (pl:Addr) (ts:qX) (H':Hp),H pl=none->Same H H'->H' pl=some (.lst<|ts.map V.ref)->Paired (λt (ij:Nat × Nat)=>H' t=some (.tup [.int ij.1,.int ij.2])) ts ((ξ N).map λk=>(b+k/w,k%w))->Q (.ref pl) H'):D2 (E9 0 N) (AE 0) CO te 1 A4 σ H Q:=by
 refine KR (CF _<|oA hn rfl) (λi ys H'=>Same H H'/\∃ ts:List _,ys=ts.map V.ref/\Paired (λt (ij:Nat × Nat)=>H' t=some (.tup [.int ij.1,.int ij.2])) ts ((ξ i).map λk=>(b+k/w,k%w))) {Same.refl _,[],rfl,.nil} (λi ys H' hi z hzz=>?_) (λys H' z hzz p hp=>?_);obtain⟨s,ts,e,P⟩:=hzz;rw[uc];refine he i hi H' _ s λt ht=>{HG s ht,ts++[t],by rw[e,ak];rfl,?_}
 rw[bt,ak];exact Paired.snoc (Paired.mapP P λt ij e=>AK ht _ _ e) AD;obtain⟨s,ts,rfl,P⟩:=hzz;exact hd p ts _ (s.free hp) (HG s hp) AD (Paired.mapP P λt ij e=>AK hp _ _ e)
def Q5{n b w m:Nat}{gp cl:Addr}{rows:qT}{te:TE}{A4:Oz}{σ:St}{QV:VK}{pre us post:Oj}(TP:DL K a)(P:PlankAt a H gp cl w rows m)(hw:1<=w)(hnw:n*w<=1000)(hb:b+n<=rows.length)(e:rows.flatten=pre++us++post)(hp:pre.length=b*w)(hv:us.length=n*w)
  (he:∀ k,k<n*w->∀ H' (Q':VK),Same H H'->(∀ t,H' t=none->Q' (.ref t) (upd H' t<|.tup [.int ((b+k/w:Nat):Int),.int ((k%w:Nat):Int)]))->te (some (.int (k:Int))::CH A4 σ) H' Q')
  (q:newL us H QV):D2 (E9 0<|n*w) (AE 0) CO te 1 A4 σ H (λv H2=>LE K a [.ref gp,v] H2 QV E):=by
 refine ztl hnw he λpl ts H' CD s epl Pt=>(x8 gp cl pl w _ m ts _ {rfl,TP,P.same s,epl,Pt,λij hij=>?_,by rw[ζ,cy];exact hnw,?_})
 obtain⟨k,hk,rfl⟩:=av.mp hij;exact(yX P.wd hw (ai.mp hk) hb).2;rw[pr,show((ξ _).map ((λij:Nat × Nat=>LD _ ij.1 ij.2) ∘ λk=>(b+k/w,k%w)))=us from(ztk P.wd hw hb e hp hv)];exact q.of s
section
variable{u1 u2 u3 u4 u5 u6:V}{CN:rP}
def ztm:(("name_values",u1)::CN:rP).lookup ("name_values":Str)=some u1:=rfl
def yY:(("name_values",u1)::("record_values",u2)::CN:rP).lookup ("record_values":Str)=some u2:=by
 simp[ao,A7 (a:="record_values") (b:="name_values") (by decide)]
def ztn:(("name_values",u1)::("record_values",u2)::("piece_values",u3)::("record_marks",u4)::("piece_marks",u5)::("leads",u6)::CN:rP).lookup ("leads":Str)=some u6:=by
 simp[ao,A7 (a:="leads") (b:="name_values") (by decide),A7 (a:="leads") (b:="record_values") (by decide),A7 (a:="leads") (b:="piece_values") (by decide),A7 (a:="leads") (b:="record_marks") (by decide),A7 (a:="leads") (b:="piece_marks") (by decide)]
end
def NW(ks:qZ)(as:qX):rP:=List.zipWith (λk l=>(k,V.ref l)) ks as
def yZ:∀ {ks:qZ} {as:qX},ks.length=as.length->ks.all (λg=> !DM g f)=true->BO f (.ref l) (NW ks as)=NW (ks++[f]) (as++[l])
 | [],[],_,_=>rfl
 |k::ks,b::as,h,e=>by
  simp only[u_,cj,xk]at e
  show BO f _ ((k,V.ref b)::NW ks as)=_;rw[zec e.1,yZ (Lr h) e.2]
  rfl
structure VI(C:Addr)(H H':Hp)(x dx:Addr)(ks:qZ)(as:qX)(ls:List (Addr × HO)):Prop where
 ob:H' x=some (.ins C dx<|NW ks as)
 s:SameBut (· =x) H H'
 al:∀ p∈ls,H' p.1=some p.2/\p.1≠x
section
variable{C x dx l:Addr}{ks:qZ}{as:qX}{ls:List (Addr × HO)}{H1 H2:Hp}{o:HO}
def VI.same(I:VI C H H1 x dx ks as ls)(s:Same H1 H2):VI C H H2 x dx ks as ls:={s _ _ I.ob,I.s.trans s.sb,λp hp=>{s _ _ (I.al p hp).1,(I.al p hp).2}}
def VI.add(I:VI C H H1 x dx ks as ls)(e:H1 l=some o)(no:∀ D d f,o≠.ins D d f:=by intro y y y z;cases z):VI C H H1 x dx ks as ((l,o)::ls):=⟨I.ob,I.s,λp hp=>by
 rcases ax.mp hp with rfl|hp
 exact{e,λz=>by rw[show l=x from z,I.ob]at e;exact no _ _ _ (μ e).symm};exact I.al p hp⟩
def VI.put{f:Str}{P:Hp->Prop}(I:VI C H H1 x dx ks as ls)(T:Cls K C)(hn:NoAttr K C f)(q:∀ H3,VI C H H3 x dx (ks++[f]) (as++[l]) ls->P H3)(hl:ks.length=as.length:=by rfl)(hf:ks.all (λg=> !DM g f)=true:=by decide +kernel)(h9:ks.length<1000:=by decide) :
  ∃ D d gs,H1 x=some (.ins D d gs)/\Cls K D/\NoAttr K D f/\gs.length<1000/\P (upd H1 x<|.ins D d<|BO f (.ref l) gs) :=
 {_,_,_,I.ob,T,hn,cr (by unfold NW;rw[List.length_zipWith];exact Nat.min_le_left _ _) h9,q _ {by rw[AD,yZ hl hf],I.s.trans λy o e ny=>by rw[AH ny];exact e,λp hp=>{by rw[AH (I.al p hp).2];exact(I.al p hp).1,(I.al p hp).2}}}
end
def Q6{b k w:Nat}{z:Int}{Q:VK}(hz:z=b)(q:∀ t,H t=none->Q (.ref t) (upd H t<|.tup [.int ((b+k/w:Nat):Int),.int ((k%w:Nat):Int)])):GQ (z+(k:Int)/(w:Int)) ((k:Int)%(w:Int)) Q H:=by
 have e1:z+k/w=((b+k/w:Nat)):=by rw[hz];simp
 rw[e1];exact q
def PlankAt.off{H1:Hp}{gp cl x dx C:Addr}{w m:Nat}{rows:qT}{fs:rP}(P:PlankAt a H gp cl w rows m)(hx:H x=some (.ins C dx fs))(n1:gp≠x)(s:SameBut (· =x) H H1):PlankAt a H1 gp cl w rows m:=by
 obtain⟨⟨dp,e1⟩,⟨ts,e2,e3⟩,r1,r2,r3⟩:=P;exact{{dp,s _ _ e1 n1},{ts,s _ _ e2 (BB e2 hx (by intro z;cases z)),Paired.mapP e3 λt r e=>s _ _ e (BB e hx (by intro z;cases z))},r1,r2,r3}
example:(zto,QR,uO,6):=by
 apply KD;rintro x dx ly gp cl n r c w rows m vw ⟨rfl,T,TL,TP,hx,L,P,JI,⟨⟨v1,v2,v3,v4,v5,ef,P1,P2,P3,P4,P5⟩,ln,lr,lp,ok⟩,q⟩;obtain⟨dl,IG⟩:=L.ob;obtain⟨u,b1,b2,b3,b4,b5⟩:=id L
 have q1:=P1.length
 have q2:=P2.length
 have q3:=P3.length
 have q4:=P4.length
 have q5:=P5.length
 have ok1:=ok.l1
 have ok2:=ok.l2
 have bn:=ok.bn
 have br:=ok.br
 have bp:=ok.bp;refine y2 {IG,BY (by decide +kernel),x5 ly n r c w {rfl,TL,L,λt ht=>?_}};obtain⟨H1,zz0,s1,et⟩:=ES (o:=.tup [.int ((n:Int)*w),.int<|(r:Int)*w,.int<|(c:Int)*w]) ht;rw[zz0];refine BM et (n:=1) rfl rfl (BM et (n:=2) rfl rfl ?_);push_cast[↓uG_];refine BM et (n:=0) rfl rfl ?_
 have cn:∀ k:Nat,((k:Int)*w)=((k*w:Nat):Int):=λk=>by simp
 have cw:=lp ▸ bp
 have ngx:gp≠x:=λz=>by
  obtain⟨dp,e⟩:=P.ob;rw[z,hx]at e
  have e:=(HO.ins.inj<|μ e).2.2;simp[pf]at e
 have nlx:ly≠x:=λz=>by
  rw[z,hx]at IG
  have IG:=(HO.ins.inj<|μ IG).2.2;simp[lf]at IG
 have L':∀ {H':Hp},SameBut (· =x) H H'->LayAt a H' ly n r c w:=λs=>L.sb s nlx
 have P':∀ {H':Hp},SameBut (· =x) H H'->PlankAt a H' gp cl w rows m:=λs=>P.off hx ngx s
 have V1:VI (a "View") H H1 x dx [] [] []:={s1 _ _ hx,s1.sb,λp hp=>by cases hp}
 rw[cn n,cn r,cn c];refine{i0,by lia,?_};rw[cb];refine Q5 (n:=n) (b:=0) (us:=v1) (pre:=[]) (post:=v2++v3++v4++v5) TP (P' V1.s) b4 (oA (ψ (bc ln.symm) bn) rfl) (by lia) (by rw[ef];simp) (by simp) (ln ▸ q1) (λk hk H' Q' s q'=>?_) λan H2 han s2 ean=>((V1.same s2).add ean).put T.cl T.n1 λH3 V2=>?_
 ·have Lk:=L'<|V1.s.trans s.sb;obtain⟨dl',hly'⟩:=Lk.ob;push_cast[CH];exact y2 {hly',BY (by decide +kernel),x6 ly n r c w k {rfl,TL,Lk,Q6 (by simp) q'}}
 push_cast[↓uH_];refine{i0,by lia,Q5 (n:=r) (b:=n) (us:=v2) (pre:=v1) (post:=v3++v4++v5) TP (P' V2.s) b4 (by lia) (by lia) (by simp[ef]) (by first|(simp only[af,dz];lia)|exact ln ▸ q1) (lr ▸ q2) (λk hk H' Q' s q'=>?_) λar H4 h4 s4 e4=>((V2.same s4).add e4).put T.cl T.n2 λH5 V3=>?_}
 ·have Lk:=L'<|V2.s.trans s.sb;obtain⟨dl',hly'⟩:=Lk.ob;push_cast[CH];exact y2 {hly',BY (by decide +kernel),x6 ly n r c w k {rfl,TL,Lk,Q6 (by simp) q'}}
 push_cast[↓uI_];refine{i0,by lia,Q5 (n:=c) (b:=n+r) (us:=v3) (pre:=v1++v2) (post:=v4++v5) TP (P' V3.s) b4 (oA (ψ (bc lp.symm) bp) rfl) (by lia) (by simp[ef]) (by first|(simp only[af,dz];lia)|lia) (lp ▸ q3) (λk hk H' Q' s q'=>?_) λap H4 h4 s4 e4=>((V3.same s4).add e4).put T.cl T.n3 λH5 V4=>?_}
 ·have Lk:=L'<|V3.s.trans s.sb;obtain⟨dl',hly'⟩:=Lk.ob;push_cast[CH];exact y2 {hly',BY (by decide +kernel),x6 ly n r c w k {rfl,TL,Lk,Q6 (by simp) q'}}
 push_cast[↓uJ_];refine{i0,by lia,Q5 (n:=r) (b:=n+r+c) (us:=v4) (pre:=v1++v2++v3) (post:=v5) TP (P' V4.s) b4 (by lia) (by lia) (by simp[ef]) (by first|(simp only[af,dz];lia)|lia) (by lia) (λk hk H' Q' s q'=>?_) λam H4 h4 s4 e4=>((V4.same s4).add e4).put T.cl T.n4 λH5 V5=>?_}
 ·have Lk:=L'<|V4.s.trans s.sb;obtain⟨dl',hly'⟩:=Lk.ob;push_cast[CH];exact y2 {hly',BY (by decide +kernel),x6 ly n r c w k {rfl,TL,Lk,Q6 (by simp) q'}}
 push_cast[↓uK_];refine{i0,by lia,Q5 (n:=c) (b:=n+r+c+r) (us:=v5) (pre:=v1++v2++v3++v4) (post:=[]) TP (P' V5.s) b4 (oA (ψ (bc lp.symm) bp) rfl) (bc JI.symm) (by simp[ef]) (by first|(simp only[af,dz];lia)|lia) (by lia) (λk hk H' Q' s q'=>?_) λaq H4 h4 s4 e4=>((V5.same s4).add e4).put T.cl T.n5 λH5 V6=>?_}
 ·have Lk:=L'<|V5.s.trans s.sb;obtain⟨dl',hly'⟩:=Lk.ob;push_cast[CH];exact y2 {hly',BY (by decide +kernel),x6 ly n r c w k {rfl,TL,Lk,Q6 (by simp) q'}}
 push_cast[↓uL_]
 have P1':Paired (NmV H5) v1 vw.nm:=Paired.mapP P1 λv c=>NmV.keep λy xs e=>V6.s _ _ e (BB e hx (by intro z;cases z))
 have P2':Paired (RcV H5) v2 vw.rc:=Paired.mapP P2 λv c=>RcV.keep λy xs e=>V6.s _ _ e (BB e hx (by intro z;cases z))
 have ean2:H5 an=some (.lst v1):=(V6.al (an,.lst v1) (by simp)).1;refine y3 {V6.ob,T.cl,T.n1,_,ztm,.inl {{_,SqL.of ean2},?_}};refine mC (xs:=v1) (λi=>(AX vw.nm i).isSome) (CF _<|oA (ψ (bc q1) bn) rfl) (λi ys H'=>H'=H5/\ys=AQ (IZ<|vw.nm.take i)) ⟨rfl,rfl⟩ (λi ys H' u ⟨e,e'⟩=>{e ▸ SqL.of ean2,?_}) (λi v ys H' hv hzz QB qb=>?_) (λi v ys H' hv hp hzz=>?_) (λi v ys H' hv hp ⟨e,e'⟩=>{e,?_}) (λys H' hzz p hp=>?_)
 ·rw[e',HH];unfold IZ;exact ψ (i_ ..) (by rw[cz];lia)
 ·obtain⟨e,e'⟩:=hzz;subst e;obtain⟨c',ec,hr⟩:=KB P1' hv;push_cast[];rw[zsz hr];unfold AX at qb;rw[ec]at qb;simpa using qb
 ·obtain⟨e,e'⟩:=hzz;subst e;obtain⟨c',ec,hr⟩:=KB P1' hv
  have:c'.isSome=true:=by
   unfold AX at hp;rw[ec]at hp;exact hp
  obtain⟨cc,rfl⟩:=da.mp this;obtain⟨p,rfl,hp'⟩:=hr;push_cast[];refine BM hp' (n:=1) rfl rfl {rfl,?_};rw[e',JB ec];unfold IZ AQ;rw[zg,ak]
  rfl
 ·obtain⟨c',ec,hr⟩:=KB P1' hv
  have:c'=none:=by
   unfold AX at hp;rw[ec]at hp;cases c' with
   |none=>rfl
   |some _=>cases hp
  subst this;rw[e',JB ec];unfold IZ AQ;rw[zg,ak];simp
 obtain⟨e,e'⟩:=hzz;subst e;rw[q1,bx]at e';subst e';obtain⟨H12,zz0,CG,e12⟩:=ES (o:=.lst<|AQ<|IZ vw.nm) hp;rw[zz0]
 have hll:(IZ vw.nm).length<=100:=ψ (i_ ..) bn;refine x3 (r*w) p (IZ vw.nm) {rfl,e12,λk hk=>?_,by lia,oA hll rfl,λal H13 hal s13 eal=>((V6.same<|CG.trans s13).add eal).put T.cl T.n6 λH14 V7=>?_}
 ·unfold IZ at hk;obtain⟨cc,h1,h2⟩:=jo.mp hk;rw[ae]at h2;obtain⟨c2,rfl,rfl⟩:=h2;rw[<-lr];exact(ok.n1 c2 h1).1
 have tkx:∀ {H':Hp} {ks as ls},VI (a "View") H H' x dx ks as ls->DV H H':=λI y xs e=>I.s _ _ e (BB e hx (by intro z;cases z))
 have rcs:∀ {H':Hp} {ks as ls},VI (a "View") H H' x dx ks as ls->H' ar=some (.lst v2)->LstAt RcV H' ar vw.rc:=λI e=>{v2,e,Paired.mapP P2 λv c=>RcV.keep<|tkx I}
 have n10:∀ cc,some cc∈vw.rc->cc.2.length<=20:=λcc h=>(ok.n2 cc h).2
 have pb:∀ (l:List IY),l.length<=100->(∀ cc,some cc∈l->cc.2.length<=20)->(EN l).length<=2000:=λl hl h=>by
  have:(EN l).length<=l.length * 20:=by
   clear hl
   induction l with
   |nil=>simp[EN]
   |cons y l ih =>
    have ih:=ih λcc hc=>h cc<|υ _ hc;unfold EN at ih ⊢;rw[List.flatMap_cons,af,cv]
    have:(LB y).length<=20:=by
     cases y with
     |none=>simp[LB]
     |some c=>exact h c ω
    lia
  lia
 push_cast[↓uM_];refine y3 {V7.ob,T.cl,T.n2,_,yY,x2 ar vw.rc {rfl,rcs V7 ((V7.al (ar,.lst v2) (by simp)).1),br,n10,λpl H15 CD s15 epl=>x3 (c*w) pl (EN vw.rc) {rfl,epl,λk hk=>?_,oA (ψ (bc lp.symm) bp) rfl,by have:=pb _ br n10;lia,λag H16 hag s16 eag=>((V7.same<|s15.trans s16).add eag).put T.cl T.n7 λH17 V8=>?_}}}
 ·unfold EN at hk;obtain⟨cc,h1,h2⟩:=uw.mp hk;cases cc with
  |none=>cases h2
  |some cc =>
   rw[<-lp];exact(ok.n2 cc h1).1 k h2
 have hal':H17 al=some (.lst<|AQ<|(ξ vw.rc.length).map (led vw)):=by rw[lr];exact(V8.al _<|.tail _<|.head _).1
 have ltm:∀ cc,some cc∈LC vw->some cc∈vw.rc:=λcc h=>by
  unfold LC at h;obtain⟨k,u,hk⟩:=av.mp h;unfold AX at hk;cases e:vw.rc[k]? with
  |none=>rw[e]at hk;cases hk
  |some y =>
   rw[e]at hk
   have hk:y=some cc:=hk;exact hk ▸ θ e
 have ltl:(LC vw).length<=100:=by
  unfold LC;rw[ζ];exact ψ (cm ..) (by rw[cy];exact br)
 push_cast[↓uN_];refine y2 {V8.ob,?_,x4 x ar al vw {rfl,T,y2 ⟨V8.ob,yY⟩,y2 ⟨V8.ob,ztn⟩,rcs V8 ((V8.al (ar,.lst v2) (by simp)).1),hal',br,λlt H18 AY s18 EH=>x2 lt (LC vw) {rfl,EH,ltl,λcc h=>n10 cc<|ltm cc h,λpl2 H19 hpl2 s19 epl2=>x3 (c*w) pl2 (EN<|LC vw) {rfl,epl2,λk hk=>?_,oA (ψ (bc lp.symm) bp) rfl,by have:=pb _ ltl<|λcc h=>n10 cc<|ltm cc h;lia,λah H20 hah s20 eah=>((V8.same<|(s18.trans s19).trans s20).add eah).put T.cl T.n8 λH21 V9=>?_}}}}
 ·simp[NW,ao,A7 (a:="records_led_to") (b:="name_values") (by decide +kernel),A7 (a:="records_led_to") (b:="record_values") (by decide +kernel),A7 (a:="records_led_to") (b:="piece_values") (by decide +kernel),A7 (a:="records_led_to") (b:="record_marks") (by decide +kernel),A7 (a:="records_led_to") (b:="piece_marks") (by decide +kernel),A7 (a:="records_led_to") (b:="leads") (by decide +kernel),A7 (a:="records_led_to") (b:="namings") (by decide +kernel)]
 ·unfold EN at hk;obtain⟨cc,h1,h2⟩:=uw.mp hk;cases cc with
  |none=>cases h2
  |some cc =>
   rw[<-lp];exact(ok.n2 cc<|ltm cc h1).1 k h2
 have tk:=tkx V9;refine q ⟨an,ar,ap,am,aq,al,ag,ah⟩ _ {⟨dx,V9.ob⟩,{v1,(V9.al (an,.lst v1) (by simp)).1,Paired.mapP P1 λv c=>NmV.keep tk},{v2,(V9.al (ar,.lst v2) (by simp)).1,Paired.mapP P2 λv c=>RcV.keep tk},{v3,(V9.al (ap,.lst v3) (by simp)).1,Paired.mapP P3 λv c=>PcV.keep tk},{v4,(V9.al (am,.lst v4) (by simp)).1,Paired.mapP P4 λv c=>MkV.keep tk},{v5,(V9.al (aq,.lst v5) (by simp)).1,Paired.mapP P5 λv c=>MkV.keep tk},by rw[lr];exact(V9.al _<|.tail _<|.tail _<|.head _).1,by rw[lp];exact(V9.al _<|.tail _<|.head _).1,by rw[lp];exact(V9.al _<|.head _).1,ok} V9.s
def PlV.same(h:PlV H rows n r c w vw)(tk:DV H H'):PlV H' rows n r c w vw:=by
 obtain⟨⟨v1,v2,v3,v4,v5,ef,P1,P2,P3,P4,P5⟩,x1,x2,x3,x4⟩:=h;exact{x5 v1 v2 v3 v4 v5 {ef,Paired.mapP P1 λv c=>NmV.keep tk,Paired.mapP P2 λv c=>RcV.keep tk,Paired.mapP P3 λv c=>PcV.keep tk,Paired.mapP P4 λv c=>MkV.keep tk,Paired.mapP P5 λv c=>MkV.keep tk},x1,x2,x3,x4}
def Ground.same(g:Ground K a H ly gp vw)(s:Same H H'):Ground K a H' ly gp vw:=by
 revert g;apply u7;rintro cl n r c w rows m ⟨T,TL,TP,L,P,hr,pv⟩;exact x7 cl n r c w _ m {T,TL,TP,L.same s,P.same s,hr,pv.same s.tk}
def Ground.ok{ly gp:Addr}{vw:Vw}(g:Ground K a H ly gp vw):D9 vw:=by
 revert g;apply u7;rintro cl n r c w rows m ⟨T,TL,TP,L,P,hr,pv⟩;exact pv.ok
def zA{ly gp:Addr}{vw:Vw}{Q:Addr->Hp->Prop}(g:Ground K a H ly gp vw)(q:TV K a->∀ x A H2,ViewAt a H2 x A vw->Same H H2->Q x H2) :
  ∀ x dx,H x=none->H dx=none->dx≠x->QR K a [.ref x,.ref ly,.ref gp] (upd (upd H dx<|.own x) x (.ins (a "View") dx [])) (λv H2=>v=.non/\Q x H2) E:=λx dx hx RH nd=>by
 have s0:Same H (upd (upd H dx<|.own x) x (.ins (a "View") dx [])):=(AK RH).trans (AK (by rw[AH nd.symm];exact hx));revert g;apply u7;rintro cl n r c w rows m ⟨T,TL,TP,L,P,hr,pv⟩;exact N3 x dx ly gp cl n r c w _ m vw {rfl,T,TL,TP,AD,L.same s0,P.same s0,hr,pv.same s0.tk,λA H' I s=>{rfl,q T x A H' I λy o e=>s _ _ (s0 _ _ e) (BE e hx)}}
example:(ztp,X9,uX,3):=by
 apply u3;rintro ly gp vw ⟨rfl,g,q⟩;obtain⟨n1,n2,n3,n4,n5,n6⟩:=US g.ok;refine zA g λT x A H1 I s1=>(x3 x A vw {rfl,T,I,λl1 H2 h2 s2 F2=>x3 x A vw {rfl,T,I.same s2,λl2 H3 h3 s3 F3=>JC (F2.same s3) F3 ?_ (q.of<|(s1.trans s2).trans s3)}})
 unfold faults MD;simp only[af]
 lia
example:(ztq,YA,ZB,2):=by
 apply u3;rintro ly gp vw ⟨rfl,g,q⟩;push_cast[ZB,↓uY_];refine zA g λT x A H1 I s1=>x3 x A vw {rfl,T,I,λl1 H2 h2 s2 F2=>?_};obtain⟨ps,e,P⟩:=F2;refine{_,.inl {_,SqL.of e,by rw[ζ,P.length]},?_}
 have e2:decide (((faults vw).length:Int)=0)=decide (faults vw=[]):=by
  rw[decide_eq_decide];constructor;intro h;exact fb.mp (by lia);intro h;rw[h];rfl
 rw[e2];exact(q H2<|s1.trans s2)
def zB(vw:Vw):MD vw=(E3 vw).map (nK vw):=by
 unfold MD QK QL QM E3 C9;simp only[ak,pr]
 rfl
def LK{α :Type}{f:Nat->Option α}{n k:Nat}:AX ((ξ n).map f) k=if k<n then f k else none:=by
 unfold AX;by_cases h:k<n;rw[if_pos h,τ,vp h]
 rfl;rw[if_neg h,bq (by simp;exact ck h)]
 rfl
def UV{α :Type}{l:List (Option α)}{k:Nat}(h:¬ k<l.length):AX l k=none:=by
 unfold AX;rw[bq (ck h)]
 rfl
section
variable{vw:Vw}
def ZY(r:Nat):AX (mended vw).rc r=EZ vw r:=by
 show AX ((ξ _).map _) r=_;rw[LK];split
 rfl;rename_i h;unfold EZ;rw[UV h]
def ZZ(ok:D9 vw)(r:Nat):AX (mended vw).rm r=J5 vw r:=by
 show AX ((ξ _).map _) r=_;rw[LK];split
 rfl;rename_i h;unfold J5;rw[UV h,(UV (by rw[ok.l1];exact h))];simp
def zC(ok:D9 vw)(p:Nat):AX (mended vw).pm p=ME vw p:=by
 show AX ((ξ _).map _) p=_;rw[LK];split
 rfl;rename_i h;unfold ME;rw[(UV (by rw[ok.l2];exact h))];simp
def ztr{r:Nat}{d:Int × Oz}(h:EZ vw r=some d):∃ c,AX vw.rc r=some c/\0<led vw r/\d=((led vw r:Int),c.2):=by
 unfold EZ at h;cases e:AX _ r with
 |none=>rw[e]at h;cases h
 |some c =>
  rw[e]at h;by_cases h0:led vw r=0;simp only[h0]at h;cases h;simp only[h0,if_false,xm]at h;exact{c,rfl,s_ h0,h.symm}
def zD{r:Nat}{c:Int × Oz}(h:AX vw.rc r=some c)(hl:0<led vw r):EZ vw r=some ((led vw r:Int),c.2):=by
 unfold EZ;rw[h];simp only;rw[if_neg (iy hl)]
def UW(ok:D9 vw):D9 (mended vw):=by
 refine{λc h=>?_,λc h=>?_,ok.n3,?_,?_,ok.bn,?_,ok.bp}
 show c.2<((ξ _).map _).length/\_;simp only[ζ,cy];exact ok.n1 c h;obtain⟨r,z,hr⟩:=av.mp h;obtain⟨d,hd,z,rfl⟩:=ztr hr;exact ok.n2 d<|zsv hd
 show((ξ _).map _).length=((ξ _).map _).length;simp
 show((ξ _).map _).length=vw.pc.length;simp
 show((ξ _).map _).length<=100;simp only[ζ,cy];exact ok.br
end
def NX{α β γ :Type}{F: α -> β ->Prop}{G: α -> γ ->Prop}{f: β -> γ}(k:∀ x y,G x (f y)->F x y):∀ {l:List α} {m:List β},Paired G l (m.map f)->Paired F l m
 |_,[],h=>by cases h;exact .nil
 |_,y::m,h=>by
  cases h with
  |cons h t=>exact .cons (k _ _ h) (NX k t)
def Q7{α β :Type}{F: α -> β ->Prop}:∀ {bs:List β} {l:List α} {ds:List β},Paired F l (bs++ds)->∃ x y,l=x++y/\Paired F x bs/\Paired F y ds
 | [],l,ds,h=>x2 [] l {rfl,.nil,h}
 |b::bs,l,ds,h=>by
  cases h with
  |cons h t =>
   refine u2 ?_<|Q7 t;rintro x y ⟨rfl,p1,p2⟩;exact x2 _ y {rfl,.cons h p1,p2}
def PlV.asC{rows:qT}{n r c w:Nat}{vw:Vw}(h:PlV H rows n r c w vw):Paired (CelV H) rows.flatten (DE vw):=by
 refine u5 ?_ h.vs;rintro v1 v2 v3 v4 v5 ⟨ef,P1,P2,P3,P4,P5⟩;rw[ef];exact MM (MM (MM (MM (MH P1 λz z h=>h) (MH P2 λz z h=>h)) (MH P3 λz z h=>h)) (MH P4 λz z h=>h)) (MH P5 λz z h=>h)
def PlV.of{rows:qT}{n r c w:Nat}{vw:Vw}(P:Paired (CelV H) rows.flatten (DE vw))(z1:vw.nm.length=n*w)(z2:vw.rc.length=r*w)(z3:vw.pc.length=c*w)(ok:D9 vw):PlV H rows n r c w vw:=by
 refine u2 ?_<|Q7 P;rintro x4 v5 ⟨e5,P,P5⟩;refine u2 ?_<|Q7 P;rintro x3 v4 ⟨e4,P,P4⟩;refine u2 ?_<|Q7 P;rintro x2 v3 ⟨e3,P,P3⟩;refine u2 ?_<|Q7 P;rintro v1 v2 ⟨e2,P1,P2⟩;exact{x5 v1 v2 v3 v4 v5 {by rw[e5,e4,e3,e2],NX  (f:=Cel.nm) (λz z h=>h) P1,NX  (f:=Cel.rc) (λz z h=>h) P2,NX  (f:=Cel.pc) (λz z h=>h) P3,NX  (f:=Cel.mk) (λz z h=>h) P4,NX  (f:=Cel.mk) (λz z h=>h) P5},z1,z2,z3,ok}
def CelV.keep{H':Hp}(tk:DV H H'){v:V}:∀ {c:Cel},CelV H v c->CelV H' v c
 |.nm _,h=>NmV.keep tk h
 |.rc _,h=>RcV.keep tk h
 |.pc _,h=>PcV.keep tk h
 |.mk _,h=>MkV.keep tk h
def zts{α :Type}{l:List (Option α)}{k:Nat}(h:k<l.length):l[k]? =some (AX l k):=by
 unfold AX;rw[η h]
 rfl
def zE(vw:Vw)(ok:D9 vw):(DE vw).length=vw.nm.length+vw.rc.length+vw.pc.length+vw.rc.length+vw.pc.length:=by
 unfold DE;simp only[af,ζ,ok.l1,ok.l2]
def Q8{α β :Type}{f:Option α -> β}{l:List (Option α)}{l':List β}{k:Nat}(h:k<l.length):(l.map f++l')[k]? =some (f<|AX l k):=by
 rw[ba (by rwa [ζ]),τ,zts h]
 rfl
section
variable{vw:Vw}{N R P k:Nat}
def Q9(vw:Vw):DE vw=vw.nm.map .nm++(vw.rc.map .rc++(vw.pc.map .pc++(vw.rm.map .mk++(vw.pm.map .mk++[])))):=by simp[DE]
def Z0(h1:vw.nm.length=N)(h:k<N):(DE vw)[k]? =some (.nm<|AX vw.nm k):=by
 subst h1;rw[Q9,Q8 h]
def NY(h1:vw.nm.length=N)(h2:vw.rc.length=R)(h:k<R):(DE vw)[N+k]? =some (.rc<|AX vw.rc k):=by
 subst h1 h2;rw[Q9,HJ<|ζ _,Q8 h]
def Z1(h1:vw.nm.length=N)(h2:vw.rc.length=R)(h3:vw.pc.length=P)(h:k<P):(DE vw)[N+R+k]? =some (.pc<|AX vw.pc k):=by
 subst h1 h2 h3;rw[Q9,eh,HJ<|ζ _,HJ<|ζ _,Q8 h]
def RA(ok:D9 vw)(h1:vw.nm.length=N)(h2:vw.rc.length=R)(h3:vw.pc.length=P)(h:k<R):(DE vw)[N+R+P+k]? =some (.mk<|AX vw.rm k):=by
 subst h1 h2 h3;rw[Q9,eh,eh,HJ<|ζ _,HJ<|ζ _,HJ<|ζ _,Q8<|ok.l1 ▸ h]
def UX(ok:D9 vw)(h1:vw.nm.length=N)(h2:vw.rc.length=R)(h3:vw.pc.length=P)(h:k<P):(DE vw)[N+R+P+R+k]? =some (.mk<|AX vw.pm k):=by
 subst h1 h2 h3;rw[Q9,eh,eh,eh,HJ<|ζ _,HJ<|ζ _,HJ<|ζ _,HJ<|(ζ _).trans ok.l1,Q8<|ok.l2 ▸ h]
def zF{f:Nat}{A:Nat->Prop}(h0:f<N->A f)(h3:∀ k,k<R->A (N+k))(h4:∀ k,k<P->A (N+R+k))(h1:∀ k,k<R->A (N+R+P+k))(h2:∀ k,k<P->A (N+R+P+R+k))(hf:f<N+R+P+R+P):A f:=by
 rcases e_ f N with h|h
 exact h0 h;obtain⟨f,rfl⟩:=ie h;rcases e_ f R with h|h
 exact h3 f h;obtain⟨f,rfl⟩:=ie h;rw[<-eh]at hf ⊢;rcases e_ f P with h|h
 exact h4 f h;obtain⟨f,rfl⟩:=ie h;rw[<-eh]at hf ⊢;rcases e_ f R with h|h
 exact h1 f h;obtain⟨f,rfl⟩:=ie h;rw[<-eh]at hf ⊢;exact h2 f<|Nat.lt_of_add_lt_add_left hf
end
def ztt(h:C9 n p f=[])(hk:k<n):p k=false:=by
 simpa using (yw.mp (Ar.mp h) k (ai.mpr hk))
def ztu(h:faults vw=[])(hr:r<vw.rc.length):JA vw r=false:=ztt (uf.mp<|(uf.mp (uf.mp h).1).2).2 hr
def zG{vw:Vw}{lv:Lv}(h:lv∈E3 vw):(∃ r,lv=.many r/\r<vw.rc.length/\GW vw r=true)\/(∃ r,lv=.leftR r/\r<vw.rc.length/\(AX vw.rc r).isSome=true/\led vw r=0)\/(∃ p,lv=.leftP p/\p<vw.pc.length/\AX vw.pm p=some 1/\HZ vw p=0)\/∃ r,lv=.marked r/\r<vw.rc.length/\AX vw.rm r=some 1/\AX vw.rc r=none:=by
 unfold E3 at h;simp only[a_,av,dn,ai,cj,decide_eq_true_eq]at h;rcases h with((⟨r,h,rfl⟩|⟨r,h,rfl⟩)|⟨p,h,rfl⟩)|⟨r,h,rfl⟩
 exact .inl ⟨r,rfl,h.1,h.2⟩;exact .inr<|.inl ⟨r,rfl,h.1,h.2.1,h.2.2⟩;exact .inr<|.inr<|.inl ⟨p,rfl,h.1,h.2.1,h.2.2⟩;exact .inr<|.inr<|.inr {r,rfl,h.1,h.2.1,wx.mp h.2.2}
section
variable{vw:Vw}{n r c w:Nat}
def ztv(ok:D9 vw)(z1:vw.nm.length=n*w)(z2:vw.rc.length=r*w)(z3:vw.pc.length=c*w)(h:lv∈E3 vw)(hx:fx∈EQ vw n r c w lv):(DE<|mended vw)[fx.1]? =some fx.2:=by
 have g2:(mended vw).rc.length=r*w:=by
  show((ξ vw.rc.length).map (EZ vw)).length=_;simp[z2]
 have ok':=UW ok
 have g1:(mended vw).nm.length=n*w:=z1
 have g3:(mended vw).pc.length=c*w:=z3;rcases zG h with⟨k,rfl,hk,hm⟩|⟨k,rfl,hk,hs,hl⟩|⟨k,rfl,hk,h1,h2⟩|⟨k,rfl,hk,h1,h2⟩
 ·simp only[EQ,aa]at hx;subst hx;rw[NY g1 g2 (z2 ▸ hk),ZY]
 ·obtain⟨d,hd⟩:=da.mp hs;simp only[EQ,ax,b_,or_false]at hx;rcases hx with rfl|rfl
  ·rw[NY g1 g2 (z2 ▸ hk),ZY];unfold EZ;rw[hd];simp[hl]
  ·simp only[dz];rw[RA ok' g1 g2 g3 (z2 ▸ hk),ZZ ok];unfold J5;rw[hd];simp[hl]
 ·simp only[EQ,aa]at hx;subst hx;simp only[dz];rw[UX ok' g1 g2 g3 (z3 ▸ hk),zC ok];unfold ME;rw[if_pos ⟨h1,h2⟩]
 ·simp only[EQ,aa]at hx;subst hx;simp only[dz];rw[RA ok' g1 g2 g3 (z2 ▸ hk),ZZ ok];unfold J5;rw[h2];simp[h1]
def ztw(ok:D9 vw)(z1:vw.nm.length=n * w)(z2:vw.rc.length=r * w)(z3:vw.pc.length=c * w)(hf0:faults vw=[])(hf:f<n * w+r * w+c * w+r * w+c * w):(∀ lv∈E3 vw,∀ fx∈EQ vw n r c w lv,fx.1≠f)->(DE<|mended vw)[f]? =(DE vw)[f]? :=by
 have g2:(mended vw).rc.length=r*w:=by
  show((ξ vw.rc.length).map (EZ vw)).length=_;simp[z2]
 have ok':=UW ok
 have g1:(mended vw).nm.length=n*w:=z1
 have g3:(mended vw).pc.length=c*w:=z3;refine zF (A:=λf=>(∀ lv∈E3 vw,∀ fx∈EQ vw n r c w lv,fx.1≠f)->(DE<|mended vw)[f]? =(DE vw)[f]?) (λh hno=>?_) (λk hk hno=>?_) (λk hk hno=>?_) (λk hk hno=>?_) (λk hk hno=>?_) hf
 ·rw[Z0 g1 h,Z0 z1 h];rfl
 ·rw[NY g1 g2 hk,NY z1 z2 hk,ZY]
  have hk':k<vw.rc.length:=z2.symm ▸ hk
  congr 2
  cases e:AX vw.rc k with
  |none=>unfold EZ;rw[e]
  |some d =>
   have h0:0<led vw k:=by
    rcases mq (led vw k)with z|z
    ·refine absurd rfl (hno (.leftR k) ?_ (n*w+k,.rc none) (by simp[EQ]));unfold E3;simp only[a_,av,dn,ai,cj,decide_eq_true_eq];exact .inl (.inl (.inr {k,{hk',by rw[e];rfl,z},rfl}))
    ·exact z
   have h1:¬ ((led vw k:Int)<d.1):=λz=>by
    refine absurd rfl (hno (.many k) ?_ (n*w+k,.rc<|EZ vw k) (by simp[EQ]));unfold E3;simp only[a_,av,dn,ai,cj,decide_eq_true_eq];refine .inl<|.inl<|.inl {k,{hk',?_},rfl};unfold GW;rw[e];simp[h0,z]
   have h2:=ztu hf0 hk';unfold JA at h2;rw[e]at h2;rw[zD e h0]
   have:d.1=(led vw k:Int):=by lia
   rw[<-this]
 ·rw[Z1 g1 g2 g3 hk,Z1 z1 z2 z3 hk];rfl
 ·rw[RA ok' g1 g2 g3 hk,RA ok z1 z2 z3 hk,ZZ ok]
  have hk':k<vw.rc.length:=z2.symm ▸ hk
  congr 2
  cases e:AX vw.rc k with
  |none =>
   unfold J5;rw[e];simp only;rw[if_neg];intro z;refine absurd (by simp only[dz]) (hno (.marked k) ?_ ((n+r+c)*w+k,.mk<|some 0) (by simp[EQ]));unfold E3;simp only[a_,av,dn,ai,cj,decide_eq_true_eq];exact .inr {k,{hk',z,by rw[e];rfl},rfl}
  |some d =>
   unfold J5;rw[e];simp only;rw[if_neg];intro z;refine absurd (by simp only[dz]) (hno (.leftR k) ?_ ((n+r+c)*w+k,.mk<|some 0) (by simp[EQ]));unfold E3;simp only[a_,av,dn,ai,cj,decide_eq_true_eq];exact .inl (.inl (.inr {k,{hk',by rw[e];rfl,z},rfl}))
 ·rw[UX ok' g1 g2 g3 hk,UX ok z1 z2 z3 hk,zC ok]
  congr 2
  unfold ME;rw[if_neg];rintro ⟨z1',z2'⟩;refine absurd (by simp only[dz]) (hno (.leftP k) ?_ ((n+r+c+r)*w+k,.mk<|some 0) (by simp[EQ]));unfold E3;simp only[a_,av,dn,ai,cj,decide_eq_true_eq];exact .inl<|.inr {k,{z3.symm ▸ hk,z1',z2'},rfl}
end
def ET:Cel->um
 |.nm none=>.none
 |.nm (some c)=>.tuple [.str c.1,.int c.2]
 |.rc none=>.none
 |.rc (some c)=>.tuple [.int c.1,.tuple<|c.2.map λ(k:Nat)=>B_ k]
 |.pc none=>.none
 |.pc (some s)=>.str s
 |.mk none=>.none
 |.mk (some i)=>.int i
def ztx(l:Oz):∀ {n:Nat},Paired (Dat K H n) (AQ l) (l.map λ(k:Nat)=>B_ k):=by
 induction l with
 |nil=>exact .nil
 |cons x r ih=>exact .cons (.int _) ih
def CelV.dat:∀ {c:Cel},CelV H v c->c.ok->Dat K H 2 v (ET c)
 |.nm none,h,_=>by cases (h);exact Dat.non
 |.nm (some c),h,o=>by
  obtain⟨p,rfl,e⟩:=(h)
  exact Dat.tup  (SqT.of e) (.cons {.str _,o,bh _} (.cons (Dat.int _) .nil))
 |.rc none,h,_=>by cases (h);exact Dat.non
 |.rc (some c),h,_=>by
  refine u2 ?_<|h;rintro p q ⟨rfl,e,e2⟩;exact Dat.tup  (SqT.of e) (.cons (Dat.int _) (.cons (Dat.tup  (SqT.of e2) (ztx _)) .nil))
 |.pc none,h,_=>by cases (h);exact Dat.non
 |.pc (some s),h,o=>by
  cases (h);exact{.str s,o,bh _}
 |.mk none,h,_=>by cases (h);exact Dat.non
 |.mk (some i),h,_=>by cases (h);exact Dat.int i
def zH:∀ (l m:Oz),rf (l.map λ(k:Nat)=>B_ k) (m.map λ(k:Nat)=>B_ k)=decide (l=m)
 | [],[]=>rfl
 | [],_::_=>rfl
 |_::_,[]=>rfl
 |x::l,y::m=>by
  show((x ==(y:Int))&&rf _ _)=_;rw[zH l m];simp
  lia
def zty:∀ {c c':Cel},c.kind=c'.kind->h_ (ET c) (ET c')=decide (c=c')
 | .nm c,.nm c',_=>by
  cases c with
  |none=>cases c'<;>simp[ET,h_]
  |some c =>
   cases c' with
   |none=>simp[ET,h_]
   |some d =>
    obtain⟨s,k⟩:=c;obtain⟨s',k'⟩:=d;simp[ET,h_,rf]
    lia
 | .rc c,.rc c',_=>by
  cases c with
  |none=>cases c'<;>simp[ET,h_]
  |some c =>
   cases c' with
   |none=>simp[ET,h_]
   |some d =>
    obtain⟨s,k⟩:=c;obtain⟨s',k'⟩:=d;rw[mz];simp[ET,h_,rf,zH]
 | .pc c,.pc c',_=>by
  cases c with
  |none=>cases c'<;>simp[ET,h_]
  |some c =>
   cases c' with
   |none=>simp[ET,h_]
   |some d =>
    rw[mz];simp[ET,h_]
 | .mk c,.mk c',_=>by
  cases c with
  |none=>cases c'<;>simp[ET,h_]
  |some c =>
   cases c' with
   |none=>simp[ET,h_]
   |some d =>
    rw[mz];simp[ET,h_]
 |.nm _,.rc _,h=>by cases h
 |.nm _,.pc _,h=>by cases h
 |.nm _,.mk _,h=>by cases h
 |.rc _,.nm _,h=>by cases h
 |.rc _,.pc _,h=>by cases h
 |.rc _,.mk _,h=>by cases h
 |.pc _,.nm _,h=>by cases h
 |.pc _,.rc _,h=>by cases h
 |.pc _,.mk _,h=>by cases h
 |.mk _,.nm _,h=>by cases h
 |.mk _,.rc _,h=>by cases h
 |.mk _,.pc _,h=>by cases h
def zI:∀ {cs cs':Oq},cs.map Cel.kind=cs'.map Cel.kind->rf (cs.map ET) (cs'.map ET)=decide (cs=cs')
 | [],[],_=>rfl
 | [],_::_,h=>by cases h
 |_::_,[],h=>by cases h
 |x::l,y::m,h=>by
  injection h with h1 h2
  show(h_ _ _&&rf _ _)=_;rw[zty h1,zI h2];simp
def zJ(h:Paired (CelV H) xs cs)(ok:∀ c∈cs,c.ok):Paired (Dat K H 2) xs (cs.map ET):=by
 induction h with
 |nil=>exact .nil
 |cons h t ih=>exact .cons (h.dat<|ok _ ω) (ih λc hc=>ok c<|υ _ hc)
def ztz{p q:Addr}{xs ys:Oj}{cs cs':Oq}(h1:H p=some (.lst xs))(h2:H q=some (.lst ys))(P1:Paired (CelV H) xs cs)(P2:Paired (CelV H) ys cs')(o1:∀ c∈cs,c.ok)(o2:∀ c∈cs',c.ok)(hk:cs.map Cel.kind=cs'.map Cel.kind)(hq:Q (.bl<|!decide (cs=cs')) H):KQ K (.ref p) (.ref q) H Q:=by
 have e1:Dat K H 3 _ _:=Dat.lst (SqL.of h1) (zJ P1 o1)
 have e2:Dat K H 3 _ _:=Dat.lst (SqL.of h2) (zJ P2 o2);refine y2 {e1.1,e2.1,e1.shp (by decide),e2.shp (by decide),?_}
 show Q (.bl<|!PyData.eqvAll _ _) H;rw[zI hk];exact hq
def zK{w f g:Nat}(h:pk w f=pk w g):f=g:=by
 injection h with h1 h
 injection h with h2 _
 injection h1 with h1
 injection h2 with h2
 have a1:=si f w;rw[show f/w=g/w by exact cg h1,show f%w=g%w by exact cg h2]at a1;exact a1 ▸ (si g w)
def Z2(b j:Nat):Int:=reduceHash<|Ke [hashInt b,hashInt j]
def zt0:∀ j,j<6->∀ b,b<31->∀ c,c<31->Z2 b j=Z2 c j->b=c:=by decide +kernel
def zt1{k:List AN}{v:V}:SF [(k,v)]:=λP w=>by simp
def zt2{w f g:Nat}{v u:V}(w6:w<=6)(w1:1<=w)(hf:f/w<31)(hg:g/w<31)(he:f%w=g%w)(ne:f/w≠g/w):SF [(pk w f,v),(pk w g,u)]:=λP W=>by
 have e:∀ h:Nat,(pd<|DZ P W).hash (pk w h)=Z2 (h/w) (h%w):=λh=>rfl;simp only[dk,yr,gy,aa,b_,not_false_eq_true,jr,and_true];rw[e,he];exact λz=>ne<|zt0 (g%w) (χ (sx _ w1) w6) _ hf _ hg z
def RB{w b k:Nat}{x:Int}(hw:1<=w)(hx:x=b):([.int (x+(k:Int)/(w:Int)),.int<|(k:Int)%(w:Int)]:Oj)=(pk w<|b*w+k).map kV:=by
 unfold pk
 have h2:(b*w+k)%w=k%w:=by rw[dh,na]
 have h1:(b*w+k)/w=b+k/w:=by rw[dh,nc<|hw]
 rw[h1,h2,hx];simp only[dk,yr,kV];rw[Io,Hn,Ho]
def zt3{gp cl:Addr}{w m f:Nat}{rows:qT}{cs:Oq}{x:Cel}(P:PlankAt a H gp cl w rows m)(hw:1<=w)(hc:Paired (CelV H) rows.flatten cs)(hx:cs[f]? =some x)(hb:f/w<rows.length):∃ row v,rows[f/w]? =some row/\row[f%w]? =some v/\CelV H v x:=by
 obtain⟨v,hv,hr⟩:=G7 hc hx
 have e:=UU  (j:=f%w) P.wd hb (sx _ hw);rw[dh,si,hv]at e;cases er:rows[f/w]? with
 |none=>rw[er]at e;cases e
 |some row =>
  rw[er]at e;exact x2 _ v ⟨rfl,e.symm,hr⟩
example:(zt4,YB,Y5,4):=by
 apply KD;rintro ly gp cl fd n r c w rows m vw lv ⟨rfl,S,hlv,EJ,q⟩
 have w1:=S.w1;obtain⟨dl,IG⟩:=S.la.ob
 have z2:=S.pv.lr
 have n6:=S.n6
 have r6:=S.r6
 have c6:=S.c6
 have q1:∀ {p t:Addr} {f:Nat} {x:Cel} {v:V} {H2:Hp},H p=none->Same H H2->H2 p=some (.dT [])->H2 t=some (.tup<|(pk w f).map kV)->CelV H2 v x->EQ vw n r c w lv=[(f,x)]->H2 p=some (.dT [])/\∃ kvs:rC,SG H2 [(.ref t,v)] kvs/\kvs.length<=15/\Q (.ref p) (upd H2 p<|.dT<|D8 [] kvs):=λ{p t f x v H2} hp s e et hv ef=>by
  refine{e,[(pk w f,v)],.cons {⟨t,rfl,et⟩,rfl} .nil,by simp,?_};refine q p [(pk w f,v)] _ hp (λy o ey=>by rw[AH (BE ey hp)];exact s _ _ ey) AD ?_ zt1;rw[ef];exact .cons {rfl,CelV.keep (λy ys ey=>by rw[AH (BB ey e (λz=>nomatch z))];exact ey) hv} .nil
 rcases zG hlv with⟨k,rfl,hk,hm⟩|⟨k,rfl,hk,hsm,hl⟩|⟨k,rfl,hk,h1,h2⟩|⟨k,rfl,hk,h1,h2⟩
 obtain⟨d,hd⟩:∃ d,AX vw.rc k=some d:=by
  unfold GW at hm;cases e:AX vw.rc k with
  |none=>rw[e]at hm;cases hm
  |some d=>exact⟨d,rfl⟩
 have hl:0<led vw k:=by
  unfold GW at hm;rw[hd]at hm;simp at hm;exact hm.1
 refine BM EJ (n:=0) rfl rfl (y2 {IG,BY (by decide +kernel),BM EJ (n:=1) rfl rfl (x6 ly n r c w k {rfl,S.tl,S.la,λt ht=>?_})});obtain⟨H1,zz0,s1,e1⟩:=ES (o:=.tup [.int ((n:Int)+(k:Int)/(w:Int)),.int<|(k:Int)%(w:Int)]) ht;rw[zz0];push_cast[↓tR_];intro p hp;obtain⟨H2,zz0,s2,e2⟩:=ES (o:=.dT []) hp;rw[zz0]
 have KC:=s1.trans s2
 have P2:=S.pl.same KC
 have f1:(n*w+k)/w=n+k/w:=by rw[dh,nc (by exact w1)]
 have f2:(n*w+k)%w=k%w:=by rw[dh,na]
 obtain⟨dp,MP⟩:=P2.ob
 have hkw:k/w<r:=by
  rw[uh (by exact w1)];exact z2 ▸ hk
 obtain⟨row,v,er,ev,hv⟩:=zt3 (f:=n*w+k) (x:=.rc<|AX vw.rc k) P2 w1 (S.pv.same KC.tk).asC (NY S.pv.ln z2<|z2 ▸ hk) (by rw[S.rl];lia);rw[f1]at er;rw[f2]at ev;rw[hd]at hv;revert hv;apply u2;rintro pv tv ⟨rfl,hpv,htv⟩;refine BM ((s1.trans s2) _ _ EJ) (n:=2) rfl rfl (y2 {MP,Q1 _ _ _,BM (s2 _ _ e1) (n:=0) rfl rfl (x6 gp cl w rows m _ {rfl,S.tp,P2,λi row' eb er' l hnl=>?_,λz=>?_})})
 have ei:i=n+k/w:=by
  have:((n+k/w:Nat):Int)=(n:Int)+(k:Int)/(w:Int):=by rw[Io,Hn]
  exact cg eb.symm
 subst ei;rw[er]at er';obtain⟨H3,zz0,s3,e3⟩:=ES (o:=.lst row) hnl;obtain rfl:=μ er';rw[zz0];refine BM (s3 _ _<|s2 _ _ e1) (n:=1) rfl rfl (DC (SqL.of e3) (n:=k%w) (by rw[Ho]) ev (BM (s3 _ _ hpv) (n:=1) rfl rfl {by decide,λp1 LQ=>?_}))
 have s4:=AK (o:=.tup [V.int ↑(led vw k),V.ref tv]) LQ
 have s24:=s3.trans s4;refine q1 (f:=n*w+k) (x:=.rc<|EZ vw k) (s1.free hp) (KC.trans s24) (s24 _ _ e2) ?_ ?_ rfl;rw[<-RB (x:=(n:Int)) w1 rfl];exact s24 _ _<|s2 _ _ e1;rw[zD hd hl];exact x2 p1 tv {rfl,AD,s24 _ _ htv}
 have rl:=S.rl;rcases z with z|z
 exact absurd z<|Int.not_lt.mpr<|lz _
 ·have z:rows.length<=n+k/w:=vt.mp z
  lia
 refine BM EJ (n:=0) rfl rfl ?_;refine BM EJ (n:=0) rfl rfl ?_;refine BM EJ (n:=1) rfl rfl ?_;intro p hp;obtain⟨H2,zz0,s2,e2⟩:=ES (o:=.dT []) hp;rw[zz0];refine y2 {s2 _ _ IG,BY (by decide +kernel),BM (s2 _ _ EJ) (n:=2) rfl rfl (x6 ly n r c w k {rfl,S.tl,S.la.same s2,λt ht=>?_})}
 have s3:=AK (o:=.tup [.int ((n:Int)+(k:Int)/(w:Int)),.int<|(k:Int)%(w:Int)]) ht
 have e3:upd H2 t (.tup [.int ((n:Int)+(k:Int)/(w:Int)),.int<|(k:Int)%(w:Int)]) t=some (.tup<|(pk w<|n*w+k).map kV):=by rw[AD,RB (x:=(n:Int)) w1 rfl]
 revert s3 e3;generalize upd H2 t (.tup [.int ((n:Int)+(k:Int)/(w:Int)),.int<|(k:Int)%(w:Int)])=H3;intro s3 e3
 have FU:=s2.trans s3;refine y2 {FU _ _ IG,BY (by decide +kernel),BM (FU _ _ EJ) (n:=2) rfl rfl (x6 ly n r c w k {rfl,S.tl,S.la.same FU,λt2 ht2=>?_})}
 have s4:=AK (o:=.tup [.int ((n:Int)+r+c+(k:Int)/(w:Int)),.int<|(k:Int)%(w:Int)]) ht2
 have e4:upd H3 t2 (.tup [.int ((n:Int)+r+c+(k:Int)/(w:Int)),.int<|(k:Int)%(w:Int)]) t2=some (.tup<|(pk w<|(n+r+c)*w+k).map kV):=by rw[AD,RB (x:=(n:Int)+r+c) (b:=n+r+c) w1 (by exact rfl)]
 revert s4 e4;intro s4 e4
 have s24:=s3.trans s4
 have f1:(n*w+k)/w=n+k/w:=by rw[dh,nc (by exact w1)]
 have f2:(n*w+k)%w=k%w:=by rw[dh,na]
 have g1:((n+r+c)*w+k)/w=n+r+c+k/w:=by rw[dh,nc (by exact w1)]
 have g2:((n+r+c)*w+k)%w=k%w:=by rw[dh,na]
 have hkw:k/w<r:=by
  rw[uh (by exact w1)];exact z2 ▸ hk
 have mg:D8 [] [(pk w<|n*w+k,V.non),(pk w<|(n+r+c)*w+k,.int 0)]=[(pk w<|n*w+k,V.non),(pk w<|(n+r+c)*w+k,.int 0)]:=XB _ [] (by
  simp only[rg,dk,yr,gy,aa,b_,not_false_eq_true,jr,and_true];intro z
  have:=zK z
  have e9:(n*w+k)/w=((n+r+c)*w+k)/w:=by rw[this]
  rw[f1,g1]at e9
  lia)
 refine{(s24 _ _ e2),[(pk w<|n*w+k,V.non),(pk w<|(n+r+c)*w+k,.int 0)],.cons {{t,rfl,s4 _ _ e3},rfl} (.cons {⟨t2,rfl,e4⟩,rfl} .nil),by simp,?_};rw[mg];refine q p _ _ hp (λy o ey=>by rw[AH (BE ey hp)];exact(s2.trans s24) _ _ ey) AD (.cons ⟨rfl,rfl⟩ (.cons ⟨rfl,rfl⟩ .nil)) (zt2 S.w6 w1 (by rw[f1];lia) (by rw[g1];lia) (by rw[f2,g2]) (by rw[f1,g1];lia));refine BM EJ (n:=0) rfl rfl ?_;push_cast[];refine BM EJ (n:=0) rfl rfl ?_;push_cast[];push_cast[↓tV_];refine BM EJ (n:=1) rfl rfl ?_;push_cast[];refine DW (by decide +kernel) ?_;push_cast[↓tW_];intro p hp;obtain⟨H2,zz0,s2,e2⟩:=ES (o:=.dT []) hp;rw[zz0];refine y2 {s2 _ _ IG,BY (by decide +kernel),BM (s2 _ _ EJ) (n:=2) rfl rfl (x6 ly n r c w k {rfl,S.tl,S.la.same s2,λt ht=>?_})}
 have s3:=AK (o:=.tup [.int ((n:Int)+r+c+r+(k:Int)/(w:Int)),.int<|(k:Int)%(w:Int)]) ht
 have e3:upd H2 t (.tup [.int ((n:Int)+r+c+r+(k:Int)/(w:Int)),.int<|(k:Int)%(w:Int)]) t=some (.tup<|(pk w<|(n+r+c+r)*w+k).map kV):=by rw[AD,RB (x:=(n:Int)+r+c+r) (b:=n+r+c+r) w1 (by exact rfl)]
 exact q1 (f:=(n+r+c+r)*w+k) (x:=.mk<|some 0) hp (s2.trans s3) (s3 _ _ e2) e3 rfl rfl
 ·have EJ:H fd=some (.tup [.str (cu "marked"),.int k]):=EJ;push_cast[Y5,↓tS_];refine BM EJ (n:=0) rfl rfl ?_;push_cast[];refine DW (by decide +kernel) ?_;push_cast[↓tU_];refine BM EJ (n:=0) rfl rfl ?_;push_cast[];push_cast[↓tT_];intro p hp;obtain⟨H2,zz0,s2,e2⟩:=ES (o:=.dT []) hp;rw[zz0];refine y2 {s2 _ _ IG,BY (by decide +kernel),BM (s2 _ _ EJ) (n:=1) rfl rfl (x6 ly n r c w k {rfl,S.tl,S.la.same s2,λt ht=>?_})}
  have s3:=AK (o:=.tup [.int ((n:Int)+r+c+(k:Int)/(w:Int)),.int<|(k:Int)%(w:Int)]) ht
  have e3:upd H2 t (.tup [.int ((n:Int)+r+c+(k:Int)/(w:Int)),.int<|(k:Int)%(w:Int)]) t=some (.tup<|(pk w<|(n+r+c)*w+k).map kV):=by rw[AD,RB (x:=(n:Int)+r+c) (b:=n+r+c) w1 (by exact rfl)]
  exact q1 (f:=(n+r+c)*w+k) (x:=.mk<|some 0) hp (s2.trans s3) (s3 _ _ e2) e3 rfl rfl
def zL{α β :Type}{F: α -> β ->Prop}:∀ {l:List α} {m:List β} (k:Nat),Paired F l m->Paired F (l.take k) (m.take k)
 |_,_,0,_=>.nil
 |_,_,_+1,.nil=>.nil
 |_,_,k+1,.cons h t=>.cons h<|zL k t
def zM{α β :Type}{F: α -> β ->Prop}:∀ {l:List α} {m:List β} (k:Nat),Paired F l m->Paired F (l.drop k) (m.drop k)
 |_,_,0,h=>h
 |_,_,_+1,.nil=>.nil
 |_,_,k+1,.cons h t=>zM k t
def zN{w b:Nat}{cs:Oq}:DF w cs (b+1)=DF w (cs.drop w) b:=by
 unfold DF;rw[List.drop_drop,mf,ua]
def zO{w:Nat}:∀ {rows:qT} {cs:Oq},(∀ r∈rows,r.length=w)->Paired (CelV H) rows.flatten cs->∀ {b:Nat} {row:Oj},rows[b]? =some row->Paired (CelV H) row (DF w cs b)
 | [],_,_,_,_,_,e=>by simp at e
 |r0::rs,cs,hw,P,0,row,e=>by
  obtain rfl:=μ e
  have h0:=hw r0 ω
  have:=zL w P;rw[ii,<-h0,List.take_left]at this;unfold DF;rw[vy,<-h0];exact this
 |r0::rs,cs,hw,P,b+1,row,e=>by
  have h0:=hw r0 ω
  have:=zM w P;rw[ii,<-h0,List.drop_left,h0]at this;rw[zN];exact zO (λr hr=>hw r<|υ _ hr) this e
def zP{w:Nat}:∀ {rows:qT} {cs:Oq},cs.length=rows.length * w->(∀ {b:Nat} {row:Oj},rows[b]? =some row->Paired (CelV H) row (DF w cs b))->Paired (CelV H) rows.flatten cs
 | [],cs,hl,_=>by
  rw[m_,vy]at hl;rw[fb.mp hl];exact .nil
 |r0::rs,cs,hl,h=>by
  rw[cv]at hl
  have h0:=h (b:=0) rfl;unfold DF at h0;rw[vy,Ka]at h0
  have ih:=zP (w:=w) (rows:=rs) (cs:=cs.drop w) (by rw[jn,hl,mf,Nat.add_sub_cancel]) λ{b row} e=>by
   rw[<-zN];exact h  e
  have:=MM h0 ih;rw[jv]at this;exact this
def UY{w:Nat}:∀ {rows:qT},(∀ r∈rows,r.length=w)->rows.flatten.length=rows.length*w
 | [],_=>by simp
 |r::rs,h=>by
  rw[ii,af,UY λx hx=>h x<|υ _ hx,h r ω,cv,mf];exact ua _ _
def zt5(cl:Addr)(w n:Int):(pf cl w n).lookup ("blocks":Str)=none:=L0 _ _ _ (by decide) (by decide) (by decide)
def zQ{w b j:Nat}{cs:Oq}(hj:j<w):(DF w cs b)[j]? =cs[b*w+j]? :=by
 unfold DF;rw[List.getElem?_take,if_pos hj,Bt]
def zt6{w b:Nat}{cs cs':Oq}(h:cs'.map Cel.kind=cs.map Cel.kind):(DF w cs' b).map Cel.kind=(DF w cs b).map Cel.kind:=by
 unfold DF;rw[Be,Bf,Be,Bf,h]
def zR{w b:Nat}{cs:Oq}{c:Cel}(h:c∈DF w cs b):c∈cs:=List.mem_of_mem_drop<|List.mem_of_mem_take h
def zS{w i:Nat}{cs cs':Oq}:NN w (i+1) cs cs'=NN w i cs cs'+if DF w cs i=DF w cs' i then 0 else 1:=by
 unfold NN;rw[bt];by_cases h:DF w cs i=DF w cs' i;simp[h];simp[h]
def zt7{w b j:Nat}(hj:j<w):([.int (b:Int),.int (j:Int)]:Oj)=(pk w<|b*w+j).map kV:=by
 unfold pk
 have h1:(b*w+j)/w=b:=by rw[dh,nc (by lia),Nat.div_eq_of_lt hj,Nat.add_zero]
 have h2:(b*w+j)%w=j:=by rw[dh,na,Nat.mod_eq_of_lt hj]
 rw[h1,h2]
 rfl
structure zT(a:Ad)(gp cl:Addr)(w m M:Nat)(cs cs':Oq)(H:Hp)(i:Nat)(rs:qT)(H':Hp):Prop where
 p:PlankAt a H' gp cl w rs (m+NN w i cs cs')
 l:rs.length=M
 c:∀ {b:Nat} {row:Oj},rs[b]? =some row->Paired (CelV H') row (if b<i then DF w cs' b else DF w cs b)
 s:SameBut (λx=>x=gp\/x=cl) H H'
example:(zt8,YC,Y6,5):=by
 apply u9;rintro gp cl dl w rows m kvs cs cs' ⟨rfl,TP,P,hM,w1,w6,hdl,PC,hk,o1,o2,hc,q⟩;obtain⟨dp,MP⟩:=P.ob;obtain⟨tc,BC,_⟩:=P.ls
 have hcl':cs.length=rows.length*w:=by
  rw[<-PC.length];exact UY P.wd
 have G1:cs'.length=cs.length:=by
  simpa using (congrArg lu hk)
 have ndl:dl≠gp/\dl≠cl:={BB hdl MP (λz=>nomatch z),BB hdl BC (λz=>nomatch z)}
 push_cast[Y6,↓t5_];refine y2 {MP,zt5 _ _ _,x5 gp cl w rows m {rfl,TP,P,?_}};push_cast[];refine{i0,by lia,R4 (λi σ H'=>(∃ rs,zT a gp cl w m rows.length cs cs' H i rs H')/\∃ y2 y3 y4,σ=[some (.ref gp),some<|.ref dl,y2,y3,y4]) {{rows,{P,rfl,λe=>zO P.wd PC e,SameBut.refl _}},x3 _ _ _ rfl} (λi σ H1 hi hzz=>?_) (λσ H1 hzz=>?_)}
 ·obtain⟨⟨rs,J⟩,y2,y3,y4,eσ⟩:=hzz;subst eσ;obtain⟨dp1,hob1⟩:=J.p.ob
  have tk1:DV H H1:=λy ys e=>J.s _ _ e λz=>by
   rcases z with z|z
   ·rw[z,MP]at e;cases e
   ·rw[z,BC]at e;cases e
  have er:=η   (by rw[J.l];exact hi);revert er;generalize rs[i]'(by rw[J.l];exact hi)=row;intro er
  have Pr:=J.c er;rw[if_neg (jm _)]at Pr
  have hrw:=J.p.wd row<|θ er;push_cast[↓tX_,uc];refine x2 _ _ {hob1,Q1 _ _ _,x6 gp cl w rs _ i {rfl,TP,J.p,λi' row' eb er' l hl=>?_,λz=>by rw[J.l]at z;lia}};obtain rfl:i=i':=cg eb;rw[er]at er';cases er';obtain⟨H2,zz0,s2,e2⟩:=ES  hl;rw[zz0];push_cast[↓tY_];refine{{_,SqL.of e2},W8  (λ_=>true) (CF _<|oA (ψ (bc hrw) w6) rfl) (λj ys H'=>Same H2 H'/\Paired (CelV H') ys ((DF w cs' i).take j)) {Same.refl _,.nil} (λj ys H' hj ⟨s,P⟩=>{SqL.of<|s _ _ e2,?_}) (λj ys H' t o ⟨s,P⟩ h=>{HG s h,Paired.mapP P λv c=>CelV.keep (AK h).tk}) (λj x ys H' hx _ QB qb=>qb) (λj x ys H' hx _ hzz=>?_) (λj x ys H' hx hp=>by cases hp) (λys H3 hzz l2 CY=>?_)}
  ·rw[P.length,cz];lia
  ·obtain⟨s,P⟩:=hzz
   have hj:j<w:=by rw[<-hrw];exact(ε.mp hx).1
   push_cast[CH]
   have hd':=s _ _<|s2 _ _<|J.s _ _ hdl λz=>z.elim ndl.1 ndl.2
   have AY:i*w+j<cs.length:=by
    rw[hcl']
    have:=ve w<|show i+1<=rows.length from hi;rw[mf]at this
    lia
   refine{.inr {kvs,.inl hd'},by decide,λp hp=>{A5 kvs<|pk w<|i*w+j,?_,HG s hp,?_}}
   ·have sp:=AK (o:=.tup [V.int (i:Int),V.int (j:Int)]) hp;exact DGet.t (sp _ _ hd') (by rw[AD,zt7 hj])
   ·have sp:=AK (o:=.tup [V.int (i:Int),V.int (j:Int)]) hp
    have ec':=η (l:=cs') (i:=i*w+j) (by rw[G1];exact AY);revert ec';generalize cs'[i*w+j]'(by rw[G1];exact AY)=c';intro ec';obtain⟨c,ec,hv⟩:=KB Pr hx;rw[zQ hj]at ec;rw[JB (x:=c') (by rw[zQ hj];exact ec')];refine Paired.snoc (Paired.mapP P λv c=>CelV.keep sp.tk) ?_
    have s1p:=(s2.trans s).trans sp;rcases hc _ c c' ec ec' with⟨e1,e2'⟩|⟨v,e1,e2'⟩
    ·rw[e1,e2'];exact CelV.keep s1p.tk hv
    ·rw[e1];exact CelV.keep s1p.tk<|CelV.keep tk1 e2'
  ·obtain⟨s,P⟩:=hzz
   have hcl3:(DF w cs' i).length=w:=by
    unfold DF;rw[cz,jn,G1,hcl']
    have:=ve w<|show i+1<=rows.length from hi;rw[mf]at this
    lia
   rw[hrw,gb (by exact bc hcl3)]at P;obtain⟨H4,zz0,s4,e4⟩:=ES (o:=.lst ys) CY;rw[zz0]
   have s14:=(s2.trans s).trans s4
   have P4:Paired (CelV H4) ys (DF w cs' i):=Paired.mapP P λv c=>CelV.keep s4.tk
   have hys:ys.length=w:=by rw[P4.length,hcl3]
   have J4:zT a gp cl w m rows.length cs cs' H i rs H4:={J.p.same s14,J.l,λe=>Paired.mapP (J.c e) λv c=>CelV.keep s14.tk,J.s.trans s14.sb}
   push_cast[↓t3_];refine ztz e4 ((s.trans s4) _ _ e2) P4 (Paired.mapP Pr λv c=>CelV.keep s14.tk) (λc hc=>o2 c<|zR hc) (λc hc=>o1 c<|zR hc) (zt6 hk) ?_;simp only[O4];by_cases he:DF w cs' i=DF w cs i
   ·refine DW (by simp[he]) ?_;refine{rs,{by rw[zS,if_pos he.symm];exact J4.p,J4.l,λ{b row} e=>?_,J4.s}}
    have:=J4.c e;by_cases hb:b=i
    ·rw[hb,if_neg<|jm _]at this;rw[hb,if_pos<|f_ _,he];exact this
    ·simp only[show(b<i+1)=(b<i)from propext {λh=>by exact mh (fe h) hb,λh=>by exact bz h}];exact this
   ·refine E5 (by simp[he]) ?_;obtain⟨dp4,hob4⟩:=J4.p.ob;obtain⟨tc4,hcl4,_⟩:=J4.p.ls;push_cast[↓tZ_];refine x2 _ _ {hob4,xY _ _ _,x8 gp cl w rs _ (i:Int) l2 ys {rfl,TP,J4.p,SqL.of e4,by lia,λi' eb hb' hyl H5 P5 GH=> ?_,λz=>by rw[J.l]at z;lia}};obtain rfl:i=i':=cg eb
    have tk5:DV H4 H5:=λy ys e=>GH _ _ e λz=>by
     rcases z with z|z
     ·rw[z,hob4]at e;cases e
     ·rw[z,hcl4]at e;cases e
    refine{rs.set i ys,{?_,by rw[jw];exact J.l,λ{b row} e=>?_,J4.s.trans GH}}
    ·rw[zS,if_neg<|λz=>he z.symm,<-eh];exact P5
    ·by_cases hb:b=i
     ·subst hb;rw[fz (by rw[J.l];exact hi)]at e;cases e;rw[if_pos (f_ _)];exact Paired.mapP P4 λv c=>CelV.keep tk5
     ·rw[ia (λz=>hb z.symm)]at e
      have:=J4.c e;simp only[show(b<i+1)=(b<i)from propext {λh=>by exact mh (fe h) hb,λh=>by exact bz h}];exact Paired.mapP this λv c=>CelV.keep tk5
 ·obtain⟨⟨rs,J⟩,y2,y3,y4,eσ⟩:=hzz;subst eσ;refine q rs H1 J.p J.l (zP (w:=w) (by rw[J.l,G1,hcl']) λ{b row} e=>?_) J.s
  have hb:b<rows.length:=by rw[<-J.l];exact(ε.mp e).1
  have:=J.c e;rw[if_pos hb]at this;exact this
def Z3{vw:Vw}(ok:D9 vw):∀ c∈DE vw,c.ok:=λc hc=>by
 unfold DE at hc;simp only[a_,av]at hc;rcases hc with(((⟨x,hx,rfl⟩|⟨x,hx,rfl⟩)|⟨x,hx,rfl⟩)|⟨x,hx,rfl⟩)|⟨x,hx,rfl⟩
 cases x with
 |none=>exact trivial
 |some d=>exact(ok.n1 d hx).2
 cases x<;>exact trivial;cases x with
 |none=>exact trivial
 |some d=>exact ok.n3 d hx
 cases x<;>exact trivial;cases x<;>exact trivial
def JD{α :Type}{f: α ->Cel}(h:∀ x,(f x).kind=k)(l:List α):(l.map f).map Cel.kind=bd l.length k:=by
 rw[pr]
 induction l with
 |nil=>rfl
 |cons x r ih=>rw[dk,ih];exact congrArg (· ::_) (h x)
def zt9{vw:Vw}(ok:D9 vw):(DE<|mended vw).map Cel.kind=(DE vw).map Cel.kind:=by
 have ok2:=UW ok
 have l1:(mended vw).rc.length=vw.rc.length:=by
  show((ξ _).map _).length=_;simp
 unfold DE;simp only[ak];rw[JD  (f:=Cel.nm) λz=>rfl,JD  (f:=Cel.rc) λz=>rfl,JD  (f:=Cel.pc) λz=>rfl,JD  (f:=Cel.mk) λz=>rfl,JD  (f:=Cel.mk) λz=>rfl,
  JD  (f:=Cel.nm) λz=>rfl,JD  (f:=Cel.rc) λz=>rfl,JD  (f:=Cel.pc) λz=>rfl,JD  (f:=Cel.mk) λz=>rfl,JD  (f:=Cel.mk) λz=>rfl,ok2.l1,ok2.l2,ok.l1,ok.l2,l1]
 rfl
def zU{P:List AN->V->Prop}:∀ {more kvs:rC},(∀ k v,A5 kvs k=some v->P k v)->(∀ kv∈more,P kv.1 kv.2)->∀ k v,A5 (D8 kvs more) k=some v->P k v
 | [],kvs,h,_=>h
 |p::r,kvs,h,hm=>zU  (kvs:=B0 _ _ _) (λk v e=>by
   rw[F8]at e;by_cases z:k=p.1;rw[if_pos z]at e;obtain rfl:=μ e;rw[z];exact hm p ω;rw[if_neg z]at e;exact h k v e) λkv hkv=>hm kv<|υ _ hkv
def Z4:∀ {more kvs:rC} {k:List AN},(A5 kvs k).isSome=true->(A5 (D8 kvs more) k).isSome=true
 | [],_,_,h=>h
 |p::r,kvs,k,h=>Z4  (kvs:=B0 _ _ _) (by
   rw[F8];split
   rfl;exact h)
def zV:∀ {more kvs:rC} {kv:List AN × V},kv∈more->(A5 (D8 kvs more) kv.1).isSome=true
 | [],_,_,h=>by cases h
 |p::r,kvs,kv,h=>by
  rcases ax.mp h with rfl|h
  exact Z4  (kvs:=B0 _ _ _) (by rw[F8,if_pos rfl];rfl);exact zV (more:=r) h
def zua(lv:Lv):(EQ vw n r c w lv).length<=2:=by
 cases lv<;>simp[EQ]
structure DuI(vw:Vw)(n r c w:Nat)(dl:Addr)(H2:Hp)(i:Nat)(kvs:rC)(H':Hp):Prop where
 s:Same H2 H'
 e:H' dl=some (.dT kvs)
 A:∀ k v,A5 kvs k=some v->∃ lv∈E3 vw,∃ fx∈EQ vw n r c w lv,k=pk w fx.1/\CelV H' v fx.2
 B:∀ j lv,j<i->(E3 vw)[j]? =some lv->∀ fx∈EQ vw n r c w lv,(A5 kvs<|pk w fx.1).isSome=true
 l:kvs.length<=2*i
def zuc(ok:D9 vw):(E3 vw).length<=400:=by
 obtain⟨z,z,z,m4,m5,m6⟩:=US ok
 have:=congrArg lu<|zB vw;unfold MD at this;simp only[af,ζ]at this
 lia
def Site.ground(S:Site K a H ly gp cl n r c w rows m vw):Ground K a H ly gp vw:=x7 cl n r c w _ m ⟨S.tv,S.tl,S.tp,S.la,S.pl,S.rl,S.pv⟩
def Site.same{ly gp cl:Addr}{n r c w:Nat}{rows:qT}{m:Nat}{vw:Vw}{H':Hp}(S:Site K a H ly gp cl n r c w rows m vw)(s:Same H H'):Site K a H' ly gp cl n r c w rows m vw:={S.tv,S.tl,S.tp,S.la.same s,S.pl.same s,S.rl,S.pv.same s.tk,S.w1,S.w6,S.n6,S.r6,S.c6}
example:(zud,nQ,ZH,5):=by
 apply RI;rintro ly gp cl n r c w rows m vw ⟨rfl,S,hf,q⟩
 have z1:=S.pv.ln
 have z2:=S.pv.lr
 have z3:=S.pv.lp
 have ok:=S.pv.ok
 have n6:=S.n6
 have r6:=S.r6
 have c6:=S.c6
 have rl:=S.rl;refine x3 ly gp vw {rfl,S.ground,λH1 s1=>?_};rw[decide_eq_true hf];refine x3 ly gp vw {rfl,S.ground.same s1,λfo H2 hfo s2 F2=>?_};rw[hf,rg]at F2
 have F0:=F2;rw[zB]at F2;obtain⟨ps,efo,PF⟩:=F2
 have KC:=s1.trans s2;intro dl hdl;obtain⟨H3,zz0,s3,e3⟩:=ES  hdl;rw[zz0]
 have ln:=zuc ok
 have pl:ps.length=(E3 vw).length:=by rw[PF.length,ζ]
 refine .inl {{_,SqL.of<|s3 _ _ efo},FN  (λi σ H'=>(∃ kvs,DuI vw n r c w dl H2 i kvs H')/\∃ y,σ=[some (.ref ly),some<|.ref gp,some<|.ref fo,some<|.ref dl,y]) {{[],{s3,e3,λk v h=>(by cases h),λj lv h=>absurd h<|mw _,ρ _}},_,rfl} (λi σ H' _ {⟨_,J⟩,_}=>SqL.of<|J.s _ _ efo) (λi x σ H4 hx hzz=>?_) (λσ H4 hzz=>?_)}
 ·obtain⟨⟨kvs,J⟩,y,eσ⟩:=hzz;subst eσ;rw[τ,ae]at hx;obtain⟨fd,efd,rfl⟩:=hx;obtain⟨g,eg,EJ⟩:=KB PF efd;rw[τ,ae]at eg;obtain⟨lv,elv,rfl⟩:=eg
  have hlv:=θ elv
  have hi:=(ε.mp elv).1;push_cast[↓vO_];refine{.inr<|.inr<|.inl {rfl,.inr ⟨kvs,J.e⟩},N3 ly gp cl fd n r c w rows m vw lv {rfl,(S.same KC).same J.s,hlv,J.s _ _ EJ,λdm more H5 hdm s5 e5 PM ap=>?_}}
  have ml:more.length<=2:=by rw[PM.length];exact zua lv
  have jl:=J.l
  have tk6:DV H5 (upd H5 dl<|.dT<|D8 kvs more):=λy ys ey=>by rw[AH (BB ey (s5 _ _ J.e) (λz=>nomatch z))];exact ey
  refine x4 dl dm kvs more {rfl,rfl,BE J.e hdm,s5 _ _ J.e,e5,λ_=>ap,CF _ (by lia),D8 kvs more,{λy o ey=>?_,AD,?_,λj lv' hj ej fx hfx=>?_,?_}}
  ·rw[AH (BE ey hdl)];exact s5 _ _<|J.s _ _ ey
  ·refine zU (λk v e=>?_) λkv hkv=>?_
   ·obtain⟨lv',h1,fx,h2,h3,h4⟩:=J.A k v e;exact{lv',h1,fx,h2,h3,CelV.keep tk6<|CelV.keep s5.tk h4}
   ·obtain⟨k,ek⟩:=O9 hkv;obtain⟨fx,efx,h1,h2⟩:=KB PM ek;exact{lv,hlv,fx,θ efx,h1,CelV.keep tk6 h2}
  ·by_cases hji:j<i
   ·exact Z4<|J.B j lv' hji ej fx hfx
   ·obtain rfl:j=i:=jx (fe hj) (ck hji);rw[elv]at ej;cases ej;obtain⟨k,ek⟩:=O9 hfx;obtain⟨kv,ekv,h1,_⟩:=G7 PM ek;rw[<-h1];exact zV<|θ ekv
  ·have:=XA more kvs
   lia
 ·obtain⟨⟨kvs,J⟩,y,eσ⟩:=hzz;subst eσ
  have S4:=(S.same KC).same J.s
  have w1:=S.w1;obtain⟨dp,hgp⟩:=S4.pl.ob;obtain⟨tc,BC,_⟩:=S4.pl.ls;obtain⟨dp1,hgp1⟩:=(S.same s1).pl.ob;obtain⟨tc1,hcl1,_⟩:=(S.same s1).pl.ls
  have nfo:fo≠gp/\fo≠cl:={(BE hgp1 hfo).symm,(BE hcl1 hfo).symm}
  have ok2:=UW ok
  have g2:(mended vw).rc.length=r*w:=by
   show((ξ vw.rc.length).map (EZ vw)).length=_;simp[z2]
  have e0:(n+r+c+r+c)*w=n*w+r*w+c*w+r*w+c*w:=by simp only[dz]
  push_cast[↓vP_];refine x9 gp cl dl w rows m kvs (DE vw) (DE<|mended vw) {rfl,S.tp,S4.pl,by lia,w1,S.w6,J.e,S4.pv.asC,zt9 ok,Z3 ok,Z3 ok2,λf x x' ex iQ=>?_,λrows' H5 P5 hl5 PC5 GH=>?_}
  ·have AY:f<n * w+r * w+c * w+r * w+c * w:=by
    have:=(ε.mp ex).1;rw[zE vw ok]at this
    lia
   cases ev:A5 kvs (pk w f)with
   |none =>
    refine .inl {rfl,?_}
    have:=ztw ok z1 z2 z3 hf AY λlv hlv fx hfx e=>?_
    ·rw[ex,iQ]at this;exact μ this
    ·obtain⟨j,ej⟩:=O9 hlv
     have hj:j<(ps.map V.ref).length:=by rw[ζ,pl];exact(ε.mp ej).1
     have:=J.B j lv hj ej fx hfx;rw[e,ev]at this;cases this
   |some v =>
    obtain⟨lv,hlv,fx,hfx,e1,e2⟩:=J.A _ v ev
    have:=zK e1
    have h3:=ztv ok z1 z2 z3 hlv hfx;rw[<-this,iQ]at h3;cases h3;exact .inr ⟨v,rfl,e2⟩
  ·have tk5:DV H4 H5:=λy ys e=>GH _ _ e λz=>by
    rcases z with z|z
    ·rw[z,hgp]at e;cases e
    ·rw[z,BC]at e;cases e
   push_cast[↓vQ_];exact q fo rows' H5 (s1.free hfo) ((F0.same J.s).on (λo e=>GH _ _ e λz=>z.elim nfo.1 nfo.2) tk5) P5 (by rw[hl5,rl]) (PlV.of PC5 z1 g2 z3 ok2) ((KC.trans J.s).sb.trans GH)
def zW:∀ {es:List AC},(∀ j,as.length<=j->C j=false)->sh M C (es++as)=sh M C as
 | [],_=>rfl
 |e::es,h=>by
  rw[ul,D4 (by rw[h _ (by simp)];exact aw)];exact zW h
def Z5{tks:rR}{z:Str}{k:Nat}:LG (B0 tks (.inr z) (.int (k:Nat)))=EC (LG tks) z k:=by
 funext y;unfold LG EY EC;rw[F8];by_cases e:y=z;subst e;rw[if_pos rfl,if_pos rfl];rfl;rw[if_neg (λh=>e<|L_ h),if_neg e]
def Z6{tks:rR}{z:Str}{j:Nat}(h:LG tks z=some j):j∈EY tks z:=List.mem_of_mem_head? h
def LaidA.off{n r c w:Nat}{cs:Ox}{as:List AC}{B:Md}(h:LaidA n r c w H cs as)(b:∀ kind k,¬ k<BH n r c w kind->B kind k=.no){C:YY}{kind k:Nat}(hk:¬ k<BH n r c w kind):sh B C as kind k=.no:=by
 induction h with
 |nil=>exact b _ _ hk
 |@snoc cs as ch x l e1 e2 e3 e4 e5 e6 ih =>
  by_cases c:C as.length=true;rw[CS c];unfold Md.put;rw[if_neg (λe=>hk (by rw[e.1,e.2];exact e6))];exact ih;rw[D4 c];exact ih
def zue(b:∀ kind k,DS kind<|B kind k)(h:∀ x∈as,DS x.kind x.x)(kind k:Nat):DS kind (sh B C as kind k):=by
 induction as with
 |nil=>exact b _ _
 |cons x r ih =>
  have ih:=ih λy hy=>h y<|υ _ hy;by_cases c:C r.length=true;rw[CS c];unfold Md.put;split;rename_i z;rw[z.1];exact h x ω;exact ih;rw[D4 c];exact ih
section
variable{X:SX}{cs:Ox}{tks:rR}{M:Hs}
def SM.out(I:X.at a H cs tks M){j:Nat}(hj:cs.length<=j):X.outs j=false:=by
 obtain⟨DO,e,hv,ks⟩:=I.bk.bk.out;cases eo:X.outs j with
 |false=>rfl
 |true =>
  rw[<-hv,<-JQ]at eo;obtain⟨p,hp,ep⟩:=c_.mp eo
  have:=ks.2 p hp
  lia
def C6.more{H':Hp}{ex:Ox}{tks':rR}{M':Hs}(I:C6 a H X cs tks M)(I':X.at a H' (cs++ex) tks' M')(sb:SameBut (λx=>X.S.A.F x\/x=X.S.tk) H H')(hH:∃ o,Hist X.m0 M'.b M'.as (LG tks') o)(hb:M'.b=M.b)(hs:∃ es,M'.as=es++M.as/\∀ x∈es,DS x.kind x.x):C6 a H' X (cs++ex) tks' M':=by
 obtain⟨es,he,ho⟩:=hs
 have out:∀ j:Nat,cs.length<=j->X.outs j=false:=λj hj=>I.st.out hj;refine{I',hH,hb ▸ I.bo,λk c ec o=>?_,?_,I.few,λx hx=>?_,I.w1};by_cases hk:k<cs.length;rw[ba hk]at ec;exact I.cut k c ec o;rw[out k (ck hk)]at o;cases o;rw[hb,he,zW λj hj=>out j (by rw[I.st.la.len];exact hj)];exact I.rows.keep (J7 sb λx hx=>hx.elim (λh=>I.st.bk.loose h) λh=>by rw[h];exact K3 I.st.tk);rw[he]at hx;rcases a_.mp hx with h|h
 exact ho x h;exact I.ok x h
def UZ{m:Nat}{z:Str}(h:cellOf M m z=none):∀ j r,j<m->M 0 j≠.nm z r:=λj r hj e=>by
 have:=ju.mp h j<|ai.mpr hj;unfold EF at this;rw[e]at this;simp at this
def Z7{cell:Nat}(h:GT 0 (M 0 cell)=true):M 0 cell=.no:=by
 cases e:M 0 _ with
 |no=>rfl
 |_=>rw[e]at h;simp[GT]at h
def zX{kind k:Nat}(h:GT kind (M kind k)=true):M kind k≠.mk 1:=λe=>by
 rw[e]at h;simp[GT]at h
def C6.snd(I:C6 a H X cs tks M):Snd X.m0 (sh M.b X.C M.as):=by
 obtain⟨o,hi⟩:=I.hi;exact hi.sd _<|I.st.la.cut I.cut
def C6.now(I:C6 a H X cs tks M):Snd X.m0 M.f:=by
 obtain⟨o,hi⟩:=I.hi;exact hi.now
def C6.inl(I:C6 a H X cs tks M)(C:YY):InL X.n X.r X.c X.w (sh M.b C M.as):={λz z h=>I.st.la.off I.bo.no h,zue I.bo.ok I.ok}
end
def Snd.few{n r c w:Nat}{S:Md}(s:Snd (n*w) S)(b:InL n r c w S){q m:Nat}{ps:Oz}(h:S 3 q=.rc m ps):(∀ p∈ps,p<c*w)/\ps.length<=c*w:=by
 have lt:∀ p∈ps,p<c*w:=λp hp=>by
  have e:=(s.pm q m ps h p hp).1;rcases e_ p _ with z|z
  exact z;rw[b.no 2 p (λhk=>nL hk z)]at e;cases e
 have:=uv (s.nd q m ps h)  λp hp=>ai.mpr<|lt p hp;rw[cy]at this;exact⟨lt,this⟩
def Snd.rl{n r c w:Nat}{S:Md}(s:Snd (n*w) S)(b:InL n r c w S){k q:Nat}{z:Str}(hk:k<n*w)(e:S 0 k=.nm z q):∃ m ps,q<r*w/\S 3 q=.rc m ps:=by
 refine u2 ?_<|s.nl k z q hk e;rintro m ps e3;refine x2 m ps {?_,e3};rcases e_ q _ with h|h
 exact h;rw[b.no 3 q (λhk=>nL hk h)]at e3;cases e3
section
variable{X:SX}{cs:Ox}{tks:rR}{M:Hs}
def C6.ps(I:C6 a H X cs tks M){r m:Nat}{ps:Oz}(h:M 3 r=.rc m ps):(∀ p∈ps,p<X.c*X.w)/\ps.length<=18:=by
 have:=I.now.few (I.inl _) h;exact{this.1,ψ this.2 I.few}
def C6.rl(I:C6 a H X cs tks M){k rec:Nat}{z:Str}(hk:k<X.m0)(e:M 0 k=.nm z rec):∃ m ps,rec<X.r*X.w/\M 3 rec=.rc m ps:=I.now.rl (I.inl _) hk e
def SM.sbG{G:Addr->Prop}{H':Hp}(I:X.at a H cs tks M)(s:SameBut G H H')(g:∀ x,G x->EW (H x))(f:∀ x,G x->¬ X.S.A.F x/\x≠X.S.tk):X.at a H' cs tks M:=by
 obtain⟨⟨dx,e1⟩,e2,e3,e4,e5,e6,e7,e8,e9,e10,e11,e12⟩:=I;obtain⟨dl,el⟩:=e2.ob
 have tk:=J7 s g;exact{{dx,s _ _ e1 λz=>(g _ z).2 _ _ _ e1},e2.sb s λz=>(g _ z).2 _ _ _ el,e3.sb s g λx hx=>(f x hx).1,s _ _ e4 λz=>(f _ z).2 rfl,e5,e6,e7,e8,e9.keep tk,λkind k v h1 h2 hv=>(e10 _ k v h1 h2 hv).keep tk,e11,e12.keep tk}
def C6.sbG{G:Addr->Prop}{H':Hp}(I:C6 a H X cs tks M)(s:SameBut G H H')(g:∀ x,G x->EW (H x))(f:∀ x,G x->¬ X.S.A.F x/\x≠X.S.tk):C6 a H' X cs tks M:={I.st.sbG s g f,I.hi,I.bo,I.cut,I.rows.keep<|J7 s g,I.few,I.ok,I.w1}
def C6.same{H':Hp}(I:C6 a H X cs tks M)(s:Same H H'):C6 a H' X cs tks M:={I.st.same s,I.hi,I.bo,I.cut,I.rows.keep s.tk,I.few,I.ok,I.w1}
def C6.write(I:C6 a H X cs tks M)(er:X.rows[b]? =some row)(I':(X.wr cs b row).at a H' cs tks M)(sb:SameBut (λx=>X.S.A.F x\/x=X.S.A.gp) H H'):C6 a H' (X.wr cs b row) cs tks M:=by
 obtain⟨dp,ep⟩:=I.st.bk.pk.ob;exact{I',I.hi,I.bo,zel I.cut b,(I.rows.write I.st.la er).keep (λy ys e=>sb _ _ e λz=>z.elim (λz=>(I.st.bk.loose z).1 _ e) λz=>by rw[z,ep]at e;cases e),I.few,I.ok,I.w1}
end
def zY:Nat->CV->Cel
 |0,x=>.nm<|NO x
 |1,x=>.mk<|GG x
 |2,x=>.mk<|GG x
 |3,x=>.rc<|MF x
 |_,x=>.pc<|QT x
def GZ(n r c kind:Nat):Nat:=if kind=0 then 0 else if kind=1 then n+r+c else if kind=2 then n+r+c+r else if kind=3 then n else n+r
def zZ(hk:kind<5)(ok:DS kind x):RepC H x v↔CelV H v (zY kind x):=by
 rcases kind with _|_|_|_|_|k
 all_goals cases x<;>first|exact ok.elim|exact Ls
section
variable{n r c w:Nat}{S:Md}
def z8(k:Nat):AX (BV n r c w S).nm k=if k<n*w then NO (S 0 k)else none:=LK
def z9(k:Nat):AX (BV n r c w S).rc k=if k<r*w then MF (S 3 k)else none:=LK
def Ab(k:Nat):AX (BV n r c w S).pc k=if k<c*w then QT (S 4 k)else none:=LK
def Ac(k:Nat):AX (BV n r c w S).rm k=if k<r*w then GG (S 1 k)else none:=LK
def Ag(k:Nat):AX (BV n r c w S).pm k=if k<c*w then GG (S 2 k)else none:=LK
def JE:(BV n r c w S).nm.length=n*w:=by simp[BV]
def JF:(BV n r c w S).rc.length=r*w:=by simp[BV]
def LM:(BV n r c w S).pc.length=c*w:=by simp[BV]
def InL.rc(b:InL n r c w S)(k:Nat):AX (BV n r c w S).rc k=MF (S 3 k):=by
 rw[z9];split
 rfl;rename_i h;rw[b.no 3 k (h)];rfl
def InL.nm(b:InL n r c w S)(k:Nat):AX (BV n r c w S).nm k=NO (S 0 k):=by
 rw[z8];split
 rfl;rename_i h;rw[b.no 0 k (h)];rfl
def InL.pc(b:InL n r c w S)(k:Nat):AX (BV n r c w S).pc k=QT (S 4 k):=by
 rw[Ab];split
 rfl;rename_i h;rw[b.no 4 k (h)];rfl
def InL.rm(b:InL n r c w S)(k:Nat):AX (BV n r c w S).rm k=GG (S 1 k):=by
 rw[Ac];split
 rfl;rename_i h;rw[b.no 1 k (h)];rfl
def InL.pm(b:InL n r c w S)(k:Nat):AX (BV n r c w S).pm k=GG (S 2 k):=by
 rw[Ag];split
 rfl;rename_i h;rw[b.no 2 k (h)];rfl
def zuf(h:NO x=some (z,q)):x=.nm z q:=by
 cases x<;>simp[NO]at h;rw[h.1,h.2]
def zug(h:MF x=some d):∃ m:Nat,x=.rc m d.2/\d.1=m:=by
 cases x with
 |rc m ps=>cases h;exact⟨m,rfl,rfl⟩
 |_=>cases h
def zuh(h:QT x=some z):x=.tx z:=by
 cases x with
 |tx y=>cases h;rfl
 |_=>cases h
def RC(q:Nat):led (BV n r c w S) q=ld (n * w) S q:=by
 unfold led ld IZ BV;generalize ξ _=l
 induction l with
 |nil=>rfl
 |cons k l ih =>
  rw[dk,yh];cases e:S 0 k with
  |nm z q' =>
   show List.count q (q'::_)=_;rw[List.count_cons,ih]
   rfl
  |_=>exact ih
def Ah(h:0<ld (n*w) S q):∃ k z,k<n*w/\S 0 k=.nm z q:=by
 obtain⟨k,hk,e⟩:=qx.mp h;cases e0:S 0 k with
 |nm z q' =>
  rw[e0]at e
  have:q'=q:=by simpa [FG]using e
  exact x2 k z {ai.mp hk,by rw[<-this];exact e0}
 |_=>rw[e0]at e;cases e
def Aj(hk:k<n*w)(e:S 0 k=.nm z q):0<ld (n*w) S q:=qx.mpr {k,ai.mpr hk,by rw[e];simp[FG]}
def zui(b:InL n r c w S)(h:0<EO (BV n r c w S) p):∃ q m ps,S 3 q=.rc m ps/\p∈ps:=by
 obtain⟨d,hd,hp⟩:=uw.mp<|Ca.mp h;obtain⟨k,hk,rfl⟩:=av.mp hd;cases e:S 3 k with
 |rc m ps=>rw[e]at hp;exact x3 k m ps ⟨e,hp⟩
 |_=>rw[e]at hp;cases hp
def zuj(s:Snd (n * w) S)(p:Nat):EO (BV n r c w S) p<=1:=by
 refine zz.mp (List.pairwise_flatMap.mpr {λd hd=>?_,List.pairwise_map.mpr<|il.imp λ{i j} hij x hx y hy z=>?_}) p;obtain⟨k,hk,rfl⟩:=av.mp hd;cases e:S 3 k with
 |rc m ps=>exact s.nd k m ps e
 |_=>exact .nil
 cases e:S 3 i with
 |rc m ps =>
  cases e':S 3 j with
  |rc m' ps' =>
   rw[e]at hx;rw[e']at hy;exact s.dj i j m m' ps _ (bg hij) e e' x hx (z ▸ hy)
  |_=>rw[e']at hy;cases hy
 |_=>rw[e]at hx;cases hx
def MN(h:∀ k,k<n->p k=false):C9 n p f=[]:=by
 unfold C9;rw[yw.mpr λk hk=>by rw[h k (ai.mp hk)];exact aw]
 rfl
def Snd.fault(s:Snd (n * w) S)(b:InL n r c w S):faults (BV n r c w S)=[]:=by
 have pm:∀ {p},0<EO _ p->S 2 p=.mk 1/\∃ t,S 4 p=.tx t:=λ{p} h=>by
  refine u3 ?_<|zui b h;rintro q m ps ⟨e,hp⟩;exact s.pm q m ps e p hp
 have z1:∀ k,k<(BV n r c w S).nm.length->HE _ k=false:=λk hk=>by
  unfold HE;rw[b.nm];cases e:S 0 k with
  |nm z q =>
   refine u2 ?_ (s.nl k z q (by rw[JE]at hk;exact hk) e);rintro m ps e3
   show(AX _ q).isNone=false;rw[b.rc,e3];rfl
  |_=>rfl
 have z2:∀ k,k<(BV n r c w S).nm.length->IA _ k=false:=λk hk=>by
  unfold IA;rw[b.nm];cases e:S 0 k with
  |nm z q =>
   show List.any _ _=false;rw[xa];intro j hj
   have hj:=ai.mp hj;rw[b.nm];cases e':S 0 j with
   |nm z' q' =>
    have hk:k<n*w:=by rw[JE]at hk;exact hk
    show ¬ decide _=true;rw[decide_eq_true_eq];rintro rfl
    have:=s.un j k z' q' q (yp hj hk) hk e' e
    lia
   |_=>exact aw
  |_=>rfl
 have z3:∀ p,p<(BV n r c w S).pc.length->decide (1<EO (BV n r c w S) p)=false:=λp hp=>by
  have:=zuj (r:=r) (c:=c) s p
  lia
 have z4:∀ p,p<(BV n r c w S).pc.length->(decide _&&(AX _ p).isNone)=false:=λp hp=>by
  by_cases h:0<EO (BV n r c w S) p;obtain⟨y,t,e⟩:=pm h;rw[b.pc,e,decide_eq_true h];rfl;rw[decide_eq_false h];rfl
 have z5:∀ q,q<(BV n r c w S).rc.length->JA _ q=false:=λq hq=>by
  unfold JA;rw[b.rc];cases e:S 3 q with
  |rc m ps =>
   have:=s.ct q m ps e
   show decide _=false;rw[RC];lia
  |_=>rfl
 have z6:∀ q,q<(BV n r c w S).rc.length->(decide (0<led (BV n r c w S) q) && !decide (AX (BV n r c w S).rm q=some 1))=false:=λq hq=>by
  rw[RC,b.rm];by_cases h:0<ld (n*w) S q;refine u2 ?_<|Ah h;rintro k z ⟨hk,e⟩;refine u2 ?_<|s.nl k z q hk e;rintro m ps e3;rw[s.mr q m ps e3,decide_eq_true h];rfl;rw[decide_eq_false h];rfl
 have z7:∀ p,p<(BV n r c w S).pc.length->(decide _ && !decide (AX (BV n r c w S).pm p=some 1))=false:=λp hp=>by
  by_cases h:0<EO (BV n r c w S) p;rw[b.pm,(pm h).1,decide_eq_true h];rfl;rw[decide_eq_false h];rfl
 unfold faults QH QI QJ;rw[MN z1,MN z2,MN z3,MN z4,MN z5,MN z6,MN z7]
 rfl
end
section
variable{n r c w:Nat}{S:Md}
def Ak(e:S 3 k=.rc m ps)(h:0<ld (n*w) S k):D6 n r c w S 3 k=.rc (ld (n*w) S k) ps:=by
 unfold D6;simp only[lm,if_false,if_true,e];rw[if_neg (iy h)]
def NZ(h:D6 n r c w S 3 k=.rc m ps):∃ m',S 3 k=.rc m' ps/\0<ld (n*w) S k/\m=ld (n*w) S k:=by
 unfold D6 at h;simp only[lm,if_false,if_true]at h;cases e:S 3 k with
 |rc m' ps' =>
  rw[e]at h;simp only at h;split at h;cases h;cases h;exact{m',rfl,by lia,rfl}
 |_=>rw[e]at h;cases h
def Snd.mended(s:Snd (n*w) S)(b:InL n r c w S):Snd (n*w) (D6 n r c w S):=by
 refine{λk z q hk e=>?_,λq m ps e=>?_,λq m ps e=>?_,λq m ps e=>?_,λq m ps e p hp=>?_,λq q' m m' ps ps' hn e e'=>?_,s.un};refine u2 ?_<|s.nl k z q hk e;rintro m ps e3;exact x2 _ _<|Ak e3<|Aj hk e;obtain⟨m',x,x,rfl⟩:=NZ e;exact bc<|(λq=>rfl) q;obtain⟨m',e3,h,x⟩:=NZ e;unfold D6;simp only[e3];rw[if_neg (iy h)];exact s.mr q m' ps e3;obtain⟨m',e3,x,x⟩:=NZ e;exact s.nd q m' ps e3;obtain⟨m',e3,h,x⟩:=NZ e;obtain⟨h2,h4⟩:=s.pm q m' ps e3 p hp;refine{?_,h4};unfold D6;simp only[h2]
 have:0<HZ (BV n r c w S) p:=by
  refine Ca.mpr (uw.mpr {_,av.mpr {q,dn.mpr {ai.mpr ?_,?_},b.rc q},by rw[e3];exact hp});rw[JF];refine u2 ?_<|Ah h;rintro k y ⟨hk,e0⟩;refine u2 ?_<|s.rl b hk e0;rintro x x ⟨h',x⟩;exact h';rw[RC];exact decide_eq_true h
 lia
 obtain⟨x,e3,x,x⟩:=NZ e;obtain⟨x,e3',x,x⟩:=NZ e';exact s.dj q q' _ _ ps _ hn e3 e3'
def InL.mended(b:InL n r c w S):InL n r c w (D6 n r c w S):=by
 constructor;intro kind k h
 have e:=b.no _ k h;unfold D6;split;rename_i z;subst z;rw[e,b.no 3 k<|h];split;rename_i z;subst z;rw[e];split;rename_i z;subst z;rw[e];exact e;intro kind k
 have e:=b.ok kind k;unfold D6;split;rename_i z;subst z;cases e3:S 3 k with
 |rc m ps =>
  show DS 1 (if _ then _ else _);split;exact bh 1;exact e
 |_ =>
  cases e1:S 1 k with
  |mk i =>
   show DS 1 (if _ then _ else _);rw[e1]at e;split;exact bh 1;exact e
  |_=>rw[e1]at e;exact e
 split;rename_i z;subst z;cases e1:S 2 k with
 |mk i =>
  show DS 2 (if _ then _ else _);rw[e1]at e;split;exact bh 1;exact e
 |_=>rw[e1]at e;exact e
 split;rename_i z;subst z;cases e1:S 3 k with
 |rc m ps =>
  show DS 3 (if _ then _ else _);split
  trivial
  trivial
 |_=>rw[e1]at e;exact e
 exact e
def Z8{α :Type}{f g:Nat-> α}{m:Nat}(h:∀ k,k<m->f k=g k):(ξ m).map f=(ξ m).map g:=List.map_congr_left λk hk=>h k<|ai.mp hk
def zuk(b:InL n r c w S):mended (BV n r c w S)=BV n r c w (D6 n r c w S):=by
 unfold mended;rw[JF,LM]
 have e1:(ξ _).map (EZ _)=(ξ<|r*w).map λk=>MF (D6 n r c w S 3 k):=Z8 λk y=>by
  unfold EZ D6;rw[b.rc,RC];cases e:S 3 k with
  |rc m ps =>
   show(if ld _ S k=0 then none else some _)=MF _;split<;>rfl
  |_=>rfl
 have e2:(ξ _).map (J5 _)=(ξ<|r * w).map λk=>GG (D6 n r c w S 1 k):=Z8 λk y=>by
  unfold J5 D6;rw[b.rc,b.rm,RC];cases e:S 3 k with
  |rc m ps =>
   show(if ld _ S k=0 then some 0 else GG _)=GG _;split<;>rfl
  |_ =>
   cases e1:S 1 k with
   |mk i =>
    show(if(some (i:Int))=some 1 then some 0 else some _)=GG (if i=1 then .mk 0 else .mk i);by_cases h:i=1;subst h;rfl;rw[if_neg h,if_neg (λz=>h (by exact cg<|μ z))];rfl
   |_=>rfl
 have e3:(ξ _).map (ME _)=(ξ<|c*w).map λk=>GG (D6 n r c w S 2 k):=Z8 λk y=>by
  unfold ME D6;rw[b.pm];cases e1:S 2 k with
  |mk i =>
   show(if some (i:Int)=some 1/\HZ _ k=0 then some 0 else some _)=GG (if i=1/\HZ _ k=0 then .mk 0 else .mk i);by_cases h:i=1/\HZ (BV n r c w S) k=0;rw[if_pos h,if_pos {by rw[h.1];rfl,h.2}];rfl;rw[if_neg h,if_neg<|λz=>h {cg<|μ z.1,z.2}];rfl
  |_=>rfl
 rw[e1,e2,e3]
 rfl
def Al(ok:D9 (BV n r c w S))(h1:kind<5)(hk:k<BH n r c w kind):(DE<|BV n r c w S)[GZ n r c kind*w+k]? =some (zY kind<|S kind k):=by
 unfold BH at hk;unfold GZ;rcases kind with _|_|_|_|_|kind
 ·simp only[if_true,vy,mv]at hk ⊢;rw[Z0 JE hk,z8,if_pos hk];rfl
 ·simp only[lm,if_false,if_true,mv,dz]at hk ⊢;rw[RA ok JE JF LM hk,Ac,if_pos hk];rfl
 ·simp only[lm,if_false,if_true,mv,ya,dz]at hk ⊢;rw[UX ok JE JF LM hk,Ag,if_pos hk];rfl
 ·simp only[lm,if_false,if_true,mv,ya]at hk ⊢;rw[NY JE JF hk,z9,if_pos hk];rfl
 ·simp only[lm,if_false,if_true,mv,ya,dz]at hk ⊢;rw[Z1 JE JF LM hk,Ab,if_pos hk];rfl
 ·lia
def zul(hw:1<=w):BG n r c w kind k=(GZ n r c kind*w+k)/w/\k%w=(GZ n r c kind*w+k)%w:=by
 constructor;rw[dh,nc<|hw];rfl;rw[dh,na]
def zum(hf:f<(n+r+c+r+c)*w):∃ kind k,kind<5/\k<BH n r c w kind/\f=GZ n r c kind*w+k:=by
 simp only[dz]at hf;refine zF (N:=n*w) (R:=r*w) (P:=c*w) (A:=λf=>∃ kind k,kind<5/\k<BH n r c w kind/\f=GZ n r c kind*w+k) (λh=>x2 0 f {by decide,h,by simp[GZ]}) (λk h=>x2 3 k {by decide,h,rfl}) (λk h=>x2 4 k {by decide,h,by simp[GZ,dz]}) (λk h=>x2 1 k {by decide,h,by simp[GZ,dz]}) (λk h=>x2 2 k {by decide,h,by simp[GZ,dz]}) hf
def Am{α β :Type}{F: α -> β ->Prop}:∀ {l:List α} {m:List β},l.length=m.length->(∀ (i:Nat) x y,l[i]? =some x->m[i]? =some y->F x y)->Paired F l m
 | [],[],_,_=>.nil
 |x::l,y::m,h,f=>.cons (f 0 x y rfl rfl) (Am (by simpa using h) λi a b e1 e2=>f (i+1) a b e1 e2)
 | [],_::_,h,_=>by simp at h
 |_::_,[],h,_=>by simp at h
def U0(P:PlankAt a H gp cl w rows m)(hw:1<=w)(rl:rows.length=n+r+c+r+c)(h1:kind<5)(hk:k<BH n r c w kind):∃ v,(rows[BG n r c w kind k]?).bind (λq=>q[k%w]?)=some v/\rows.flatten[GZ n r c kind*w+k]? =some v/\∃ q∈rows,v∈q:=by
 obtain⟨e1,e2⟩:=zul      hw
 have AY:GZ n r c kind*w+k<(n+r+c+r+c)*w:=by
  refine χ (Nat.add_lt_add_left hk _) ?_;unfold BH;rw[<-dz];refine ve _ ?_;unfold GZ;rcases kind with _|_|_|_|_|kind<;>simp<;>lia
 have hb:BG n r c w kind k<rows.length:=by rw[rl,e1];exact(uh<|hw).mpr AY
 have hj:k%w<w:=sx _<|hw
 have er:=η hb
 have wl:=P.wd _<|θ er
 have ej:=η (show k%w<(rows[BG n r c w kind k]).length by rw[wl];exact hj)
 have e:(rows[BG n r c w kind k]?).bind (λq=>q[k%w]?)=some ((rows[BG n r c w kind k])[k%w]):=by rw[er];exact ej
 refine{_,e,?_,_,θ er,θ ej};rw[<-e,<-UU P.wd hb hj,e1,e2,Hi]
def zun(P:PlankAt a H gp cl w rows m)(hw:1<=w)(sz:n<=6/\r<=6/\c<=6/\w<=6/\rows.length=n+r+c+r+c)(few:c*w<=18)(gd:PU H rows)(R:RowsAre H n r c w rows S)(b:InL n r c w S)(s:Snd (n*w) S):D9 (BV n r c w S):=by
 obtain⟨z1,z2,z3,z4,rl⟩:=sz
 have m6:∀ {x:Nat},x<=6->x*w<=36:=λ{x} h=>lg h z4;refine{λd hd=>?_,λd hd=>?_,λz hz=>?_,by simp[BV],by simp[BV],by rw[JE];exact oA (m6 z1) rfl,by rw[JF];exact oA (m6 z2) rfl,by rw[LM];exact oA few rfl};obtain⟨k,hk,e⟩:=av.mp hd
 have hk:=ai.mp hk
 have e:=zuf   e;rw[JF];refine u2 ?_<|s.rl b hk e;rintro y y ⟨hq,y⟩;refine{hq,?_};obtain⟨v,ev,y,q,hq1,hq2⟩:=U0    P hw rl (kind:=0)  (by decide) (hk)
 have rp:=R 0 k v (by decide) (hk) ev;rw[e]at rp;obtain⟨t,rfl,et⟩:=rp;obtain⟨xs,ex,y,hx⟩:=gd q hq1 _ hq2;rw[et]at ex;cases ex;exact hx _ ω;obtain⟨k,hk,e⟩:=av.mp hd;obtain⟨m,e3,y⟩:=zug e
 have:=s.few b e3;exact{λp hp=>by rw[LM];exact this.1 p hp,oA (ψ this.2 few) rfl};obtain⟨k,hk,e⟩:=av.mp hz;obtain⟨v,ev,y,q,hq1,hq2⟩:=U0    P hw rl (kind:=4)  (by decide) (by simpa [BH]using hk)
 have rp:=R 4 k v (by decide) (by simpa [BH]using hk) ev;rw[(zuh e)]at rp;rw[rp]at hq2;exact gd q hq1 _ hq2
def RowsAre.plv{rows:qT}(R:RowsAre H n r c w rows S)(P:PlankAt a H gp cl w rows m)(hw:1<=w)(rl:rows.length=n+r+c+r+c)(b:InL n r c w S)(ok:D9 (BV n r c w S)):PlV H rows n r c w (BV n r c w S):=by
 refine PlV.of (Am ?_ λf v x e1 e2=>?_) JE JF LM ok;rw[UY P.wd,zE _ ok,JE,JF,LM,rl];simp only[dz]
 have hf:=(ε.mp e1).1;rw[UY P.wd,rl]at hf;refine u2 ?_<|zum hf;rintro kind k ⟨h1,hk,rfl⟩;rw[Al ok h1 hk]at e2;obtain⟨v',ev,ef,z⟩:=U0 P hw rl h1 hk;obtain rfl:=μ e2;rw[e1]at ef;obtain rfl:=μ ef;exact(zZ h1<|b.ok _ _).mp (R _ k v h1 hk ev)
def PlV.rows{gp cl:Addr}{m:Nat}{rows:qT}(L:PlV H rows n r c w (BV n r c w S))(P:PlankAt a H gp cl w rows m)(hw:1<=w)(rl:rows.length=n+r+c+r+c)(b:InL n r c w S):RowsAre H n r c w rows S:=λkind k v h1 hk ev=>by
 obtain⟨v',ev',ef,z⟩:=U0 P hw rl h1 hk;rw[ev]at ev';obtain rfl:=μ ev';obtain⟨x,ex,hx⟩:=UP L.asC ef;rw[Al L.ok h1 hk]at ex;obtain rfl:=μ ex;exact(zZ h1<|b.ok _ _).mpr hx
def PlV.good{rows:qT}{vw:Vw}(L:PlV H rows n r c w vw):PU H rows:=λq hq v hv=>by
 obtain⟨f,hf⟩:=zh.mp<|List.mem_flatten.mpr ⟨q,hq,hv⟩;obtain⟨x,ex,hx⟩:=UP L.asC hf
 have ok:=Z3 L.ok x<|θ ex;cases x with
 | nm d =>
  cases d with
  |none=>rw[hx];trivial
  |some d =>
   obtain⟨t,rfl,et⟩:=hx;exact⟨_,et,by simp,λu hu=>by
    simp only[ax,b_,or_false]at hu;rcases hu with rfl|rfl
    exact ok
    trivial⟩
 | rc d =>
  cases d with
  |none=>rw[hx];trivial
  |some d =>
   revert hx;apply u2;rintro t u ⟨rfl,et,eu⟩
   have hd:some d∈vw.rc:=by
    have:=θ ex;unfold DE at this;simp only[a_,av,reduceCtorEq,and_false,exists_false,false_or,or_false,Cel.rc.injEq,exists_eq_right]at this;exact this
   exact⟨_,et,by simp,λx hx=>by
    simp only[ax,b_,or_false]at hx;rcases hx with rfl|rfl
    trivial
    refine{_,eu,by simp[AQ];exact oA ((L.ok.n2 d hd).2) rfl,λy hy=>?_};obtain⟨i,z,rfl⟩:=av.mp hy
    trivial⟩
 |pc d =>
  cases d with
  |none=>rw[hx];trivial
  |some d=>rw[hx];exact ok
 |mk d =>
  cases d with
  |none=>rw[hx];trivial
  |some d=>rw[hx];trivial
end
def zuo(s:Snd m0 S):∃ o,Hist m0 S [] (LG []) o:={λz=>none,λz z=>s,λz z z z z=>rfl,λz z=>rfl,λz z z z z z z=>Ls}
def Ap{Q:Addr->Hp->Prop}{E:XK}(G:Gnd K a H1 ly gp cl n r c w rows nn S)
  (q:∀ (X:SX) (H2:Hp),X.S.lp=ly->X.S.A.gp=gp->X.S.A.cl=cl->X.n=n->X.r=r->X.c=c->X.w=w->(∀ y o,H1 y=some o->y=cl\/¬ X.S.A.F y)->H1 X.S.tk=none->C6 a H2 X [] [] {S,[]}->Same H1 H2->Q X.S.st H2) :
  ∀ x dx,H1 x=none->H1 dx=none->dx≠x->NI K a [.ref x,.ref ly,.ref gp] (upd (upd H1 dx<|.own x) x (.ins (a "Store") dx [])) (λv H2=>v=.non/\Q x H2) E:=λx dx hx RH nd=>by
 have s0:Same H1 (upd (upd H1 dx<|.own x) x (.ins (a "Store") dx [])):=(AK RH).trans (AK (by rw[AH nd.symm];exact hx));refine N3 x dx ly gp cl n r c w _ nn S {rfl,G.t4,AD,G.la.same s0,G.pl.same s0,G.sz,λq hq v hv=>(G.gd q hq v hv).keep s0.tk,λkind k v h1 hk hv=>(G.rw.keep s0.tk) _ k v h1 hk hv,λkind k z z=>G.bo.ok _ k,λS' H2 e1 e2 e3 e4 off ht I sb=>{rfl,?_}}
 have s2:Same H1 H2:=λy o e=>sb _ _ (s0 _ _ e) (BE e hx)
 have:=q {S',n,r,c,w,_,nn,λz=>false} H2 e2 e3 e4 rfl rfl rfl rfl (λy o e=>off y o<|s0 _ _ e) (by
  cases e:H1 _ with
  |none=>rfl
  |some o=>rw[s0 _ _ e]at ht;cases ht) {I,zuo G.sd,G.bo,λk c ec=>by simp at ec,G.rw.keep s2.tk,G.few,λz h=>by simp at h,G.w1} s2
 rw[<-e1];exact this
def zup(h:YD K a vs H Q E):ZH K a (λ_=>E) (AW Q) (AV ["layout","plank","finds","due","find"] vs) H:=zud h
def Gnd.site(G:Gnd K a H ly gp cl n r c w rows nn S):Site K a H ly gp cl n r c w rows nn (BV n r c w S):=by
 obtain⟨z1,z2,z3,z4,z5⟩:=G.sz;exact{G.tv,G.t4.2.2.1,G.t4.2.1,G.la,G.pl,z5,G.rw.plv G.pl G.w1 z5 G.bo<|zun G.pl G.w1 G.sz G.few G.gd G.rw G.bo G.sd,G.w1,z4,z1,z2,z3}
example:(zuq,QU,wK,2):=by
 apply RI;rintro ly gp cl n r c w rows nn S ⟨rfl,G,q⟩;obtain⟨dl,el⟩:=G.la.ob;obtain⟨dp,ep⟩:=G.pl.ob;obtain⟨tc,ec,x⟩:=G.pl.ls
 have nly:¬ (ly=gp\/ly=cl):=λz=>by
  rcases z with z|z
  rw[z,ep]at el;injection el with z;injection z with _ _ z;exact absurd (congrArg lu z) (by simp[pf,lf])
  rw[z,ec]at el;cases el
 refine U6 ly gp cl n r c w _ nn _ {rfl,G.site,G.sd.fault G.bo,λfo rows2 H2 hfo F2 P2 CY pv2 U3=>?_};rw[zuk G.bo]at pv2;refine Ap  {G.tv,G.t4,G.la.sb U3 nly,P2,⟨G.sz.1,G.sz.2.1,G.sz.2.2.1,G.sz.2.2.2.1,CY⟩,G.few,G.w1,pv2.good,pv2.rows P2 G.w1 CY G.bo.mended,G.bo.mended,G.sd.mended G.bo} λX H3 e1 e2 e3 e4 e5 e6 e7 off ht C s3=>?_
 have old:∀ y,H2 y=none->H y=none:=λy e=>by
  cases e':H y with
  |none=>rfl
  |some o =>
   by_cases z:y=gp\/y=cl;rcases z with z|z
   obtain⟨x,ep2⟩:=P2.ob;rw[z,ep2]at e;cases e;obtain⟨x,ec2,x⟩:=P2.ls;rw[z,ec2]at e;cases e;rw[U3 _ _ e' z]at e;cases e
 refine q X H3 e1 e2 e3 e4 e5 e6 e7 (λy o e=>?_) (old _ ht) C (U3.trans<|Same.sb s3);by_cases z:y=gp\/y=cl;rcases z with z|z
 obtain⟨x,ep2⟩:=P2.ob;rw[z];exact off gp _ ep2;exact .inl z;exact off y o<|U3 _ _ e z
def C6.gnd(I:C6 a H X cs tks M)(tv:TV K a)(t4:CK K a):Gnd K a H X.S.lp X.S.A.gp X.S.A.cl X.n X.r X.c X.w X.rows X.nn (sh M.b X.C M.as):={tv,t4,I.st.ly,I.st.bk.pk,I.st.sz,I.few,I.w1,I.st.gd.1,I.rows,I.inl _,I.snd}
def EG{M:Hs}{kind k:Nat}{x:CV}{nd:Oz}:(M.put kind k x nd).f=M.f.put kind k x:=rfl
def E6{c kind k:Nat}{S:Md}{x:CV}(h:kind≠2):DG c (S.put kind k x)=DG c S:=by
 unfold DG
 congr 1
 funext j;rw[K7 h.symm]
def Z9{k:Nat}{S:Md}{x:CV}:∀ {c:Nat},k<c->DG c (S.put 2 k x)+(if NQ (S 2 k)then 1 else 0)=DG c S+(if NQ x then 1 else 0):=by
 intro c;unfold DG
 induction c with
 |zero=>intro h;exact nZ h
 |succ n ih =>
  rw[bt,tf,tf];simp only[yh,Ik];by_cases e:k=n;subst e
  have:(ξ k).countP (λj=>NQ<|(S.put 2 k x) 2 j)=(ξ k).countP (λj=>NQ _):=Eu λj hj=>by
   rw[DD (bg<|ai.mp hj)]
  rw[CL]
  lia
  rw[DD (λz=>e z.symm)]
  lia
def Aq{c d:Nat}:∀ {ps:Oz} {M:Hs},ps.Nodup->(∀ p∈ps,p<c/\M 2 p=.mk 1)->DG c (M.unmark d ps).f+ps.length=DG c M.f
 | [],_,_,_=>rfl
 |p::ps,M,hn,h=>by
  obtain⟨h1,h2⟩:=gy.mp hn;obtain⟨hp,e⟩:=h p ω
  have a2:=Aq  (d:=d)  (M:=M.put 2 p (.mk 0) [d]) h2 λq hq=>⟨(h q<|υ _ hq).1,by
   rw[Hs.put_at,if_neg<|λ(z:2=2/\q=p)=>h1<|z.2 ▸ hq];exact(h q<|υ _ hq).2⟩
  have a1:=Z9 (S:=M.f) (x:=.mk 0) hp;rw[e]at a1
  have a1:DG c (M.put 2 p _ [d]).f+1=DG c _+0:=a1
  show DG c ((M.put 2 p _ _).unmark d ps).f+_=_;rw[cv]
  lia
def RD:∀ {ps:Oz} {M:Hs},(M.unmark d ps).as=(ps.map λp=>({2,p,.mk 0,[d]}:AC)).reverse++M.as/\(M.unmark d ps).b=M.b
 | [],_=>⟨rfl,rfl⟩
 |p::ps,M=>by
  have:=RD (d:=d) (ps:=ps) (M:=M.put 2 p (.mk 0) [d]);refine{?_,this.2};rw[dk,oa,gr];exact this.1
section
variable{X:SX}{M:Hs}{y:Str}{ts:qZ}{kind k:Nat}{x:CV}{nd:Oz}
def OutAt.put{i j:Nat}(h:OutAt X M i j)(n:¬ (kind=i/\k=j)):OutAt X (M.put kind k x nd) i j:=λq e=>by
 have e:(if kind=i/\k=j then some _ else GS i j _)=some q:=e;rw[if_neg n]at e;exact h q e
def KN.put(h:KN X M y)(h0:kind=0->∀ r,M 0 k≠.nm y r):KN X (M.put kind k x nd) y:=by
 revert h;apply u2;rintro k0 r ⟨hk,e,o⟩
 have ne:¬ (kind=0/\k=k0):=λz=>h0 z.1 r (by rw[z.2];exact e);exact x2 k0 r {hk,by rw[Hs.put_at,if_neg<|λz=>ne ⟨z.1.symm,z.2.symm⟩];exact e,o.put ne}
def KX.hand(h:KX X M y ts):∃ k r m ps,k<X.m0/\M 0 k=.nm y r/\M 3 r=.rc m ps/\Paired (λp t=>M 4 p=.tx t) ps ts:=by
 revert h;apply u3;rintro k r ps ⟨hk,e,o,f⟩;obtain⟨⟨m,e3⟩,P⟩:=f (λz=>true) (S9 _) λz z=>rfl;exact x4 k r m ps ⟨hk,e,e3,P⟩
def KX.put(h:KX X M y ts)(h0:kind=0->∀ r,M 0 k≠.nm y r)(h3:kind=3->∀ m ps,M 3 k=.rc m ps->(∃ j,j<X.m0/\M 0 j=.nm y k)->∃ m',x=.rc m' ps)(h4:kind≠4):KX X (M.put kind k x nd) y ts:=by
 revert h;apply u3;rintro k0 r ps ⟨hk,e,o,f⟩
 have ne:¬ (kind=0/\k=k0):=λz=>h0 z.1 r (by rw[z.2];exact e);refine x3 k0 r ps {hk,by rw[Hs.put_at,if_neg<|λz=>ne ⟨z.1.symm,z.2.symm⟩];exact e,o.put ne,λC hC hx=>?_};obtain⟨⟨m,e3⟩,P⟩:=f C (zet hC) hx;obtain⟨⟨m1,e31⟩,v⟩:=f (λv=>true) (S9 _) λv v=>rfl
 show(∃ m,sh M.b C (⟨_,k,x,nd⟩::M.as) 3 r=.rc m ps)/\Paired (λp t=>sh M.b C (⟨_,k,x,nd⟩::M.as) 4 p=.tx t) ps ts;by_cases c:C M.as.length=true;rw[CS c];refine{?_,Paired.mapP P λp t e4=>by rw[K7 h4.symm];exact e4};by_cases z:kind=3/\k=r;obtain⟨rfl,rfl⟩:=z;obtain⟨m',rfl⟩:=h3 rfl m1 ps e31 ⟨k0,hk,e⟩;exact⟨m',CL⟩;refine{m,?_};unfold Md.put;rw[if_neg (λw=>z ⟨w.1.symm,w.2.symm⟩)];exact e3;rw[D4 c];exact{⟨m,e3⟩,P}
def KN.unmark{d:Nat}:∀ {ps:Oz} {M:Hs},KN X M y->KN X (M.unmark d ps) y
 | [],_,h=>h
 |p::ps,M,h=>KN.unmark (ps:=ps) (h.put λz=>by cases z)
def KX.unmark{d:Nat}:∀ {ps:Oz} {M:Hs},KX X M y ts->KX X (M.unmark d ps) y ts
 | [],_,h=>h
 |p::ps,M,h=>KX.unmark (ps:=ps) (h.put (λz=>by cases z) (λz=>by cases z) (by decide))
def KX.kn(h:KX X M y ts):KN X M y:=by
 revert h;apply u3;rintro k r ps ⟨hk,e,o,z⟩;exact x2 k r ⟨hk,e,o⟩
def KN.outs{X':SX}(h:KN X M y)(e:X'.m0=X.m0)(o:∀ j,X.C j=true->X'.C j=true):KN X' M y:=by
 revert h;apply u2;rintro k r ⟨hk,e0,ot⟩;exact x2 k r {by rw[e];exact hk,e0,λj z=>o j<|ot j z}
def KX.outs{X':SX}(h:KX X M y ts)(e:X'.m0=X.m0)(o:∀ j,X.C j=true->X'.C j=true):KX X' M y ts:=by
 revert h;apply u3;rintro k r ps ⟨hk,e0,ot,f⟩;exact x3 k r ps {by rw[e];exact hk,e0,λj z=>o j<|ot j z,λC hC hx=>f C hC λj z=>hx j<|o j z}
def KX.of{r m:Nat}{ps:Oz}(hk:k<X.m0)(e0:M 0 k=.nm y r)(e3:M 3 r=.rc m ps)(P:Paired (λp t=>M 4 p=.tx t) ps ts)(o0:OutAt X M 0 k)(o3:OutAt X M 3 r)(o4:∀ p∈ps,OutAt X M 4 p):KX X M y ts:=by
 refine x3 k r ps {hk,e0,o0,λC x hx=>{{m,?_},?_}};rw[PL λj z=>hx j<|o3 j z];exact e3
 have:∀ {ps:List _} {ts:List _},Paired (λp t=>M 4 p=.tx t) ps ts->(∀ p∈ps,OutAt X M 4 p)->Paired (λp t=>sh M.b C M.as 4 p=.tx t) ps ts:=λ{ps ts} P o4=>by
  induction P with
  |nil=>exact .nil
  |cons h t ih =>
   refine .cons ?_<|ih λp hp=>o4 p<|υ _ hp;rw[PL λj z=>hx j<|o4 _ ω j z];exact h
 exact this P o4
def KN.up{X':SX}{S':Md}(h:KN X M y)(e:X'.m0=X.m0)(s:∀ k,S' 0 k=sh M.b X.C M.as 0 k):KN X' {S',[]} y:=by
 revert h;apply u2;rintro k r ⟨hk,e0,o⟩;exact x2 k r {by rw[e];exact hk,by show S' 0 k=_;rw[s,PL o];exact e0,λj z=>by cases z}
end
def KX.up{X X':SX}{cs:Ox}{tks:rR}{M:Hs}{y:Str}{ts:qZ}(I:C6 a H X cs tks M)(h:KX X M y ts)(e:X'.m0=X.m0):KX X' {D6 X.n X.r X.c X.w<|sh M.b X.C M.as,[]} y ts:=by
 revert h;apply u3;rintro k r ps ⟨hk,e0,o,f⟩;obtain⟨⟨m,e3⟩,P⟩:=f _ (I.st.la.cut I.cut) λx z=>z
 have e0':sh M.b X.C M.as 0 k=.nm y r:=by rw[PL o];exact e0
 refine KX.of   (by rw[e];exact hk) e0' (Ak  (r:=X.r) (c:=X.c)  e3 (Aj hk e0')) P (λj z=>by cases z) (λj z=>by cases z) λp x j z=>by cases z
def zur:∀ i:Fin 26,(cu "abcdefghijklmnopqrstuvwxyz").cps.toList[i.val]? =some (97+i.val):=by decide
def zus{i:Int}{n:Nat}{Q:VK}(hi:i=n)(hn:n<26)(q:Q (.str {#[97+n]}) H):BX K (.str<|cu "abcdefghijklmnopqrstuvwxyz") (.int i) H Q:=yG hi (by decide) (zur ⟨n,hn⟩) q
def RE:Str:=cu " !\"#$&'()*+,-./0123456789:;<=>?@ABCDEFGHIJKLMNOPQRSTUVWXYZ[\\]^_`"++cu "abcdefghijklmnopqrstuvwxyz{|}~"
def zut:∀ i:Fin 94,∃ c,RE.cps.toList[i.val]? =some c/\c<1114112:=by
 have h:∀ i:Fin 94,RE.cps.toList[i.val]? =some (RE.cps.toList[i.val]!)/\RE.cps.toList[i.val]! <1114112:=by decide
 exact λi=>{_,(h i).1,(h i).2}
def Av:∀ l:qZ,(∀ x∈l,x.length=1)->(l.map (·.length)).sum=l.length
 | [],_=>rfl
 |x::r,h=>by
  rw[dk,List.sum_cons,Av r λy hy=>h y<|υ _ hy,h x ω];exact ua _ _
def Aw(hg:ce g=true):∀ (l:qZ) (BN:Array Nat),(BN.all λx=>decide<|x<1114112)=true->(∀ z∈l,ce z=true)->((l.foldl (λBN p=>BN++g.cps++p.cps) BN).all λx=>decide<|x<1114112)=true
 | [],BN,h,_=>h
 |z::l,BN,h,hz=>by
  have h1:(g.cps.all _)=true:=hg
  have h2:(z.cps.all _)=true:=hz z ω;refine Aw hg l _ ?_ λy hy=>hz y<|υ _ hy;rw[Hr,Hr,h,h1,h2,Kn,Kn]
def zuu{g:Str}{l:qZ}(hg:ce g=true)(h:∀ z∈l,ce z=true):ce (Txt.join g l)=true:=by
 cases l with
 |nil=>show((Fn.cps).all _)=true;decide +kernel
 |cons z l=>exact Aw hg l _ (h z ω) λy hy=>h y<|υ _ hy
def zuv{n:Nat}{k:Int}(hn:n<26)(h0:0<=k)(h1:k<10):ce (JV {#[97+n]} k)=true:=by
 have:∀ (n:Fin 26) (k:Fin 10),ce (JV {#[97+n.val]} k.val)=true:=by decide +kernel
 have:=this ⟨n,hn⟩ {k.toNat,by lia}
 rwa [show((({_,by lia}:Fin 10).val))=k from by lia]at this
def FT{p:Addr}{xs:r8}{k:Nat}{Q:VK}(h:H p=some (.lst<|xs.map V.int))(hk:k<xs.length)(q:∀ x∈xs,Q (.int x) H):BX K (.ref p) (.int k) H Q :=
 DC (SqL.of h)  rfl (by rw[τ,η hk];rfl) (q _<|pq hk)
example:(zuw,NP,YU,6):=by
 apply u2;rintro c m ⟨rfl,hm,q⟩;push_cast[YU,↓pU_,↓pV_,↓pW_];refine{{by decide,by decide},by decide,λl hl=>?_}
 have a1:0<=c%920419823+5/\c%920419823+5<1000000000:=by lia
 have a2:0<=c/920419823%899809363+3/\c/920419823%899809363+3<1000000000:=by lia
 generalize c%920419823+5=here at a1 ⊢;generalize c/920419823%899809363+3=there at a2 ⊢;obtain⟨H1,zz0,s1,e1⟩:=ES  hl;rw[zz0];refine{i0,by lia,R4 (λi σ H'=>∃ (xs:r8) (here there:Int),Same H H'/\H' l=some (.lst<|xs.map V.int)/\xs.length=i/\(∀ x∈xs,0<=x/\x<2000000000)/\(0<=here/\here<1000000000)/\(0<=there/\there<1000000000)/\∃ y,σ=[some (.int c),some<|.int m,some<|.int here,some<|.int there,some<|.ref l,y]) (x3 [] here there {s1,e1,rfl,by simp,a1,a2,_,rfl}) (λi σ H' hi hzz=>?_) (λσ H' hzz=>?_)}
 ·obtain⟨xs,he,th,s,e,C8,hx,b1,b2,y,eσ⟩:=hzz;subst eσ;push_cast[↓pX_,↓pY_,↓pZ_]
  have c1:0<=(he*70001+th)%920419823/\(he*70001+th)%920419823<920419823:=by lia
  generalize (he*70001+th)%920419823=h2 at c1 ⊢;generalize h2*h2=sq;refine{.inl {by lia,by lia},.inl {by lia,by lia},.inl {by lia,by lia},.inl {rfl,_,SqL.of e},_,e,χ (show(xs.map V.int).length<1000 by rw[ζ];lia) (by decide),λy o e=>by rw[AH (BE e hl)];exact s _ _ e,xs++[h2+(th*60013+sq+(0+i))%899809363],by rw[AD,ak];rfl,by simp[C8],λx hxm=>?_,h2,by lia,by lia,_,(by lia),(by lia),rfl,rfl}
  ·rcases a_.mp hxm with h|h
   ·exact hx x h
   ·rw[aa.mp h];lia
 ·obtain⟨xs,he,th,s,e,C8,hx,b1,b2,y,eσ⟩:=hzz;subst eσ;exact q l xs H' hl s e C8 hx
example:(zux,YE,tM,4,h):=by
 obtain⟨x,rfl,q⟩:=h;refine{by decide +kernel,x2 x 3 {rfl,by decide,λl xs H1 hl s1 el C8 hx=>?_}}
 have tail:∀ m:Nat,m<=40->Y4 K a (λy=>E) (λy=>E) (AW Q) [some (.int x),some<|.str RE,some<|.ref l,some<|.int m] H1:=λm hm=>by
  push_cast[↓Y4_];refine{rfl,i0,by lia,(KR (CF _<|oA hm rfl) (λi ys H'=>H'=H1/\∃ zs:qZ,ys=zs.map V.str/\∀ z∈zs,z.length=1/\ce z=true) {rfl,[],rfl,by simp} (λi ys H' hi hl hzz=>?_) (λys H' hl' hzz p hp=>?_))}
  ·obtain⟨e1,zs,e2,e3⟩:=hzz;subst e1;refine FT  el (C8 ▸ by decide) λy1 y=>FT  el (C8 ▸ by decide) λy3 y=>?_;push_cast[];refine{{by lia,by lia},FT  el (C8 ▸ by decide) λy2 hy2=>?_}
   have b2:=hx y2 hy2;push_cast[];obtain⟨b,eb,hb⟩:=UN (y1+(0+i)/(1+y3%3)*y2) (n:=94) (by decide);obtain⟨c,hc,hco⟩:=zut ⟨b,hb⟩;refine{.inr {by lia,by lia},?_};rw[show((94:Nat):Int)=94 from rfl]at eb;rw[eb];refine yG rfl (by decide +kernel) hc {rfl,zs++[{#[c]}],by rw[e2,ak];rfl,λz hz=>?_};rcases a_.mp hz with hz|hz
   ·exact e3 z hz
   ·rw[aa.mp hz];exact{rfl,by simp[ce];exact hco}
  ·obtain⟨e1,zs,e2,e3⟩:=hzz;subst e1
   have CY:zs.length=m:=by rw[<-hl',e2,ζ]
   refine x3 _ p zs {rfl,rfl,by rw[<-e2];exact SqL.of AD,by decide,by rw[Av zs λz hz=>(e3 z hz).1];lia,q _ _ (zuu (by decide +kernel) λz hz=>(e3 z hz).2) ?_ (s1.trans<|AK hp)};rw[show(cu "":Str)="" from rfl,W.KT.join_ones zs λz hz=>(e3 z hz).1];exact oA (ψ (bc CY) hm) rfl
 refine FT (k:=0) el (C8 ▸ by decide) λy1 hy1=>?_;push_cast[↓tL_];refine FT (k:=0) el (C8 ▸ by decide) λy2 hy2=>?_;push_cast[];refine{{by decide,by decide},?_};split
 ·push_cast[↓tK_];exact tail 40 (by decide)
 ·obtain⟨m,em⟩:∃ m:Nat,1+y1%6=m:={(1+y1%6).toNat,by lia}
  rw[em];exact tail m (by lia)
example:(zuy,YF,tN,2,h):=by
 obtain⟨x,rfl,q⟩:=h;refine{{by decide,by decide},x2 _ 3 {rfl,by decide,λl xs H1 hl s1 el C8 hx=>?_}}
 have md:∀ y:Int,∃ n:Nat,1+y%3=n/\1<=n/\n<=3:=λy=>{(1+y%3).toNat,by lia,by lia,by lia}
 refine FT  el (C8 ▸ by decide) λy1 z=>?_;push_cast[];refine FT  el (C8 ▸ by decide) λy2 z=>?_;push_cast[];refine FT  el (C8 ▸ by decide) λy3 z=>?_;push_cast[];refine{by decide,λt ht=>?_};obtain⟨n,en,n1,n2⟩:=md y1;obtain⟨r,er,r1,r2⟩:=md y2;obtain⟨c,ec,c1,c2⟩:=md y3;obtain⟨w,ew,w1,w2⟩:∃ n:Nat,1+x%6=n/\1<=n/\n<=6:={(1+x%6).toNat,by lia,by lia,by lia}
 rw[en,er,ec,ew];exact q t n r c w _ (s1.trans<|AK ht) AD n1 n2 r1 r2 c1 c2 w1 w2
def Ax{p:Addr}{xs:r8}{k:Nat}{Q:VK}(h:H p=some (.lst<|xs.map V.int))(hk:k<xs.length)(q:Q (.int<|xs.getD k 0) H):BX K (.ref p) (.int k) H Q :=
 DC (SqL.of h)  rfl (by simp[hk]) q
def LN(x:Int):Nat:=97+(x%26).toNat
def Ay{x:Int}{Q:VK}(q:Q (.str {#[LN x]}) H):BX K (.str<|cu "abcdefghijklmnopqrstuvwxyz") (.int<|x%26) H Q:=by
 obtain⟨b,eb,hb⟩:=UN x (n:=26) (by decide);rw[show((26:Nat):Int)=26 from rfl]at eb
 have:LN x=97+b:=by unfold LN;rw[eb];simp
 rw[this]at q;rw[eb];exact zus rfl hb q
def zuz{c:Nat}{k:Nat}(h1:1<=k)(h8:k<=8):(JV {#[c]} (k:Int)).cps.toList=bd k c:=by
 rcases(by lia:k=1\/k=2\/k=3\/k=4\/k=5\/k=6\/k=7\/k=8)with h|h|h|h|h|h|h|h<;>subst h<;>rfl
def aA(x:Int)(k:Nat):Str:=JV {#[LN (x+(k:Int)/8)]} (1+(k:Int)%8)
def Az(fi se:Int)(k j:Nat):Int:=(k:Int)*(if(j:Int)=fi then 1 else 0)+(k:Int)/26*(if(j:Int)=se then 1 else 0)
def JG(xs:r8)(fi se:Int)(k sz:Nat):Oz:=(ξ sz).map λj=>LN<|xs.getD (3+j) 0+Az fi se k j
def zu0{x y:Str}(h:x.cps.toList=y.cps.toList):x=y:=by
 cases x;congr 1;exact Array.toList_inj.mp h
def zu1{l:r8}{z:Str}(h:z.cps.toList=l.map LN):ce z=true:=by
 unfold ce;rw[<-Hf,h,lh];intro c hc;obtain⟨x,y,rfl⟩:=av.mp hc;unfold LN
 lia
example:(zu2,YG,tJ,12):=by
 apply u2;rintro x m ⟨rfl,hm,q⟩;refine{{by decide,by decide},x2 (x/2) 12 {rfl,by decide,λl xs H1 hl s1 el C8 hx=>?_}};push_cast[↓sU_];by_cases h1:x%2=1
 ·refine E5 h1 ?_;push_cast[↓sT_];refine{i0,by lia,(KR (CF _<|oA hm rfl) (λi ys H'=>H'=H1/\ys=((ξ i).map (aA<|xs.getD 0 0)).map V.str) ⟨rfl,rfl⟩ (λi ys H' hi hl hzz=>?_) (λys H' hl' hzz p hp=>?_))}
  ·obtain⟨e1,e2⟩:=hzz;subst e1;push_cast[CH,uc];refine Ax  el (C8 ▸ by decide) ?_;push_cast[];refine{{by decide,by decide},Ay ?_};push_cast[];refine{i0,by lia,(show 1<=1000 by decide),?_};rw[e2,bt,ak,ak]
   rfl
  ·obtain⟨e1,e2⟩:=hzz;subst e1;refine q p ((ξ m).map (aA<|xs.getD 0 0)) _ (s1.free hp) (s1.trans<|AK hp) (by rw[AD,e2]) (by simp) λz hz=>?_;obtain⟨k,hk,rfl⟩:=av.mp hz
   have hk:=ai.mp hk;unfold aA
   have e8:∃ b:Nat,LN (xs.getD 0 0+(k:Int)/8)=97+b/\b<26:={((xs.getD 0 0+(k:Int)/8)%26).toNat,rfl,by lia}
   obtain⟨b,eb,hb⟩:=e8;rw[eb];refine{zuv hb (i0) (by lia),?_};obtain⟨j,ej,j1,j8⟩:∃ j:Nat,1+(k:Int)%8=j/\1<=j/\j<=8:={(1+(k:Int)%8).toNat,rfl,uq _ _,by lia}
   have:=congrArg lu<|zuz (c:=97+b) j1 j8;rw[ej];simp only[ca,nq]at this
   show(JV {#[97+b]} (j:Int)).cps.size<=8
   lia
 ·refine DW h1 ?_;push_cast[↓sV_];refine FT (k:=0) el (C8 ▸ by decide) λy1 hy1=> ?_
  have b1:=hx y1 hy1;push_cast[];obtain⟨sz,esz,hsz⟩:∃ sz:Nat,2+y1%7=sz/\2<=sz/\sz<=8:={(2+y1%7).toNat,by lia,by lia,by lia}
  rw[esz];push_cast[↓sW_];refine FT (k:=1) el (C8 ▸ by decide) λy2 hy2=>?_;push_cast[];refine{by lia,?_}
  have f0:=vg y2 (show(sz:Int)≠0 by lia)
  have f1:=sj y2 (show(0:Int)<sz by lia);generalize y2%(sz:Int)=first at f0 f1 ⊢;push_cast[↓sX_];refine FT (k:=2) el (C8 ▸ by decide) λy3 hy3=>?_;push_cast[];refine{by lia,by lia,?_}
  have g0:=vg (first+1+y3%((sz:Int)-1)) (show(sz:Int)≠0 by lia)
  have g1:=sj (first+1+y3%((sz:Int)-1)) (show(0:Int)<sz by lia);generalize (first+1+y3%((sz:Int)-1))%(sz:Int)=second at g0 g1 ⊢;push_cast[↓sY_];refine{by decide,λp hp=>?_};obtain⟨H2,zz0,s2,e2⟩:=ES (o:=.lst []) hp;rw[zz0];push_cast[↓tH_];refine{i0,by lia,R4 (λi σ H'=>(Same H1 H'/\H' p=some (.lst (((ξ i).map λk=>({(JG xs first second k sz).toArray}:Str)).map V.str)))/\∃ y8 y9 y10 y11,σ=[some (.int x),some<|.int m,some<|.str<|cu "abcdefghijklmnopqrstuvwxyz",some<|.ref l,some<|.int sz,some (.int first),some<|.int second,some<|.ref p,y8,y9,y10,y11]) {⟨s2,e2⟩,x4 _ _ _ _ rfl} (λi σ H' hi hzz=>?_) (λσ H' hzz=>?_)}
  ·obtain⟨⟨s,e⟩,y8,y9,y10,y11,eσ⟩:=hzz;subst eσ;push_cast[↓sZ_,↓tF_,uc];refine{i0,by lia,R4 (λj σ H2=>(∃ wd:Str,H2=H'/\wd.cps.toList=JG xs first second i j/\∃ y10 y11,σ=[some (.int x),some<|.int m,some<|.str<|cu "abcdefghijklmnopqrstuvwxyz",some<|.ref l,some<|.int sz,some (.int first),some<|.int second,some<|.ref p,some<|.int (i:Int),some<|.str wd,y10,y11])) {cu "",rfl,rfl,x2 _ _ rfl} (λj σ H2 hj hzz=> ?_) (λσ H2 hzz=> ?_)}
   ·obtain⟨wd,eH,hw,y10,y11,eσ⟩:=hzz;subst eσ;subst eH;push_cast[↓tD_,↓tE_,uc];refine{.inl {i0,by lia},{by decide,by decide},.inl {i0,by lia},?_};rw[show(3:Int)+(j:Int)=((3+j:Nat):Int) by exact rfl];refine Ax (k:=3+j) (s _ _ el) (by lia) ?_;push_cast[];refine Ay ?_;push_cast[]
    have hwl:wd.length=j:=by
     have:wd.cps.toList.length=j:=by rw[hw];unfold JG;simp
     simpa [Ji]using this
    refine{CF _ (by rw[hwl];show j+1<=_;lia),_,?_,rfl}
    show(wd.cps++_).toList=_;rw[Array.toList_append,hw];unfold JG;rw[bt,ak]
    rfl
   ·obtain⟨wd,eH,hw,y10,y11,eσ⟩:=hzz;subst eσ;subst eH;push_cast[↓tG_];refine{.inl {rfl,_,SqL.of e},_,e,χ (show(((ξ i).map λk=>({(JG xs first second k sz).toArray}:Str)).map V.str).length<1000 by simp;exact oA (ψ hi hm) rfl) (by decide),λy o e=>by rw[AH (BE e hp)];exact s _ _ e,?_};rw[AD,bt,ak,ak]
    have:wd=({(JG xs first second i sz).toArray}:Str):=zu0 hw;rw[this]
    rfl
  ·obtain⟨⟨s,e⟩,y8,y9,y10,y11,eσ⟩:=hzz;subst eσ;push_cast[↓tI_];refine q p _ H' (s1.free hp) (s1.trans s) e (by simp) λz hz=>?_
   ·obtain⟨k,hk,rfl⟩:=av.mp hz;refine{?_,by show(JG xs first second k sz).toArray.size<=8;unfold JG;simp;lia};exact zu1 (l:=(ξ sz).map λj=>xs.getD (3+j) 0+Az first second k j) (by show JG xs first second k sz=_;unfold JG;rw[pr];rfl)
section
variable{X:SX}{M:Hs}{y:Str}
def aB(h:kind≠0):(M.put kind k x nd) 0 j=M 0 j:=by rw[Hs.put_at,if_neg<|λz=>h z.1.symm]
def Bb(h:kind≠3):(M.put kind k x nd) 3 j=M 3 j:=by rw[Hs.put_at,if_neg<|λz=>h z.1.symm]
def Dd.none{d:Bool}{kind:Int}:Dd X M M y kind d:={λz z h=>h,λz z z h=>h}
def Dd.make{rec cell:Nat}{z:Str}{n1 n2 n3:Oz}{d:Bool}{kind:Int}(s:Snd X.m0 M.f)(er:M 1 rec≠.mk 1)(ec:M 0 cell=.no):Dd X M (((M.put 1 rec (.mk 1) n1).put 3 rec (.rc 1 []) n2).put 0 cell (.nm z rec) n3) y kind d:=by
 have h0:∀ y' r,((M.put 1 rec (.mk 1) n1).put 3 rec (.rc 1 []) n2) 0 _≠.nm y' r:=λy' r e=>by
  rw[aB (by decide),aB (by decide),ec]at e;cases e
 refine{λy' x h=>((h.put λz=>by cases z).put λz=>by cases z).put λx=>h0 y',λy' ts x h=>((h.put (λz=>by cases z) (λz=>by cases z) (by decide)).put (λz=>by cases z) (λx m ps e x=>?_) (by decide)).put (λx=>h0 y') (λz=>by cases z) (by decide)};exact absurd (s.mr _ m ps e) er
def Dd.link{rec cell m:Nat}{ps:Oz}{z:Str}{n1 n2:Oz}{d:Bool}{kind:Int}(e3:M 3 rec=.rc m ps)(ec:M 0 cell=.no):Dd X M ((M.put 3 rec (.rc (m+1) ps) n1).put 0 cell (.nm z rec) n2) y kind d:=by
 have h0:∀ y' r,(M.put 3 rec (.rc (m+1) ps) n1) 0 _≠.nm y' r:=λy' r e=>by
  rw[aB (by decide),ec]at e;cases e
 refine{λy' x h=>(h.put λz=>by cases z).put λx=>h0 y',λy' ts x h=>(h.put (λz=>by cases z) (λx m' ps' e x=>?_) (by decide)).put (λx=>h0 y') (λz=>by cases z) (by decide)};rw[e3]at e;cases e;exact⟨_,rfl⟩
def Dd.put3{p rec:Nat}{x1 x2 x3:CV}{n1 n2 n3:Oz}{kind:Int}(hk:3<=kind/\kind<=5):Dd X M (((M.put 2 p x1 n1).put 4 p x2 n2).put 3 rec x3 n3) y kind true:=by
 refine{λy' x h=>((h.put λz=>by cases z).put λz=>by cases z).put (λz=>by cases z),λy' ts z=>?_};rcases z with z|z
 cases z;exact absurd hk z.2
def Dd.take{p rec:Nat}{x1 x2:CV}{n1 n2:Oz}{kind:Int}(hk:3<=kind/\kind<=5):Dd X M ((M.put 3 rec x1 n1).put 2 p x2 n2) y kind true:=by
 refine{λy' x h=>(h.put λz=>by cases z).put (λz=>by cases z),λy' ts z=>?_};rcases z with z|z
 cases z;exact absurd hk z.2
def Dd.cut1{cell rec m m':Nat}{ps:Oz}{n1 n2:Oz}{kind:Int}(hk:5<kind)(e0:M 0 cell=.nm y rec)(e3:M 3 rec=.rc m ps):Dd X M ((M.put 0 cell .no n1).put 3 rec (.rc m' ps) n2) y kind true:=by
 have h0:∀ y' r,y'≠y->M 0 _≠.nm y' r:=λy' r ne e=>by rw[e0]at e;cases e;exact ne rfl
 refine{λy' z h=>((h.put λx r=>h0 y' r (by rcases z with z|z|z;cases z;lia;exact z)).put λz=>by cases z),λy' ts z h=>((h.put (λx r=>h0 y' r (by rcases z with z|⟨z|z,_⟩;cases z;lia;exact z)) (λz=>by cases z) (by decide)).put (λz=>by cases z) (λx m1 ps1 e x=>?_) (by decide))};rw[Bb (by decide),e3]at e;cases e;exact⟨_,rfl⟩
def zu3(hj:j<m0)(hk:k<m0)(ne:j≠k)(ej:S 0 j=.nm y r)(ek:S 0 k=.nm z r):2<=ld m0 S r:=by
 have a1:=S8 (S:=S) (x:=.no) (r:=r) hj
 have a2:0<ld m0 (S.put 0 j .no) r:=qx.mpr {k,ai.mpr hk,by rw[DD ne.symm,ek];simp[FG]};simp[FG]at a1
 lia
def Dd.cut2{cell rec m d1:Nat}{ps:Oz}{n1 n2 n3:Oz}{kind:Int}(s:Snd X.m0 M.f)(hc:cell<X.m0)(hk:5<kind)(e0:M 0 cell=.nm y rec)(e3:M 3 rec=.rc m ps)(hm:m<=1):Dd X M ((((M.put 0 cell .no n1).put 3 rec .no n2).unmark d1 ps).put 1 rec (.mk 0) n3) y kind true:=by
 have h0:∀ y' r,y'≠y->M 0 _≠.nm y' r:=λy' r ne e=>by rw[e0]at e;cases e;exact ne rfl
 refine{λy' z h=>(KN.put (KN.unmark ((h.put λx r=>h0 y' r (by rcases z with z|z|z;cases z;lia;exact z)).put λz=>by cases z)) λz=>by cases z),λy' ts z h=>?_};refine KX.put (KX.unmark ((h.put (λx r=>h0 y' r (by rcases z with z|⟨z|z,_⟩;cases z;lia;exact z)) (λz=>by cases z) (by decide)).put (λz=>by cases z) (λx m1 ps1 e hzz=>?_) (by decide))) (λz=>by cases z) (λz=>by cases z) (by decide);obtain⟨j,hj,ej⟩:=hzz
 have ej:(if 0=0/\j=cell then CV.no else M 0 j)=.nm y' _:=ej;by_cases zc:j=cell;rw[if_pos ⟨rfl,zc⟩]at ej;cases ej;rw[if_neg (λw=>zc w.2)]at ej
 have:=zu3 hj hc zc ej e0
 have:=s.ct _ m ps e3
 lia
def Dd.move{old cell rec m:Nat}{ps:Oz}{z:Str}{n1 n2 n3 n4:Oz}{kind:Int}(hk:5<kind)(e0:M 0 old=.nm y rec)(e3:M 3 rec=.rc m ps)(ec:M 0 cell=.no):Dd X M ((((M.put 3 rec (.rc (m+1) ps) n1).put 0 cell (.nm z rec) n2).put 0 old .no n3).put 3 rec (.rc m ps) n4) y kind true:=by
 have l:=Dd.link (X:=X) (y:=y) (kind:=0) (d:=true) (z:=z) (n1:=n1) (n2:=n2) e3 ec
 have noc:old≠cell:=λe=>by rw[e,ec]at e0;cases e0
 have c:=Dd.cut1 (X:=X) (M:=(M.put 3 _ (.rc (m+1) ps) n1).put 0 _ (.nm z rec) n2)  (m':=m) (n1:=n3) (n2:=n4) hk (by rw[Hs.put_at,if_neg<|λz=>noc z.2];exact e0) (by rw[Bb (by decide),Hs.put_at,if_pos ⟨rfl,rfl⟩]);exact{λy' q h=>c.kn y' q (l.kn y' (.inr (.inl (by decide))) h),λy' ts q h=>c.kt y' ts q (l.kt y' ts (.inr {.inl (by decide),by decide}) h)}
end
def U1{nl:Addr}{zs:qZ}{x:Int}{Q:VK}(h:QX H nl zs)(q:∀ z∈zs,Q (.str z) H):BX K (.ref nl) (.int<|x%5) H Q:=by
 obtain⟨e,l,y⟩:=h;obtain⟨b,eb,hb⟩:=UN x (n:=5) (by decide);rw[show((5:Nat):Int)=5 from rfl]at eb;rw[eb];exact DC (SqL.of e)  rfl (by rw[τ,(η (show b<zs.length by lia))];rfl) (q _<|pq _)
example:(zu4,YH,w5,7):=by
 apply u7;rintro X cs tks M x nl zs ⟨rfl,T4,TH,I0,hcs,hn0,q0⟩;refine{{by decide,by decide},x2 (x/8) 4 {rfl,by decide,λl xs H1 hl s1 el C8 hx=>?_}}
 have I:=I0.same s1
 have hn:QX H1 nl zs:={s1 _ _ hn0.1,hn0.2}
 have q:∀ (t:Addr) (z:Str) (d:Bool) (cs':Ox) (tks':rR) (M':Hs) (H':Hp),z∈zs->H' t=some (.tup [.str z,.bl d])->C6 a H' X cs' tks' M'->cs'.length+DG (X.c*X.w) M'<=cs.length+DG (X.c*X.w) M+4->Dd X M M' z (x%8) d->SameBut (λx=>X.S.A.F x\/x=X.S.tk) H1 H'->Q (.ref t) H':=λt z d cs' tks' M' H' z1 z2 z3 z4 z5 z6=>q0 t z d cs' tks' M' H' z1 z2 z3 z4 z5 λy o e n=>z6 _ _ (s1 _ _ e) n;refine FT (k:=0) el (C8 ▸ by decide) λy0 u=>?_;push_cast[];refine U1 hn λy hy=>(FT (k:=1) el (C8 ▸ by decide) λy1 u=>?_)
 push_cast[];refine U1 hn λz hz=>?_;push_cast[↓wR_,↓wZ_];obtain⟨dx,ho⟩:=I.st.ob
 have sy:=hn.2.2 y hy;obtain⟨o,hi⟩:=I.hi
 have len:=I.st.la.len
 have sz:=hn.2.2 z hz
 have fin:∀ (d:Bool) (cs':Ox) (tks':rR) (M':Hs) (H':Hp),C6 a H' X cs' tks' M'->cs'.length+DG (X.c*X.w) M'<=cs.length+DG (X.c*X.w) M+4->Dd X M M' y (x%8) d->SameBut (λx=>X.S.A.F x\/x=X.S.tk) H1 H'->Q0 K a (λu=>E) (λu=>E) (AW Q) [some (.ref X.S.st),some<|.int x,some<|.ref nl,some<|.ref l,some<|.str y,some<|.str z,some<|.bl d] H':=λd cs' tks' M' H' C hb D sb=>by
  push_cast[↓Q0_];exact{by decide,λp hp=>q p y d cs' tks' M' _ hy AD (C.same<|AK hp) hb D (sb.trans<|Same.sb<|AK hp)}
 have sd:=I.now
 have bad:∀ c:String,(c="NoName"\/c="Twice"\/c="NoPiece"\/c="NoRoom")->∀ H',Same H1 H'->WF (λcls=>wf K cls<|.ref<|a "HoldError") (ZM K a (λu=>E) λu=>E) WE (.ref<|a c) { nx:=Q0 K a (λu=>E) (λu=>E) (AW Q),rt:=Q,bk:=(AW Q).bk,ct:=(AW Q).ct } [some (.ref X.S.st),some<|.int x,some<|.ref nl,some<|.ref l,some<|.str y,some<|.str z,some<|.bl true] H':=λc hc H' s=>by
  refine .inl {TH.h c hc,?_};push_cast[↓ZM_];exact fin false cs tks M H' (I.same s) (uq _ _) Dd.none (Same.sb s)
 have good:∀ {ex:Ox} {tks':rR} {M':Hs} {H':Hp} {d:Nat},ex.length=d->d+DG (X.c*X.w) M'<=DG (X.c*X.w) M+4->X.at a H' (cs++ex) tks' M'->(∃ o,Hist X.m0 M'.b M'.as (LG tks') o)->M'.b=M.b->(∃ es,M'.as=es++M.as/\∀ x∈es,DS x.kind x.x)->Dd X M M' y (x%8) true->SameBut (λx=>X.S.A.F x\/x=X.S.tk) H1 H'->Q0 K a (λu=>E) (λu=>E) (AW Q) [some (.ref X.S.st),some<|.int x,some<|.ref nl,some<|.ref l,some<|.str y,some<|.str z,some<|.bl true] H':=λhl hd I' h3 h4 h5 D sb=>fin true _ _ _ _ (I.more I' sb h3 h4 h5) (by rw[af,hl];lia) D sb;push_cast[↓wY_];by_cases k1:x%8<2;refine E5 k1<|y2 {ho,BT,x5 X cs tks M y {rfl,T4,I.st,oA sy.2 rfl,oA hcs rfl,λu hc rec cell er ec hr BC ex v H' hl u u I' sb=>?_,λu H' s=>bad _ (.inl rfl) H' s,λu ⟨k,hc⟩ H' s=>bad _ (.inr<|.inl rfl) H' s,λu hc h H' s=>bad _ (.inr<|.inr<|.inr rfl) H' s}}
 have f0:=Z7<|NT ec
 have f1:=zX (kind:=1) (NT er);refine good hl ?_ I' ?_ rfl {[_,_,_],rfl,by simp[DS]} (Dd.make sd f1 f0) sb;rw[EG,EG,EG,E6 (by decide),E6 (by decide),E6 (by decide)];lia
 have:=hi.make (z:=y) (nd:=(cs.length+1)::EY tks y) BC f0 (UZ hc) f1 (by rw[len];simp) λj h=>υ _<|Z6 h;rw[<-len]at this;exact⟨_,this⟩;refine DW k1 ?_;push_cast[↓wX_];by_cases k2:x%8=2;refine E5 k2<|y2 {ho,BT,x6 X cs tks M y z {rfl,T4,I.st,oA sy.2 rfl,oA sz.2 rfl,oA hcs rfl,λu u hc old rec cell eo hol e0=>(u2 ?_<|I.rl hol e0),λu H' s=>bad _ (.inl rfl) H' s,λu u ⟨k,hc⟩ H' s=>bad _ (.inr<|.inl rfl) H' s,λu u u u H' s=>bad _ (.inl rfl) H' s,λu u u u u H' s=>bad _ (.inr<|.inr<|.inr rfl) H' s}};rintro m ps ⟨hr,e3⟩;refine{hr,x2 m ps {e3,by have:=(I.ps e3).2;exact oA this rfl,λec BC ex v H' hl u u I' sb=>?_}}
 have f0:=Z7<|NT ec;refine good hl ?_ I' ?_ rfl {[_,_],rfl,by simp[DS]} (Dd.link e3 f0) sb;rw[EG,EG,E6 (by decide),E6 (by decide)];lia
 have:=hi.link (z:=z) (nd:=cs.length::EY tks z) BC f0 (UZ hc) e3 (by rw[len];simp) λj h=>υ _<|Z6 h;exact⟨_,this⟩;refine DW k2 ?_;push_cast[↓wW_];by_cases k3:x%8<5;refine E5 k3 (y2 {ho,BT,FT (k:=2) el (C8 ▸ by decide) λy2 u=>{y2,rfl,λt H2 tst tl s2=>(x6 X cs tks M y t {rfl,T4,I.st.same s2,tl,tst,oA hcs rfl,λcell rec ec BC e0 u p ep hp=>(u2 ?_<|I.rl BC e0),λhc H' s=>bad _ (.inl rfl) H' (s2.trans s),λu u H' s=>bad _ (.inr<|.inr<|.inl rfl) H' (s2.trans s),λu u u H' s=>bad _ (.inr<|.inr<|.inr rfl) H' (s2.trans s)})}});rintro m ps ⟨hr,e3⟩
 have p2:=(I.ps e3).2;refine{hr,x2 m ps {e3,oA p2 rfl,λex v H' hl u u I' sb=>(good hl ?_ I' ?_ rfl {[_,_,_],rfl,by simp[DS]} (Dd.put3 (by lia)) λb o e n=>sb _ _ (s2 _ _ e) n)}};rw[EG,EG,EG,E6 (by decide),E6 (by decide)]
 have:=Z9 (S:=M.f) (x:=.mk 1) hp
 lia
 have:=hi.put (x:=t) (zX (kind:=2) (NT ep)) e3;rw[<-len]at this;exact⟨_,this⟩;refine DW k3 ?_;push_cast[↓wV_];by_cases k5:x%8=5;refine E5 k5 ?_;refine y2 {ho,BT,FT (k:=2) el (C8 ▸ by decide) λy2 u=>?_};push_cast[];refine x6 X cs tks M y _ {rfl,T4,I.st,oA hcs rfl,λcell rec ec BC e0=>(u2 ?_<|I.rl BC e0),λhc H' s=>bad _ (.inl rfl) H' s};rintro m ps ⟨hr,e3⟩;obtain⟨p1,p2⟩:=I.ps e3;refine{hr,x2 m ps {e3,oA p2 rfl,λhx H' s=>bad _ (.inr<|.inr<|.inl rfl) H' s,λk p ek ep=>{p1 p<|θ ep,λex v H' hl u u I' sb=>(good hl ?_ I' ?_ rfl {[_,_],rfl,by simp[DS]} (Dd.take (k5.symm ▸ by decide)) sb)}}}
 ·rw[EG,EG]
  have:=Z9 (S:=M.f.put 3 rec<|.rc m<|ps.eraseIdx k) (x:=.mk 0) (p1 p<|θ ep)
  have e3':DG (X.c*X.w) (M.f.put 3 rec<|.rc m<|ps.eraseIdx k)=DG (X.c*X.w) M.f:=E6 (by decide)
  have:(if NQ (.mk 0)=true then 1 else 0)=0:=rfl
  lia
 have:=hi.take e3 ep;rw[<-len]at this;exact⟨_,this⟩;refine DW k5 ?_;push_cast[↓wU_];by_cases k6:x%8=6
 ·refine E5 k6 ?_;push_cast[↓wS_];refine y2 {ho,BT,x6 X cs tks M y z {rfl,T4,I.st,oA sy.2 rfl,oA sz.2 rfl,oA hcs rfl,λu u hc old rec cell eo hol e0=>?_,λu H' s=>bad _ (.inl rfl) H' s,λu u ⟨k,hc⟩ H' s=>bad _ (.inr<|.inl rfl) H' s,λu u u u H' s=>bad _ (.inl rfl) H' s,λu u u u u H' s=>bad _ (.inr<|.inr<|.inr rfl) H' s}};refine u2 ?_<|I.rl hol e0;rintro m ps ⟨hr,e3⟩;refine{hr,x2 m ps {e3,by have:=(I.ps e3).2;exact oA this rfl,λec BC ex v H' hl u u I' sb=>?_}}
  have f0:=Z7<|NT ec;refine good hl ?_ I' ?_ rfl {[_,_,_,_],rfl,by simp[DS]} (Dd.move (k6 ▸ by decide) e0 e3 f0) sb
  ·rw[EG,EG,EG,EG,E6 (by decide),E6 (by decide),E6 (by decide),E6 (by decide)];lia
  have noc:old≠cell:=λe=>by rw[e,f0]at e0;cases e0
  have l1:=hi.link (z:=z) (nd:=cs.length::EY tks z) BC f0 (UZ hc) e3 (by rw[len];simp) λj h=>υ _<|Z6 h
  have l2:=l1.unlead (z:=y) (nd:=[cs.length+1]) (m:=m) (ps:=ps) hol (by rw[HX,DD noc,HX,K7 (by simp)];exact e0) (by rw[HX,K7 (by simp),HX,CL])
  have l3:({0,cell,.nm z rec,cs.length::EY tks z}::{3,rec,.rc (m+1) ps,[]}::M.as:List AC).length=cs.length+2:=by rw[len];rfl
  rw[l3]at l2;rw[Z5];exact⟨_,l2⟩
 refine DW k6 ?_;push_cast[↓wT_];refine y2 {ho,BT,x5 X cs tks M y {rfl,T4,I.st,oA hcs rfl,λcell rec ec BC e0=>?_,λhc H' s=>bad _ (.inl rfl) H' s}};refine u2 ?_<|I.rl BC e0;rintro m ps ⟨hr,e3⟩;obtain⟨p1,p2⟩:=I.ps e3;refine{hr,x2 m ps {e3,p1,oA p2 rfl,λhm ex v H' hl u u I' sb=>good hl ?_ I' ?_ rfl {[_,_],rfl,by simp[DS]} (Dd.cut1 (by lia) e0 e3) sb,λhm ex v H' hl u u I' sb=>good hl ?_ I' ?_ ?_ ?_ (Dd.cut2 sd BC (by lia) e0 e3 hm) sb}}
 ·rw[EG,EG,E6 (by decide),E6 (by decide)];lia
 ·obtain⟨m',rfl⟩:∃ m',m=m'+1:={m-1,by lia}
  have:=hi.unlead (nd:=[]) BC e0 e3;rw[<-len]at this;rw[Z5];exact⟨_,this⟩
 ·rw[EG,E6 (by decide)]
  have:=Aq (c:=X.c*X.w) (d:=cs.length+1) (ps:=ps) (M:=(M.put 0 cell .no []).put 3 rec .no [cs.length]) (sd.nd rec m ps e3) λp hp=>{p1 p hp,(sd.pm rec m ps e3 p hp).1}
  rw[EG,EG,E6 (by decide),E6 (by decide)]at this
  lia
 ·have:=hi.dropped (nd:=[]) BC e0 e3 hm;rw[<-len]at this;rw[Z5];refine{EC o y cs.length,?_}
  show Hist X.m0 (Hs.unmark _ _ _).b ({1,rec,.mk 0,[cs.length+1]}::(Hs.unmark _ _ _).as) _ _;rw[RD.1,RD.2];exact this
 ·exact RD.2
 ·refine{{1,rec,.mk 0,[cs.length+1]}::((ps.map λp=>({2,p,.mk 0,[cs.length+1]}:AC)).reverse++[{3,rec,.no,[cs.length]},{0,cell,.no,[]}]),?_,λx hx=>?_}
  ·show{1,rec,.mk 0,[cs.length+1]}::(Hs.unmark _ _ _).as=_;rw[RD.1];simp[Hs.put]
  ·simp only[ax,a_,He,av,b_,or_false]at hx;rcases hx with rfl|⟨p,_,rfl⟩|rfl|rfl<;>simp[DS]
def Bc{κ :Type}[DecidableEq κ]{k j: κ}:∀ {kvs:List (κ × V)},A5 (JP kvs k) j=if j=k then none else A5 kvs j
 | []=>by simp[A5,JP]
 |(k',v)::kvs=>by
  have ih:=Bc (k:=k) (j:=j) (kvs:=kvs);unfold A5 JP at ih ⊢;by_cases e:k'=k;rw[List.filter_cons_of_neg (by simpa using e),ih];by_cases z:j=k;rw[if_pos z,if_pos z];rw[if_neg z,if_neg z,List.find?_cons_of_neg (by simp;exact λw=>z<|w ▸ e)];rw[List.filter_cons_of_pos (by simpa using e),vn,vn];by_cases w:k'=j;rw[if_neg (λz=>e<|w.trans z)];simp[w];simp only[w];exact ih
def aC{p:Addr}{x:Int}{Q:VK}(h:H p=some (.tup [.int 3,.int 4,.int 5]))(q:Q (.bl<|decide<|3<=x/\x<=5) H):M6 K (.int x) (.ref p) H Q:=by
 have:IM (.int x) [.int 3,.int 4,.int 5]=decide (3<=x/\x<=5):=by
  simp only[IM,nj,List.any_nil,F5]
  lia
 refine x2 p _ {rfl,.inr<|SqT.of h,rfl,rfl,?_};rw[this];exact q
section
variable{X:SX}{cs:Ox}{tks:rR}{M:Hs}{kt:Addr}{kvs:rR}
def Kept.sb{H':Hp}{G:Addr->Prop}(h:Kept H X M kt kvs)(s:SameBut G H H')(g:∀ l,¬ X.S.A.F l->(∃ xs,H l=some (.lst xs))->¬ G l)(gk:¬ G kt):Kept H' X M kt kvs:=⟨s _ _ h.e gk,λk v hv=>by
 obtain⟨z,ez,kn,c⟩:=h.v k v hv;refine{z,ez,kn,c.imp id (by rintro ⟨l,ts,e1,e2,e3,e4,e5,e6⟩;exact x2 l ts {e1,e2,e3,s _ _ e4<|g l e3 ⟨_,e4⟩,e5,e6})}⟩
def Kept.same{H':Hp}(h:Kept H X M kt kvs)(s:Same H H'):Kept H' X M kt kvs:=h.sb  (λy o e x=>s _ _ e) (λx x x z=>z) λz=>z
end
def aD{kvs:rR}:(∃ v,A5 kvs k=some v)↔k∈kvs.map (·.1):=by
 rw[<-da,<-JQ,c_,av];constructor;rintro ⟨p,hp,e⟩;exact{p,hp,by simpa using e};rintro ⟨p,hp,e⟩;exact{p,hp,by simpa using e}
def zu5{kvs:rR}{k:AN}{v:V}(h:∃ v,A5 kvs k=some v):(B0 kvs k v).length=kvs.length:=by
 unfold B0;rw[if_pos (by rw[JQ];exact da.mpr h),ζ]
def HeI(H3:Hp)(kt:Addr)(kvs:rR)(i:Nat)(H':Hp):Prop:=∃ kvi:rR,H' kt=some (.dK kvi)/\kvi.length=kvs.length/\SameBut (· =kt) H3 H'/\(∀ k,(∃ v,A5 kvi k=some v)↔∃ v,A5 kvs k=some v)/\∀ k v,A5 kvi k=some v->v=.non\/k∉(kvs.map (·.1)).take i
example:(zu7,UH,xL,7):=by
  apply u9;rintro X cs tks M kt kvs x nl zs ⟨rfl,T4,TH,I,hcs,hn,Kp,FL,f1,f2,q⟩;refine x7 X cs tks M x nl zs {rfl,T4,TH,I,hcs,hn,λt z d cs' tks' M' H1 hz et I1 hb D sb=>{_,SqT.of et,rfl,?_}}
  have ek:=sb _ _ Kp.e λw=>w.elim f1 f2
  have nl':∀ l ts,¬ X.S.A.F l->H l=some (.lst ts)->H1 l=some (.lst ts):=λl ts nF e=>sb _ _ e λw=>w.elim nF λw=>by rw[w,I.st.tk]at e;cases e
  have sb':SameBut (λx=>X.S.A.F x\/x=X.S.tk\/x=kt) H H1:=λy o e n=>sb _ _ e λw=>n<|w.imp id .inl
  have S1:∀ kvs',SameBut (λx=>X.S.A.F x\/x=X.S.tk\/x=kt) H (upd H1 kt<|.dK kvs'):=λkvs' y o e n=>by rw[AH λw=>n<|.inr<|.inr w];exact sb' _ _ e n
  have all:(d=false\/x%8<=5)->¬ (d=true/\3<=x%8/\x%8<=5)->Kept H1 X M' kt kvs:=λh1 h2=>⟨ek,λk v hv=>by
    obtain⟨w,ew,kn,c⟩:=Kp.v k v hv;refine{w,ew,D.kn w (h1.imp id .inl) kn,c.imp id λ⟨l,ts,e1,e2,e3,e4,e5,e6⟩=>x2 l ts {e1,e2,e3,nl' l _ e3 e4,D.kt w ts ?_ e5,e6}};cases d with
    |false=>exact .inl rfl
    |true=>exact .inr {.inl (h1.elim (λz=>by cases z) id),λz=>h2 ⟨rfl,z⟩}⟩
  cases d with
  |false =>
    exact q cs' tks' M' kvs H1 I1 hb (all (.inl rfl) λz=>by cases z.1) (ρ _) sb'
  | true =>
    push_cast[↓xH_];by_cases k5:5<x%8
    · refine E5 k5 ?_
      push_cast[↓xG_]
      have kp:∀ kvs',(∀ k v,A5 kvs' k=some v->k≠.inr z/\A5 kvs k=some v)->Kept (upd H1 kt<|.dK kvs') X M' kt kvs':=λkvs' f=>⟨AD,λk v hv=>by
        obtain⟨nk,hv⟩:=f k v hv;obtain⟨w,rfl,kn,c⟩:=Kp.v k v hv
        have nw:w≠z:=λe=>nk<|e ▸ rfl;exact{w,rfl,D.kn w (.inr<|.inr nw) kn,c.imp id λ⟨l,ts,e1,e2,e3,e4,e5,e6⟩=>x2 l ts {e1,e2,e3,by rw[AH e2];exact nl' l _ e3 e4,D.kt w ts (.inr {.inr nw,by lia}) e5,e6}}⟩
      refine{.inl {_,.inl ek},kvs,ek,.inr z,rfl,λv hv=>?_,λhv=>?_}
      · push_cast[↓xK_]
        refine{by decide,λp hp=>aC AD ?_};refine DW (by lia) ?_;exact q cs' tks' M' _ _ (((λkvs'=>I1.sbG  (λy o e n=>by rw[AH n];exact e) (λw hw=>by rw[hw];exact K3 ek) λw hw=>by rw[hw];exact⟨f1,f2⟩) _).same (AK hp)) hb ((kp _ λk v hv=>by
          rw[Bc]at hv;split at hv
          ·cases hv
          ·rename_i z;exact⟨z,hv⟩).same (AK hp)) (j5 ..) ((S1 _).trans (Same.sb<|AK hp))
      · push_cast[↓xK_]
        refine{by decide,λp hp=>aC AD ?_};rw[O4];refine DW (by rw[decide_eq_true_eq];lia) ?_;refine q cs' tks' M' kvs _ (I1.same<|AK hp) hb (Kept.same (H:=H1) {ek,λk v hv'=>?_} (AK hp)) (ρ _) (sb'.trans<|Same.sb<|AK hp);obtain⟨w,rfl,kn,c⟩:=Kp.v k v hv'
        have nw:w≠z:=λe=>by rw[e,hv]at hv';cases hv'
        exact{w,rfl,D.kn w (.inr<|.inr nw) kn,c.imp id λ⟨l,ts,e1,e2,e3,e4,e5,e6⟩=>x2 l ts {e1,e2,e3,nl' l _ e3 e4,D.kt w ts (.inr {.inr nw,by lia}) e5,e6}}
    · refine DW k5 ?_
      push_cast[↓xK_];refine{by decide,λp hp=>aC AD ?_};rw[O4]
      have s2:=AK (o:=.tup [.int 3,.int 4,.int 5]) hp;revert s2;generalize upd H1 p (.tup [.int 3,.int 4,.int 5])=H2;intro s2;by_cases k3:3<=x%8/\x%8<=5
      · refine E5 (by rw[decide_eq_true_eq];exact k3) ?_
        push_cast[↓xJ_];refine{kvs,s2 _ _ ek,λl hl=>.inl {{_,SqL.of AD},?_}};obtain⟨H3,zz0,s3,e3⟩:=ES (o:=.lst<|kvs.map λp=>kV p.1) hl;rw[zz0]
        have ek3:=(s2.trans s3) _ _ ek
        have I3:=I1.same<|s2.trans s3
        have nkl:l≠kt:=λw=>by rw[w,s2 _ _ ek]at hl;cases hl
        refine FN (xs:=kvs.map λp=>kV p.1) (λi σ H'=>HeI H3 kt kvs i H'/\∃ y6,σ=[some (.ref X.S.st),some<|.ref kt,some<|.int x,some<|.ref nl,some<|.str z,some<|.bl true,y6]) {{kvs,ek3,rfl,λy o e _=>e,λ_=>Ls,λk v hv=>.inr (by simp)},_,rfl} (λi σ H' _ {⟨_,_,_,s,_⟩,_}=>SqL.of<|s _ _ e3 nkl) (λi v σ H' ev hzz=>?_) (λσ H' hzz=>?_)
        · obtain⟨⟨kvi,e1,e2,s,g,f⟩,y6,es⟩:=hzz
          subst es;rw[τ,ae]at ev;obtain⟨⟨k0,v0⟩,ekv,rfl⟩:=ev;push_cast[↓xI_]
          have h0:∃ v,A5 kvs k0=some v:=aD.mpr<|av.mpr {_,θ ekv,rfl}
          have em:(kvs.map (·.1)).take (i+1)=(kvs.map (·.1)).take i++[k0]:=by rw[di,τ,ekv];rfl
          refine{_,DPut.k e1 (χ (show kvi.length<1000 by exact oC (ψ (bc e2) FL) rfl) (by decide)),_,AD,(zu5<|(g k0).mpr h0).trans e2,λy o e n=>by rw[AH n];exact s _ _ e n,λk=>?_,λk v hv=>?_}
          · rw[F8]
            by_cases z0:k=k0
            ·rw[if_pos z0,z0];exact{λ_=>h0,λ_=>⟨_,rfl⟩}
            ·rw[if_neg z0];exact g k
          · rw[F8]at hv
            split at hv
            ·cases hv;exact .inl rfl
            · rename_i z0
              refine(f k v hv).imp id λw=>?_;rw[em,a_];exact λu=>u.elim w λu=>z0<|aa.mp u
        · obtain⟨⟨kvi,e1,e2,s,g,f⟩,y6,es⟩:=hzz
          subst es;push_cast[]
          have fin:∀ k v,A5 kvi k=some v->v=.non/\∃ v0,A5 kvs k=some v0:=λk v hv=>by
            have g1:=(g k).mp ⟨v,hv⟩;refine{(f k v hv).elim id λw=>absurd ?_ w,g1};rw[ζ,<-ζ (f:=(·.1)),bx];exact aD.mp g1
          refine q cs' tks' M' kvi H' (I3.sbG s (λw hw=>by rw[hw];exact K3 ek3) λw hw=>by rw[hw];exact⟨f1,f2⟩) hb {e1,λk v hv=>?_} (bc e2) λy o e n=>s _ _ ((s2.trans s3) _ _ (sb' _ _ e n)) λw=>n<|.inr<|.inr w;obtain⟨rfl,v0,g⟩:=fin k v hv;obtain⟨w,rfl,kn,c⟩:=Kp.v k v0 g;exact{w,rfl,D.kn w (.inr (.inl (by lia))) kn,.inl rfl}
      · refine DW (by rw[decide_eq_true_eq];exact k3) ?_
        exact q cs' tks' M' kvs H2 (I1.same s2) hb ((all (.inr (by lia)) λz=>k3 z.2).same s2) (ρ _) (sb'.trans<|Same.sb s2)
def zu8{p:Addr}{y:Str}{L:qZ}{Q:VK}(h:H p=some (.lst<|L.map V.str))(q:Q (.bl<|decide<|y∈L) H):M6 K (.str y) (.ref p) H Q:=by
 refine x2 p _ {rfl,.inl<|SqL.of h,rfl,?_,?_};rw[lh];intro v hv;obtain⟨z,x,rfl⟩:=av.mp hv
 rfl
 have:IM (.str y) (L.map V.str)=decide (y∈L):=by
  unfold IM;rw[Lu,mz,c_,decide_eq_true_eq];constructor;rintro ⟨z,hz,e⟩
  have:z=y:=by simpa [F5]using e
  exact this ▸ hz;exact λhy=>{y,hy,by simp[F5]}
 rw[this];exact q
def aE:z∈K9 M m↔∃ k rec,k<m/\M 0 k=.nm z rec:=by
 unfold K9;rw[jo];constructor;rintro ⟨k,hk,e⟩;obtain⟨p,ep,rfl⟩:=ae.mp e;unfold EF at ep;cases e0:M 0 k with
 |nm y r=>rw[e0]at ep;cases ep;exact x2 k r {ai.mp hk,e0}
 |no=>rw[e0]at ep;cases ep
 |mk i=>rw[e0]at ep;cases ep
 |rc m ps=>rw[e0]at ep;cases ep
 |tx t=>rw[e0]at ep;cases ep
 rintro ⟨k,rec,hk,e⟩;exact{k,ai.mpr hk,by unfold EF;rw[e];rfl}
def Bd{c:Nat}{M:Hs}:∀ {ps:Oz},(∀ p∈ps,p<c/\∃ t,M 4 p=.tx t)->∃ ts,Paired (λp t=>p<c/\M 4 p=.tx t) ps ts
 | [],_=>{[],.nil}
 |p::ps,h=>by
  obtain⟨ts,P⟩:=Bd λq hq=>h q<|υ _ hq;obtain⟨h1,t,h2⟩:=h p ω;exact{_,.cons ⟨h1,h2⟩ P}
def zu9{cs:Ox}{outs:rW}{left row:Oz}{b:Nat}(h:HB cs outs left (b::row)):∃ (k:Nat) (c:Ch),cs[k]? =some c/\b=c.blk/\HB cs (C7 cs outs b) (left.filter λ(x:Nat)=> !C7 cs outs b x) row:=by
 cases h with
 |cons e h=>exact y2 ⟨e,rfl,h⟩
def zva(h:HB cs outs left []):left=[]:=by
 cases h;rfl
section
variable{X:SX}{cs:Ox}{tks:rR}{M:Hs}
def C6.txt(I:C6 a H X cs tks M){p:Nat}{t:Str}(hp:p<X.c*X.w)(e:M 4 p=.tx t):ce t=true:=by
 obtain⟨v,ev,rv⟩:=I.st.val (kind:=4)  (by decide) (hp);rw[e]at rv
 have:=yE I.st.gd ev;rw[rv]at this;exact this
def C6.cell(I:C6 a H X cs tks M){k rec:Nat}{z:Str}(hk:k<X.m0)(e:M 0 k=.nm z rec):cellOf M X.m0 z=some k:=by
 cases ec:cellOf M _ z with
 |none=>exact absurd e<|UZ ec k _ hk
 |some j =>
  obtain⟨hj,r',e'⟩:=yM ec;rw[I.now.un j k z r' _ hj hk e' e]
structure KI(a:Ad)(X:SX)(cs:Ox)(tks:rR)(M:Hs)(H3:Hp)(left0 row:Oz)(i:Nat)(X':SX)(H':Hp):Prop where
 e:X'.S=X.S/\X'.n=X.n/\X'.r=X.r/\X'.c=X.c/\X'.w=X.w
 c:C6 a H' X' cs tks M
 r:∃ left,HB cs X'.outs left (row.drop i)/\∀ x∈left0,X'.outs (x:Nat)=true\/x∈left
 m:∀ j,X.C j=true->X'.C j=true
 s:SameBut (λx=>X.S.A.F x\/x=X.S.A.gp) H3 H'
def KI.out{H3:Hp}{row:Oz}{X':SX}{H':Hp}{R:rW}{things:List (Nat × Nat)}{kind k:Nat}(I:C6 a H X cs tks M)(J:KI a X cs tks M H3 (FR cs.length X.outs R) row row.length X' H')(hR:SR cs X.outs (NL X cs things) R)(ht:(kind,k)∈things)(h1:kind<5)(hk:k<BH X.n X.r X.c X.w kind):OutAt X' M kind k:=λj ej=>by
 have en:=(I.st.la.newest h1 hk).1;rw[ej]at en;cases eo:X.outs j with
 |true=>exact J.m j eo
 |false =>
  obtain⟨left,hl,h⟩:=J.r;rw[List.drop_length]at hl;rw[zva hl]at h;exact(h j (PJ.mpr {(NC en),eo,(hR.all _ (jo.mpr {_,ht,by rw[en];rfl}))})).elim id λz=>by cases z
end
example:(zvb,UI,xA,5):=by
 apply u7;rintro X cs tks M kt kvs z ⟨rfl,T4,I,hcs,hz,Kp,FL,f1,f2,q⟩;obtain⟨dx,ho⟩:=I.st.ob;refine y2 {ho,BT,x4 X cs _ M {rfl,T4,I.st,λl ks H1 hl s1 el perm _=>zu8 el ?_}};by_cases hm:z∈ks;refine E5 (by rw[decide_eq_true_eq];exact hm) (u2 ?_<|aE.mp<|perm.mem_iff.mp hm);rintro cell rec ⟨BC,e0⟩
 have ec:=I.cell BC e0;refine u2 ?_<|I.rl BC e0;rintro m ps ⟨hr,e3⟩;obtain⟨p1,p2⟩:=I.ps e3;obtain⟨ts,P⟩:=Bd    λp hp=>{p1 p hp,(I.now.pm _ m ps e3 p hp).2}
 have I1:=I.same s1;refine y2 {s1 _ _ ho,BT,x5 X cs _ M z {rfl,T4,I1.st,λcell' rec' ec' _ e0'=>?_,λhc=>by rw[ec]at hc;cases hc}};rw[ec]at ec';obtain rfl:=μ ec';rw[e0]at e0';cases e0';refine{hr,x2 m ps {e3,oA p2 rfl,ts,P,λtl H2 htl s2 etl=>?_}}
 have I2:=I1.same s2;refine x5 X cs _ M z {rfl,T4,I2.st,λcell' rec' ec' _ e0'=>?_,λhc=>by rw[ec]at hc;cases hc};rw[ec]at ec';obtain rfl:=μ ec';rw[e0]at e0';cases e0';refine{hr,x2 m ps {e3,oA p2 rfl,p1,λrl row R H3 hR hrow JI hrn s3 er=>.inl {{_,SqL.of er},(FN  (λi σ H'=>(∃ X',KI a X cs _ M H3 _ _ i X' H')/\∃ y4,σ=[some _,some _,some _,some _,y4]) {{X,⟨rfl,rfl,rfl,rfl,rfl⟩,(I2.same s3),{_,hrow,λx hx=>.inr hx},λ_ z=>z,λy o e _=>e},_,rfl} (by rintro i σ H' _ ⟨⟨X',J⟩,_⟩;exact SqL.of (J.s _ _ er (λz=>z.elim (I2.st.bk.off hrn) λz=>by obtain⟨_,ep⟩:=I2.st.bk.pk.ob;rw[z,ep]at hrn;cases hrn))) (λi v σ H' ev hzz=>?_) (λσ H' hzz=>?_))}}};obtain⟨⟨X',⟨⟨a1,a2,a3,a4,a5⟩,C,⟨left,hl,hx⟩,hm,sb⟩⟩,y4,rfl⟩:=hzz;unfold AQ at ev;rw[τ,ae]at ev;obtain⟨b,eb,rfl⟩:=ev
 have hd:row.drop i=b::row.drop (i+1):=by
  obtain⟨hi,e⟩:=ε.mp eb;rw[iq hi,e]
 rw[hd]at hl;refine u2 ?_<|zu9 hl;rintro k c ⟨ek,rfl,hl⟩;obtain⟨dx',ho'⟩:=C.st.ob
 have erw:=η (by rw[<-C.st.bk.nb];exact(C.st.bk.bk.inn c<|θ ek).1);rw[a1]at ho';push_cast[↓w8_];refine y2 {ho',BT,x6 X' cs _ M _ _ {by rw[a1],T4,C.st,erw,λt H5 I5 GH=>{X'.wr cs _ _,⟨a1,a2,a3,a4,a5⟩,C.write erw I5 GH,{_,hl,λx hx0=>?_},λj hj=>SZ<|hm j hj,sb.trans (by rw[a1]at GH;exact GH)}}};rcases hx x hx0 with h|h
 exact .inl<|SZ h;cases eo:C7 cs _ _ x with
 |true=>exact .inl eo
 |false=>exact .inr (dn.mpr {h,by rw[eo];rfl})
 obtain⟨⟨X',J⟩,y4,rfl⟩:=hzz;rw[show(AQ _).length=row.length by simp[AQ]]at J
 have JJ:=J;obtain⟨⟨a1,a2,a3,a4,a5⟩,C,_,hm,sb⟩:=J
 have out:∀ {kind k},(kind,k)∈HD _ _ ps->kind<5->k<BH _ _ _ _ _->OutAt X' M _ k:=λht h1 hk=>JJ.out I hR ht h1 hk
 have em:X'.m0=X.m0:=by unfold SX.m0;rw[a2,a5]
 have kx:=KX.of (by rw[em];exact BC) e0 e3 (Paired.mapP P λp t h=>h.2) (out (by simp[HD]) (by decide) BC) (out (by simp[HD]) (by decide) hr) λp hp=>out (υ _<|υ _<|av.mpr ⟨p,hp,rfl⟩) (by decide) (p1 p hp)
 have CG:=s2.trans s3;obtain⟨_,ep1⟩:=I1.st.bk.pk.ob
 have ntl:=I1.st.bk.off htl
 have ek3:=(s1.trans CG) _ _ Kp.e
 have etk:tl≠kt:=λw=>by rw[w,s1 _ _ Kp.e]at htl;cases htl
 have ek:=sb _ _ ek3 λw=>w.elim f1 (λw=>by rw[w,CG _ _ ep1]at ek3;cases ek3);push_cast[↓w9_];refine{_,pS ek<|oC FL rfl,q X' _ _ a1 a2 a3 a4 a5 (C.sbG  (λy o e n=>by rw[AH n];exact e) (λw hw=>by rw[hw];exact K3 ek) λw hw=>by rw[hw,a1];exact⟨f1,f2⟩) {AD,λk v hv=>?_} (HU ..) λy o e n=>?_};rw[F8]at hv;split at hv;rename_i zk;obtain rfl:=μ hv;exact⟨z,zk,kx.kn,.inr ⟨tl,ts,rfl,etk,by rw[a1];exact ntl,by rw[AH etk];exact(sb _ _ (s3 _ _ etl) λw=>w.elim ntl (λw=>by rw[w,ep1]at htl;cases htl)),kx,λt ht=>by
  obtain⟨i,hi⟩:=zh.mp ht;obtain⟨p,ep,hp⟩:=G7 P hi;exact I.txt hp.1 hp.2⟩⟩
 obtain⟨w,ew,kn,c⟩:=Kp.v k v hv;refine{w,ew,kn.outs em hm,c.imp id λ⟨l,ts',g1,g2,g3,g4,g5,g6⟩=>x2 l _ {g1,g2,by rw[a1];exact g3,?_,g5.outs em hm,g6}};rw[AH g2];refine sb _ _ ((s1.trans CG) _ _ g4) λw=>w.elim g3 λw=>?_
 have g4':=(s1.trans CG) _ _ g4;rw[w,CG _ _ ep1]at g4';cases g4';rw[AH λw=>n<|.inr<|.inr w];exact sb _ _ ((s1.trans CG) _ _ e) λw=>n<|w.imp id .inl;exact DW (by rw[decide_eq_true_eq];exact hm) (q X _ H1 rfl rfl rfl rfl rfl (I.same s1) (Kp.same s1) (jc _) (Same.sb s1))
def zvc{p:Addr}{y:Str}{L:qZ}{Q:VK}(h:H p=some (.lst<|L.map V.str))(hy:y∈L)(q:Q (.bl false) H):WU K (.str y) (.ref p) H Q:=by
 refine x2 p _ {rfl,.inl<|SqL.of h,rfl,?_,?_};rw[lh];intro v hv;obtain⟨z,x,rfl⟩:=av.mp hv
 rfl
 have:IM (.str y) (L.map V.str)=true:=by
  unfold IM;rw[Lu,c_];exact{y,hy,by simp[F5]}
 rw[this];exact q
def zvd{p e0:Addr}(h1:H p=some (.lst []))(h2:H e0=some (.lst []))(q:Q (.bl true) H):KP K (.ref p) (.ref e0) H Q:=by
 have e1:Dat K H 1 _ _:=Dat.lst  (SqL.of h1) .nil
 have e2:Dat K H 1 _ _:=Dat.lst  (SqL.of h2) .nil;exact y2 {e1.1,e2.1,e1.shp (by decide),e2.shp (by decide),q}
def zve{cs:Ox}{outs:rW}{row:Oz}(h:HB cs outs [] row):row=[]:=by
 cases h;rfl
example:(zvf,QY,xF,4):=by
 apply u4;rintro X S kt kvs ⟨rfl,T4,I,Kp,FL,f1,f2,q⟩
 have T4':=T4;obtain⟨T,TP,TL,TS⟩:=T4;obtain⟨dx,ho⟩:=I.st.ob;refine y2 {ho,BT,x4 X [] [] {S,[]} {rfl,T4',I.st,λl ks H1 hl s1 el perm x=>?_}}
 have K1:=Kp.same s1
 have nk1:l≠kt:=λw=>by rw[w,Kp.e]at hl;cases hl
 have off:∀ {H':Hp},SameBut (· =kt) H1 H'->C6 a H' X [] [] {S,[]}:=λs=>(I.same s1).sbG s (λw hw=>by rw[hw];exact K3 K1.e) λw hw=>by rw[hw];exact⟨f1,f2⟩
 have std:∀ {z:Str},KN X {S,[]} z->z∈ks:=λ{z} ⟨k,r,hk,e,_⟩=>perm.mem_iff.mpr<|aE.mpr<|x2 k r ⟨hk,e⟩;push_cast[↓xC_];refine{kvs,K1.e,λo=>?_}
 have s2:SameBut (· =kt) H1 (upd H1 kt<|.frz o<|.dK kvs):=λy o' e n=>by rw[AH n];exact e
 have e2:upd H1 kt (.frz o<|.dK kvs) kt=some (.frz o<|.dK kvs):=AD;revert s2 e2;refine λs2 e2=>zae (λi σ H'=>(SameBut (· =kt) H1 H'/\H' kt=some (.frz o<|.dK kvs))/\∃ y3,σ=[some (.ref X.S.st),some<|.ref kt,some<|.ref l,y3]) {⟨s2,e2⟩,_,rfl} (λi σ H' x {⟨_,e⟩,_}=>e) (λi k v σ H' ekv hzz=>?_) (λσ H' hzz=>?_)
 ·obtain⟨⟨s,e⟩,y3,es⟩:=hzz;subst es;obtain⟨v',hv⟩:=aD.mpr<|av.mpr {_,θ ekv,rfl};obtain⟨z,rfl,kn,c⟩:=K1.v k v' hv
  have C:=off s;obtain⟨dx',ho'⟩:=C.st.ob
  have dg:∀ {H3:Hp},Same H' H3->DGet H3 kt (.str z) (some v'):=λs3=>.inl<|x2 kvs (.inr z) {.inr {o,s3 _ _ e},rfl,hv.symm};push_cast[↓xB_,kV];refine zvc (s _ _ el nk1) (std kn) ?_;refine{v',dg<|Same.refl _,?_};rcases c with rfl|⟨l2,ts,rfl,g2,g3,g4,kx,g6⟩
  ·exact⟨s,e⟩
  ·refine u4 ?_ kx.hand;rintro k0 r m ps ⟨hk,e0,e3,P⟩;obtain⟨p1,p2⟩:=C.ps e3;refine u2 ?_<|C.rl hk e0;rintro x x ⟨hr,x⟩
   have ec:=C.cell hk e0;refine y2 {ho',BT,x5 X [] [] {S,[]} z {rfl,T4',C.st,λcell' rec' ec' x e0'=>?_,λhc=>by rw[ec]at hc;cases hc}};rw[ec]at ec';cases ec';rw[e0]at e0';cases e0';refine{hr,x2 m ps {e3,oA p2 rfl,ts,?_,λtl H3 htl s3 etl=>{_,dg s3,nC<|yF (SqL.of etl) (SqL.of<|s3 _ _<|s _ _ g4 g2) (λv hv=>?_) ?_}}}
   ·have:∀ {ps:Oz} {ts:qZ},Paired (λp t=>({S,[]}:Hs) 4 p=.tx t) ps ts->(∀ p∈ps,p<X.c*X.w)->Paired (λp t=>p<X.c*X.w/\({S,[]}:Hs) 4 p=.tx t) ps ts:=λ{ps ts} P h=>by
     induction P with
     |nil=>exact .nil
     |cons a t ih=>exact .cons {h _ ω,a} (ih λp hp=>h p<|υ _ hp)
    exact this P p1
   ·obtain⟨t,ht,rfl⟩:=av.mp hv;exact g6 t ht
   ·exact{λy o' e' n=>s3 _ _<|s _ _ e' n,s3 _ _ e}
 ·obtain⟨⟨s,e⟩,y3,es⟩:=hzz;subst es;refine{e,?_}
  have s3:SameBut (· =kt) H1 (upd H' kt<|.dK kvs):=λy o' e' n=>by rw[AH n];exact s _ _ e' n
  have e3:upd H' kt (.dK kvs) kt=some (.dK kvs):=AD;revert s3 e3;generalize upd H' kt (.dK kvs)=H3;intro s3 e3
  have I3:=off s3
  have el3:=s3 _ _ el nk1;refine .inl {{_,SqL.of el3},FN  (λi σ H'=>Same H3 H'/\∃ y3,σ=[some (.ref X.S.st),some<|.ref kt,some<|.ref l,y3]) {Same.refl _,_,rfl} (λi σ H' x ⟨s,_⟩=>SqL.of<|s _ _ el3) (λi v σ H' ev hzz=>?_) (λσ H' hzz=>?_)}
  ·obtain⟨s,y3,es⟩:=hzz;subst es;rw[τ,ae]at ev;obtain⟨z,ez,rfl⟩:=ev;refine u2 ?_<|aE.mp<|perm.mem_iff.mp<|θ ez;rintro k0 r ⟨hk,e0⟩
   have C:=I3.same s
   have ec:=C.cell hk e0;refine u2 ?_<|C.rl hk e0;rintro m ps ⟨hr,e3'⟩;obtain⟨p1,p2⟩:=C.ps e3';push_cast[↓xD_];refine x5 X [] [] {S,[]} z {rfl,T4',C.st,λcell' rec' ec' x e0'=>?_,λhc=>by rw[ec]at hc;cases hc};rw[ec]at ec';cases ec';rw[e0]at e0';cases e0';refine{hr,x2 m ps {e3',oA p2 rfl,p1,λrl row R H4 x hrow x x s4 er=>{by decide,λp hp=>?_}}};rw[zve hrow]at er;refine nC (yF (xs:=[]) (SqL.of<|(AK hp) _ _ er) (SqL.of AD) (λv hv=>by cases hv) ?_);simp only[O4,mF];exact(s.trans s4).trans (AK hp)
  ·obtain⟨s,y3,es⟩:=hzz;subst es
   have C:=I3.same s;obtain⟨dx',ho'⟩:=C.st.ob;obtain⟨db,eb⟩:=C.st.bk.bk.ob;push_cast[↓xE_];refine y2 {ho',BT,y5 {rfl,TS,ho',y2 {eb,C1,x6 X.S.A X.w X.rows X.nn [] X.outs {rfl,T,C.st.bk,λwl H4 hwl s4 ew=>{by decide,λp hp=>eC<|zvd ((AK hp) _ _ ew) AD ?_}}}}}
   have sF:Same H3 (upd H4 p<|.lst []):=(s.trans s4).trans (AK hp);refine q _ (λy o' e' n=>sF _ _<|s3 _ _ (s1 _ _ e') n) ?_;rw[sF _ _ e3,Kp.e]
def zvg(ns:r8):∃ ms:r8,FM (ns.map V.int) (some 2) none=ms.map V.int/\ms.length<=ns.length - 2:=by
 refine{(ns.drop<|HT.sIx ns.length 0<|some 2).take (HT.sIx ns.length ns.length none-HT.sIx ns.length 0 (some 2)),?_,?_}
 ·unfold FM;rw[ζ,<-Bf,<-Be]
 ·rw[cz,jn]
  have:HT.sIx ns.length 0 (some 2)=min 2 ns.length:=by
   unfold HT.sIx
   try lia
  rw[this];refine ψ (Nat.min_le_right _ _) ?_;rcases Nat.le_total 2 ns.length with h|h
  ·rw[vm h];exact ρ _
  ·rw[G0 h,vx];exact bh _
def Bg:DG c S<=c:=by
 refine ψ List.countP_le_length ?_;rw[cy];exact ρ _
structure L62(a:Ad)(ly gp cl:Addr)(n r c w:Nat)(nl kt rr:Addr)(zs:qZ)(ms:r8)(i:Nat)(X:SX)(H:Hp):Prop where
 e:X.S.lp=ly/\X.S.A.gp=gp/\X.S.A.cl=cl/\X.n=n/\X.r=r/\X.c=c/\X.w=w
 st:∃ cs tks M kvs,C6 a H X cs tks M/\cs.length+DG (X.c*X.w) M.f<=18+4*i/\Kept H X M kt kvs/\kvs.length<=i
 nm:QX H nl zs
 er:H rr=some (.lst<|ms.map V.int)
 fk:¬ X.S.A.F kt/\kt≠X.S.tk
 fn:¬ X.S.A.F nl
 fr:¬ X.S.A.F rr
section
variable{ly gp cl:Addr}{n r c w:Nat}{nl kt rr:Addr}{zs:qZ}{ms:r8}{i:Nat}{X:SX}{P:V->Hp->Prop}
def L62.same{H':Hp}(J:L62 a ly gp cl n r c w nl kt rr zs ms i X H)(s:Same H H'):L62 a ly gp cl n r c w nl kt rr zs ms i X H':=by
 obtain⟨e,⟨cs,tks,M,kvs,C,h1,Kp,h2⟩,nm,r',f1,f2,f3⟩:=J;exact{e,x4 cs _ M _ {C.same s,h1,Kp.same s,h2},{s _ _ nm.1,nm.2},s _ _ r',f1,f2,f3}
def L62.up(J:L62 a ly gp cl n r c w nl kt rr zs ms i X H):L62 a ly gp cl n r c w nl kt rr zs ms (i+1) X H:=by
 obtain⟨e,⟨cs,tks,M,kvs,C,h1,Kp,h2⟩,nm,r',f1,f2,f3⟩:=J;exact{e,x4 cs _ M _ {C,by lia,Kp,bz h2},nm,r',f1,f2,f3}
def L62.ls{H':Hp}{G:Addr->Prop}{l:Addr}{xs:Oj}(J:L62 a ly gp cl n r c w nl kt rr zs ms i X H)(s:SameBut G H H')(g:∀ x,G x->X.S.A.F x\/x=X.S.tk\/x=X.S.A.gp\/x=kt)(nF:¬ X.S.A.F l)(e:H l=some (.lst xs)):H' l=some (.lst xs):=by
 obtain⟨y,⟨cs,tks,M,kvs,C,y,Kp,y⟩,y⟩:=J;refine s _ _ e λz=>?_;rcases g l z with z|z|z|z
 exact nF z;rw[z,C.st.tk]at e;cases e;obtain⟨y,ep⟩:=C.st.bk.pk.ob;rw[z,ep]at e;cases e;rw[z,Kp.e]at e;cases e
def L62.heed(T4:CK K a)(TH:QW K a)(J:L62 a ly gp cl n r c w nl kt rr zs ms i X H)(hi:i<=61)(q:∀ H',L62 a ly gp cl n r c w nl kt rr zs ms (i+1) X H'->P .non H'):UH K a [.ref X.S.st,.ref kt,.int x,.ref nl] H P E:=by
 have JJ:=J;obtain⟨e,⟨cs,tks,M,kvs,C,h1,Kp,h2⟩,nm,r',f1,f2,f3⟩:=J;refine x9 X cs _ M kt _ x nl zs {rfl,T4,TH,C,by lia,nm,Kp,oA (ψ h2 hi) rfl,f1.1,f1.2,λcs' tks' M' kvs' H' C' hb Kp' hl sb=>q H' {e,x4 _ _ M' _ {C',by lia,Kp',by lia},{JJ.ls sb (λx h=>?_) f2 nm.1,nm.2},JJ.ls sb (λx h=>?_) f3 r',f1,f2,f3}};rcases h with h|h|h;exact .inl h;exact .inr<|.inl h;exact .inr<|.inr<|.inr h
 rcases h with h|h|h;exact .inl h;exact .inr<|.inl h;exact .inr<|.inr<|.inr h
def L62.write{b:Nat}(T4:CK K a)(J:L62 a ly gp cl n r c w nl kt rr zs ms i X H)(hb:b<n+r+c+r+c)(q:∀ t X' H',X'.S.st=X.S.st->L62 a ly gp cl n r c w nl kt rr zs ms (i+1) X' H'->P (.ref t) H'):QS K a [.ref X.S.st,.int (b:Nat)] H P E:=by
 have JJ:=J;obtain⟨⟨a1,a2,a3,rfl,rfl,rfl,rfl⟩,⟨cs,tks,M,kvs,C,h1,Kp,h2⟩,nm,r',f1,f2,f3⟩:=J
 have hr:b<X.rows.length:=by rw[C.st.sz.2.2.2.2];exact hb
 have er:=η hr
 have mo:∀ j,X.C j=true->(X.wr cs b X.rows[b]).C j=true:=λj hj=>SZ hj
 have g:∀ x,(X.S.A.F x\/x=X.S.A.gp)->X.S.A.F x\/x=X.S.tk\/x=X.S.A.gp\/x=kt:=λx h=>h.imp id λz=>.inr<|.inl z;obtain⟨y,ep⟩:=C.st.bk.pk.ob;refine x6 X cs _ M b _ {rfl,T4,C.st,er,λt H' I' sb=>q t (X.wr cs b _) H' rfl {⟨a1,a2,a3,rfl,rfl,rfl,rfl⟩,x4 cs _ M _ {C.write er I' sb,by show cs.length+DG (X.c*X.w) _<=_;lia,{sb _ _ Kp.e (λz=>z.elim f1.1 λz=>(by have:=Kp.e;rw[z,ep]at this;cases this)),λk v hv=>?_},bz h2},{JJ.ls sb g f2 nm.1,nm.2},JJ.ls sb g f3 r',f1,f2,f3}};obtain⟨z,ez,kn,cc⟩:=Kp.v k v hv;exact{z,ez,kn.outs rfl mo,cc.imp id (by rintro ⟨l,ts,g1,g2,g3,g4,g5,g6⟩;exact x2 l ts {g1,g2,g3,JJ.ls sb g g3 g4,g5.outs rfl mo,g6})}
def L62.keep{z:Str}(T4:CK K a)(J:L62 a ly gp cl n r c w nl kt rr zs ms i X H)(hi:i<=61)(hz:z∈zs)(q:∀ X' H',X'.S.st=X.S.st->L62 a ly gp cl n r c w nl kt rr zs ms (i+1) X' H'->P .non H'):UI K a [.ref X.S.st,.ref kt,.str z] H P E:=by
 have JJ:=J
 have g:∀ x,(X.S.A.F x\/x=X.S.A.gp\/x=kt)->X.S.A.F x\/x=X.S.tk\/x=X.S.A.gp\/x=kt:=λx h=>h.imp id .inr;obtain⟨⟨a1,a2,a3,rfl,rfl,rfl,rfl⟩,⟨cs,tks,M,kvs,C,h1,Kp,h2⟩,nm,r',f1,f2,f3⟩:=J;refine x7 X cs _ M kt _ z {rfl,T4,C,by lia,(nm.2.2 z hz).1,Kp,oA (ψ h2 hi) rfl,f1.1,f1.2,λX' kvs' H' b1 b2 b3 b4 b5 C' Kp' hl sb=>q X' H' (by rw[b1]) {by rw[b1];exact⟨a1,a2,a3,b2,b3,b4,b5⟩,x4 cs _ M _ {C',by lia,Kp',by lia},{JJ.ls sb g f2 nm.1,nm.2},JJ.ls sb g f3 r',by rw[b1];exact f1,by rw[b1];exact f2,by rw[b1];exact f3}}
def L62.stop(tv:TV K a)(T4:CK K a)(J:L62 a ly gp cl n r c w nl kt rr zs ms i X H)(hi:i<=62)(q:∀ X' H',L62 a ly gp cl n r c w nl kt rr zs ms i X' H'->(∀ P:VK,(∀ H2,Same H' H2->P (.bl true) H2)->QY K a [.ref X'.S.st,.ref kt] H' P E)->D (.ref X'.S.st) H'):QU K a [.ref ly,.ref gp] H D E:=by
 obtain⟨⟨rfl,rfl,rfl,rfl,rfl,rfl,rfl⟩,⟨cs,tks,M,kvs,C,h1,Kp,h2⟩,nm,r',f1,f2,f3⟩:=J
 have Fc:X.S.A.F _:=.inr<|.inr<|.inr<|.inr<|.inr rfl;refine U6 _ _ _ _ _ _ _ _ _ _ {rfl,C.gnd tv T4,λX' H' b1 b2 b3 b4 b5 b6 b7 off ht C' sb=>?_};obtain⟨x,ep⟩:=C.st.bk.pk.ob
 have em:X'.m0=X.m0:=by unfold SX.m0;rw[b4,b7]
 have ls:∀ {l xs},¬ X.S.A.F l->H l=some _->H' l=some (.lst xs)/\¬ X'.S.A.F l:=λ{l xs} nF e=>{sb _ _ e λz=>z.elim (λz=>by rw[z,ep]at e;cases e) λz=>nF<|z ▸ Fc,(off l _ e).elim (λz=>absurd (z ▸ Fc) nF) id}
 have nkc:kt≠X.S.A.cl:=λz=>f1.1<|z ▸ Fc
 have K':Kept H' X' {D6 _ _ _ X.w _,[]} kt _:=⟨(sb _ _ Kp.e λz=>z.elim (λz=>by have:=Kp.e;rw[z,ep]at this;cases this) nkc),λk v hv=>by
  obtain⟨z,ez,kn,cc⟩:=Kp.v k v hv;exact{z,ez,kn.up em λx=>rfl,cc.imp id λ⟨l,ts,g1,g2,g3,g4,g5,g6⟩=>x2 l ts {g1,g2,(ls g3 g4).2,(ls g3 g4).1,g5.up C em,g6}}⟩
 have fk':¬ X'.S.A.F kt/\kt≠X'.S.tk:={(off kt _ Kp.e).elim (λz=>absurd z nkc) id,λz=>by have:=Kp.e;rw[z,ht]at this;cases this}
 have m18:DG _ ({D6 X.n X.r X.c X.w<|sh M.b X.C M.as,[]}:Hs).f<=18:=ψ Bg C'.few;refine q X' H' {⟨b1,b2,b3,b4,b5,b6,b7⟩,x4 [] [] _ _ {C',by simp only[m_];lia,K',h2},{(ls f2 nm.1).1,nm.2},(ls f3 r').1,fk',(ls f2 nm.1).2,(ls f3 r').2} λP p=>x4 X' _ kt _ {rfl,T4,C',K',oA (ψ h2 hi) rfl,fk'.1,fk'.2,λH2 s2 e2=>p H2 λy o e=>?_};by_cases z:y=kt;rw[z,e2,<-z];exact e;exact s2 _ _ e z
end
def LI(a:Ad)(ly gp cl:Addr)(n r c w:Nat)(nl kt rr:Addr)(zs:qZ)(ms:r8)(s t:Addr)(i:Nat)(σ:St)(H':Hp):Prop:=∃ X,L62 a ly gp cl n r c w nl kt rr zs ms i X H'/\∃ y7,σ=[some (.ref s),some<|.ref t,some<|.ref nl,some<|.ref ly,some<|.ref gp,some<|.ref X.S.st,some<|.ref kt,y7]
example:(zvh,nR,xW,8):=by
 apply u2;rintro s ns ⟨rfl,tv,T4,TH,hs,hl,q⟩
 have T4':=T4;obtain⟨T,TP,TL,TS⟩:=T4;refine x3 s ns 0 {rfl,hs,oA hl rfl,_,rfl,λt n r c w H1 s1 et n1 n3 r1 r3 c1 c3 w1 w6=>?_};refine x3 s ns 1 {rfl,s1.seq hs,oA hl rfl,x2 _ 5 {rfl,by decide,λnl zs H2 hnl s2 iR hzl hz=>?_}}
 have hs2:=(s1.trans s2).seq hs
 have et2:=s2 _ _ et;refine BM et2  rfl rfl (BM et2  rfl rfl (BM et2  rfl rfl (BM et2  rfl rfl ?_)));intro lp dl hlp hdl ndl
 have s0:Same H2 (upd (upd H2 dl<|.own lp) lp (.ins (a "Layout") dl [])):=(AK hdl).trans (AK (by rw[AH ndl.symm];exact hlp));refine x6 lp dl n r c w {rfl,TL,AD,oA n3 rfl,oA r3 rfl,oA c3 rfl,w1,oA w6 rfl,λH3 L3 MO=>{rfl,?_}}
 have s3:Same H2 H3:=λy o e=>MO _ _ (s0 _ _ e) (BE e hlp);obtain⟨dl2,el⟩:=L3.ob;refine y2 {el,BY,x5 lp n r c w {rfl,TL,TP,L3,λgp cl H4 hgp BC P4 s4=>?_}}
 have hN:∀ r'∈bd (n+r+c+r+c) (bd w V.non),∀ v∈r',v=.non:=λr' hr' v hv=>by
  rw[q_ hr']at hv;exact q_ hv
 have fw:c*w<=18:=ψ (lg c3 w6) (by decide);refine Ap  {tv,T4',L3.same s4,P4,{oA n3 rfl,oA r3 rfl,oA c3 rfl,w6,by simp},fw,w1,(λr' hr' v hv=>by rw[hN r' hr' v hv];trivial),(λkind k v x x hv=>?_),{λx x x=>rfl,λkind x=>by cases kind<;>trivial},{λx x x x e=>(by cases e),λx x x e=>(by cases e),λx x x e=>(by cases e),λx x x e=>(by cases e),λx x x e=>(by cases e),λx x x x x x x e=>(by cases e),λx x x x x x x e=>(by cases e)}} λX H5 a1 a2 a3 a4 a5 a6 a7 off htk C5 s5=>?_
 ·obtain⟨r',er',ev⟩:=ye.mp hv;exact hN r' (θ er') _ (θ ev)
 intro kt hkt;obtain⟨H6,zz0,s6,e6⟩:=ES  hkt;rw[zz0];obtain⟨ms,ems,hms⟩:=zvg ns
 have s26:=((s3.trans s4).trans s5).trans s6;refine zea (s26.seq hs2) λrr hrr=>?_;rw[ems];obtain⟨H7,zz0,s7,e7⟩:=ES  hrr;rw[zz0];refine .inl {{_,SqL.of e7},FN (xs:=ms.map V.int) (LI a lp gp cl n r c w nl kt rr zs ms s t) {X,({⟨a1,a2,a3,a4,a5,a6,a7⟩,x4 [] [] _ [] {C5.same<|s6.trans s7,by rw[a6,a7];exact ψ (by simp only[m_,mv];exact Bg) (fw),{s7 _ _ e6,λk v hv=>by cases hv},ρ _},{(s26.trans s7) _ _ iR,hzl,hz},e7,{C5.st.bk.off hkt,λz=>by rw[z,C5.st.tk]at hkt;cases hkt},((off nl _<|(s3.trans s4) _ _ iR).elim (λz=>by have:=s3 _ _ iR;rw[z,BC]at this;cases this) id),C5.st.bk.off<|s6.free hrr}),_,rfl} (λi σ H' x ⟨X,J,_⟩=>SqL.of J.er) (λi v σ H' ev hzz=>?_) (λσ H' hzz=>?_)}
 ·obtain⟨X,J,y7,es⟩:=hzz;subst es;rw[τ,ae]at ev;obtain⟨y,ey,rfl⟩:=ev
  have hi:=(ε.mp ey).1
  have hi:i<=60:=by lia
  push_cast[↓xU_];by_cases k4:y%8<4
  ·refine E5 k4 ?_;push_cast[↓xM_];refine{{by decide,by decide},J.heed T4' TH (bz hi) λH8 J8=>?_};exact⟨X,J8,_,rfl⟩
  refine DW k4 ?_;push_cast[↓xT_];by_cases k6:y%8<6
  ·refine E5 k6 ?_;push_cast[↓xN_]
   have JJ:=J;obtain⟨⟨rfl,rfl,rfl,rfl,rfl,rfl,rfl⟩,⟨cs,tks,M,kvs,C,x⟩,x⟩:=J;obtain⟨dx,ho⟩:=C.st.ob;obtain⟨dp,ep⟩:=C.st.bk.pk.ob
   have rl:=C.st.sz.2.2.2.2;obtain⟨b,eb,hb⟩:=UN (y/8) (n:=X.rows.length) (by lia);refine y2 {ho,BT,{by decide,by decide},y2 {ep,L0 _ _ _ (by decide +kernel) (by decide +kernel) (by decide +kernel),x5 X.S.A.gp X.S.A.cl X.w X.rows X.nn {rfl,TP,C.st.bk.pk,?_}}};push_cast[];refine{by lia,?_};rw[eb];exact JJ.write T4' (by rw[<-rl];exact hb) λt' X' H8 e8 J8=>{X',J8,_,by rw[<-e8]}
  refine DW k6 ?_;push_cast[↓xS_];split
  ·push_cast[↓xO_];refine{{by decide,by decide},U1 J.nm λz hz=>J.keep T4' (bz hi) hz λX' H8 e8 J8=>?_};exact{X',J8,_,by rw[<-e8]}
  ·refine{{by decide,by decide},?_};split
   ·push_cast[↓xO_];refine{{by decide,by decide},U1 J.nm λz hz=>J.keep T4' (bz hi) hz λX' H8 e8 J8=>?_};exact{X',J8,_,by rw[<-e8]}
   ·push_cast[↓xQ_];refine J.stop tv T4' (oA hi rfl) λX' H8 J8 R8=>?_;push_cast[↓xR_];refine R8 _ λH9 s9=>?_;push_cast[];exact{X',(J8.same s9).up,_,rfl}
 ·obtain⟨X,J,y7,es⟩:=hzz;subst es
  have hml:(ms.map V.int).length=ms.length:=ζ _;rw[hml]at J;push_cast[↓xV_];refine J.stop tv T4' (by lia) λX' H8 J8 R8=>R8 _ λH9 x=>q H9
end
def JH:Expr->qZ
 |.Name x _=>[x]
 |.Tuple [.Name x _,.Name y _] _ _=>[x,y]
 |_=>[]
def Bh(N:qZ)(A4:Oz):qZ:=A4.filterMap λi=>N[i]?
def FnScope.cq{X:Cx}{scope outer:Scope}{N P tn:qZ}{A4:Oz}(_:FnScope N P outer)(h:R3 scope outer N (Bh N A4) A4=true:=by decide +kernel)(h1:X.env.scope=outer:=by exact rfl)(h2:X.N=N:=by exact rfl):JU X scope tn (Bh N A4) A4:=kW h1 h2 h
section
variable{X:Cx}{tg iter EH:Expr}{EI:rY}{scope:Scope}{pos:Pos}{wi:TI}{td:TE}{g:TG}{tt:TT}{te:TE}{cn:qZ}{A4:Oz}
def pcm(S:JU X scope (JH tg) cn A4)(hc:X.calm=true)(hi:PI X tg iter wi)(hg:∀ AA s H cl C fp,PG (X.block AA s H (JH tg++cn) scope cl C fp) tg g)(ht:∀ AA s H cl C fp,KO (X.block AA s H (JH tg++cn) scope cl C fp) EI tt)(he:∀ AA s H cl C fp,PE (X.block AA s H (JH tg++cn) scope cl C fp) EH te)
  (hs:∀ x,jy iter X.env x=pure x:=by intro _;rfl):PE X (.ListComp EH [{tg,iter,EI,0}] scope pos) (BS wi g tt te (JH tg).length A4):=Nq S hc hi hg ht he hs
def pcs{i:Nat}{x:Str}{px spos:Pos}(S:JU X scope (JH tg) cn A4)(hc:X.calm=true)(hN:X.N.Nodup)(hi':X.N[i]? =some x)(hx:X.env.scope.names.lookup x=some .local)(hi:PI X tg iter wi)(hg:∀ AA s H cl C fp,PG (X.block AA s H (JH tg++cn) scope cl C fp) tg g)(ht:∀ AA s H cl C fp,KO (X.block AA s H (JH tg++cn) scope cl C fp) EI tt)(he:∀ AA s H cl C fp,PE (X.block AA s H (JH tg++cn) scope cl C fp) EH te)
  (hsw:vz (.ListComp EH [{tg,iter,EI,0}] scope pos) (some<|.Name x px) spos.line X.env=pure true:=by rfl)
  (hs:∀ x,jy iter X.env x=pure x:=by intro _;rfl):PS X (.Assign [.Name x px] (.ListComp EH [{tg,iter,EI,0}] scope pos) spos) (AS (BS wi g tt te (JH tg).length A4) (AE i)):=Nv S hc hN hi' hx hi hg ht he hsw hs
end
def A1(i:Nat):Stmt:=PySem.Challenge.pw_holdback_k62_whole_kept_behind_a_stop.main.body.getD i<|.Pass {0,0,0,0}
structure Txt(K:ι)(mg:Str->Option Value)(a:Ad):Prop where
 zyi:Cls K (a "Change")
 Bp:Cls K (a "Hold")
 Bq:Cls K (a "Layout")
 Bv:Cls K (a "Plank")
 Bw:Cls K (a "Store")
 Bx:Cls K (a "View")
 zym:mg "HoldError"=some (.ref<|a "HoldError")
 z1s:GV mg "HoldError" (.ref<|a "HoldError")
 z10:Exc K (a "HoldError")
 zyj:GV mg "MOST_LETTERS" (.int 8)
 zyk:GV mg "MOST_PIECE_SIGNS" (.int 40)
 zyn:mg "NoBlock"=some (.ref<|a "NoBlock")
 z1t:GV mg "NoBlock" (.ref<|a "NoBlock")
 zyu:Exc K (a "NoBlock")
 zyo:mg "NoChange"=some (.ref<|a "NoChange")
 z1u:GV mg "NoChange" (.ref<|a "NoChange")
 zyv:Exc K (a "NoChange")
 zyp:mg "NoName"=some (.ref<|a "NoName")
 z1v:GV mg "NoName" (.ref<|a "NoName")
 zyw:Exc K (a "NoName")
 zyq:mg "NoPiece"=some (.ref<|a "NoPiece")
 z1w:GV mg "NoPiece" (.ref<|a "NoPiece")
 zyx:Exc K (a "NoPiece")
 zyr:mg "NoRoom"=some (.ref<|a "NoRoom")
 z1x:GV mg "NoRoom" (.ref<|a "NoRoom")
 zyy:Exc K (a "NoRoom")
 zys:mg "NotSound"=some (.ref<|a "NotSound")
 z1y:GV mg "NotSound" (.ref<|a "NotSound")
 zyz:Exc K (a "NotSound")
 zyl:GV mg "PERCENT" (.int 37)
 zyt:mg "Twice"=some (.ref<|a "Twice")
 z1z:GV mg "Twice" (.ref<|a "Twice")
 zy0:Exc K (a "Twice")
 zx8:mg "all"=none
 zx9:mg "dict"=none
 zya:mg "enumerate"=none
 zyb:mg "int"=none
 zyc:mg "len"=none
 Bl:mg "list"=none
 zyd:mg "ord"=none
 zye:mg "range"=none
 zyf:mg "reversed"=none
 zyg:mg "set"=none
 Bm:mg "sorted"=none
 zyh:mg "tuple"=none
section
variable(P:bu)(w:World){K:ι}{mg:Str->Option Value}(base:Heap){a:Ad}{f:Addr}{fd:gg}
seal wpAny
seal MS MZ OZ XC JL LU N8 GO G9 BZ FE LZ HW G6 E8 G2 OV AE CU MY OO B7 tB SB DP AF RM B2 A9 D3 OS LT OP C0 EL AI OI KW OA LS F9 OU RQ AR GD O0 OM CZ GL BL KZ BI EK MW IR K0 SE OQ AS AZ J1 WX tC G8 DJ FB EV J2 FF OY FO EB DT C2 FQ E7 NA ON KU KY BQ SC IN B9 AM DK BF OF M5 IK N7 W3 OE CQ W1 PE PT EU PS PA PI PG KO II PW BW IxR
def dvT:Nat->List String->Array Lean.Term->Lean.MacroM (Lean.Term × List String)
 |0,_,_=>Lean.Macro.throwUnsupported
 |n+1,l,a=>match l with
  |"("::r=>do
   let x<-dvT n r #[]
   dvT n x.2 (a.push x.1)
  |")"::r=>pure (Lean.Syntax.mkApp a[0]! (a.extract 1 a.size),r)
  |[]=>pure (Lean.Syntax.mkApp a[0]! (a.extract 1 a.size),[])
  |s::r=>do
   let x:Lean.Term<-match s with
    |"?"=>`(?_)
    |"_"=>`(_)
    |"1"=>`(by assumption)
    |"2"=>`(by rfl)
    |"3"=>`(by with_unfolding_all rfl)
    |"4"=>`(show List.Nodup (_++_) by decide +kernel)
    |"5"=>`(fun _ _=>rfl)
    |"6"=>`(fun _ _ _ _ _ _=>?_)
    |"7"=>`(⟨rfl,rfl,rfl,rfl⟩)
    |"8"=>let h:=Lean.mkIdent `hx1;let e:=Lean.mkIdent `E1;`(fun $e _ _ $h=>?_)
    |"9"=>`(by simp)
    |"10"=>`(fun _=>rfl)
    |"11"=>`(fun _=>?_)
    |_=>pure<|Lean.mkIdent s.toName
   dvT n r (a.push x)
def dvF:List String->Lean.MacroM (Lean.TSyntax `tactic)
 |[]=>`(tactic|fail)
 |s::l=>do
  let x<-dvT 99 (s.splitOn " ") #[]
  let t<-dvF l
  `(tactic|first|refine $(x.1)|$t:tactic)
def dvG(t:Lean.TSyntax `tactic):List String->Lean.MacroM (Lean.TSyntax `tactic)
 |[]=>pure t
 |s::l=>do
  let u<-dvG t l
  match s.splitOn "|" with
  |g::r=>
   let x<-dvT 99 (g.splitOn " ") #[]
   let y<-dvF r
   `(tactic|first|(show $(x.1);$y:tactic)|$u:tactic)
  |_=>pure u
local macro_rules
 |`(tactic|ac_rfl)=>do
  let t<-dvG (<-dvF ("T.Bw|T.Bq|T.Bp|T.Bv|T.Bx|Zv ( KL hr )|Nl|Nm ?|pDn ( Mc ( KL hr ) ? ? )|pDi ( Mb ( KL hr ) ? ? )|Mp ? ? ?|Mm|Jw|pPt ( Jx ? )|Pd rfl T.zym|Pb|Ph ? 11 ?".splitOn "|")) ("PE _ _ _|Ty _|iW|pFl ( Hq ? rfl )|SH ( Yv ? ? 1 hr hx ? )|jP kQ ? ? 5|Ym ?|XG ( Yq 1 hr hx ? )|OB Pp ? ?|Jb ?|Dh|OB zbw ? ?|SH ( Yw ? ? 1 hr hx )|Hz ?|pcm sc.cq rfl ? 6 6 6|Dg|SH ( WC ? ? 1 hr.m kL ? )|RU PySem.F.plainAttrs_list PySem.F.slot_list_append PySem.F.type_list_append zd3 ? ?|OB zbx ? ?|Dc|OH zcr rfl T.zyc 2 ?|OB Qj ? ?|pMk ( Nz 1 hr.m hx.passes rfl ? )|Mj|SH ( WC ? ? 1 hr.m hx1.passes ? )|pCh ( Gp WJ WJ ? ? ? )|i7 ( mI hr.units ) ? ? ( KF _ )|Zz ( KL hr ) ? rfl rfl 9 9|MX zcx rfl T.zyh 2 ?|MX zcu rfl T.Bl 2 ?|Dx ?|pAv ( Dy ? ? )|OH ( Uj rfl ) rfl T.zx8 2 ?|pDg ( Lz ( KL hr ) ? ? 5 )|Jy Qp ? ? ?|Wp rfl rfl T.Bm rfl T.zyg ?|Ml|XG ( WB 1 hr.m kL rfl ? )|MX Gz rfl T.zyb 2 ?|Fq zby ?|RU PySem.F.plainAttrs_list PySem.F.slot_list_extend PySem.F.type_list_extend Zg ? ?|OH Uh rfl T.zyd 2 ?|WD T.zyl rfl|i7 ( mJ hr.units ) ? ? ( KF _ )|WD T.zyj rfl|MX Wx rfl T.zx9 2 ?|WD T.zyk rfl|OB zbv ? ?|RU PySem.F.plainAttrs_str PySem.F.slot_str_join PySem.F.type_str_join Xx ? ?|Mx ( KL hr ) ? ? ? 7|pD1 ( Mw ( KL hr ) ? ? 7 )|OH ( Yj rfl ) rfl T.Bm 2 ?|RU PySem.F.plainAttrs_dict PySem.F.slot_dict_update PySem.F.type_dict_update ? ? ?|XG ( WB 1 hr.m hx1.passes rfl ? )|My ? ? ? 7|MX ( zah rfl ) rfl T.Bl 2 ?/PA _ _ _|lY ?|lZ ? ?|l9 ? ? ?|RR|Yp ? ? ? ?/EU _ _ _|Ec ? ?|Ed ?|Eb/PS _ _ _|Eh ?|Yl _ nd ?|Ej ? ? ?|Eg ?|pSf ( Hv ? ? rfl )|Fj hx.po rfl ? ? ?|pcs sc.cq rfl nd rfl rfl ? 6 6 6|pDp ( Mg ( KL hr ) ? ? ? rfl )|iZ nd rfl ( zr rfl ) ?|Ev ? ?|LY hx T.zyu rfl T.zyn ?|LY hx T.zyw rfl T.zyp ?|LY hx T.zyx rfl T.zyq ?|Zc ? ? ? jD|LY hx T.zyv rfl T.zyo ?|Hw ? ? jD|Ex hx.po ? ?|LY hx T.zyy rfl T.zyr ?|LY hx T.zyz rfl T.zys ?|LY hx T.zy0 rfl T.zyt ?|Pj rfl rfl rfl rfl 8 ?|zag hx.po rfl ? ? ?/PG _ _ _|lX _ 4|lX _ nd|Em rfl ?|pTp ?|Ep ? ? kS|iY nd rfl ( zr rfl )/PI _ _ _ _|pSq ( Qx ? )|pR1 ( Fg rfl T.zye ? )|pEn ( Yg rfl T.zya ? )|Ug ?|Ww rfl T.zyf ?/II _ _ _|El ? ?|Ek|pGc ?|pGn ?/PT _ _ _|JZ ( JO ( mI hr.units ) ? ? ( KF _ ) )|JZ ( JO zco ? ? ( KF _ ) )|Dw ?|JZ ( JO Qk ? ? ( KF _ ) )|JZ ( JO zcn ? ? ( KF _ ) )|pTr ( Gx ? 10 )|JZ ( JO kM ? ? ( KF _ ) )|JZ ( JO ( mJ hr.units ) ? ? ( KF _ ) )|pCt ( Gq WJ kM ? ? ? )|JZ ( JO ( lR hr.units ) ? ? 3 )|JZ ( JO ( Yh hr.units ) ? ? 3 )|JZ ( JO ( Xm hr.units ) ? ? 3 )|pTb ( Dl ? 3 )|PW.pt ?/PW _ _ _|Dm ?|Dq ? ?|Dp ?|Dv ? ?".splitOn "/")
  `(tactic|repeat' $t:tactic)
local macro_rules
 |`(command|example:($v:str,$x,*):=$t:term)=>do
  let a:=x.getElems
  let i:=fun (n:Lean.Name)=>Lean.mkIdent n
  let j:=fun (k:Nat)=>i (a[k]!).raw.getId
  let f<-`(fun _ _ _ _ _ $(i `E) $(i `hr) $(i `hx)=>by have $(i `sc):ident:=$(j 2);have $(i `nd):ident:=$(i `sc.nd);ac_rfl)
  let u:Array Lean.Term:=#[i `P,i `w,i `mg,i `base,a[4]!,<-`($(a[3]!) $(i `K) $(i `a)),j 2,a[7]!]
  let e<-if a.size=9 then `($(i `F.oK) $u* ($(i `len):ident:=$(a[8]!)) $f) else `($(i `F.oK) $u* $f)
  return Lean.mkNullNode #[<-`(command|abbrev $(j 1):ident:Stmt:=$t),<-`(command|def $(j 2):ident:A0 $(a[6]!) $(a[5]!) (AT $(j 1)):=.go),<-`(command|def $(j 0):ident ($(i `T):ident:Txt $(i `K) $(i `mg) $(i `a)) ($(i `F):ident:Fun $(i `K) $(Lean.Syntax.mkStrLit ((v.getString.splitOn ".").getLast!)) $v $(j 1) $(i `f) $(i `fd)):=$e)]
example:("View.records_led_to",zvk,aF,aG,nU,0,1,["self"],zs6):=BK (A1 11) 1
example:("View.records_standing",zvl,aH,aI,nX,0,1,["self"],zs2):=BK (A1 11) 2
example:("View.pieces_named",zvm,aJ,aK,nY,0,1,["self"],zs5):=BK (A1 11) 3
example:("View.count_of",zvn,aL,aM,n0,0,2,["self","record"],zs1):=BK (A1 11) 4
example:("faults_of_names",zvo,aN,aO,oM,0,1,["view","lost","twice","seen","k","value"],ztf):=A1 15
example:("left_pieces",zvp,aP,aQ,YL,0,1,["view","marked"],zs7):=A1 20
example:("marked_records",zvq,aR,aS,YM,0,1,["view","marked"],zs8):=A1 21
example:("tally",zvr,aT,aU,YN,0,2,["many","numbers","counts","number"],zti):=A1 23
example:("pieces_in",zvs,aV,aW,oV,0,1,["records","pieces","value"],ztj):=A1 24
example:("Change.__init__",zvt,aX,aY,oX,0,4,["self","place","value","needs"],zoz,zo0):=BK (A1 32) 0
example:("Book.waiting",zvu,aZ,a0,oY,0,1,["self"],zpb,zpc):=BK (A1 33) 4
example:("Book.block_of",zvv,bA,bB,oZ,0,2,["self","number"],zpw):=BK (A1 33) 8
example:("Book.ask_for_changes",zvw,bC,bD,o7,0,2,["self","numbers","number"],zo9,zpa):=BK (A1 33) 10
example:("needs_with",zvx,bE,bF,UL,0,2,["needs","ahead"],zo3,zo4):=A1 34
example:("Hold.lack_of",zvy,bG,bH,pC,0,3,["self","number","gone","need"],zpn,zpo):=BK (A1 36) 2
example:("Hold.laid_over",zvz,bI,bJ,pF,0,3,["self","values","block","laid","number"],zps,zpt):=BK (A1 36) 3
example:("is_sign",zv0,bK,bL,YO,0,1,["sign"],zq5):=A1 39
example:("is_name",zv1,bM,bN,YQ,0,1,["thing"],zq6):=A1 43
example:("Store.hold",zv2,bO,bP,pJ,0,1,["self"],zrb,zrc):=BK (A1 50) 12
example:("Plank.__init__",zv3,bQ,bR,YR,0,3,["self","blocks","cells"],zon,zot):=BK (A1 55) 0
example:("Plank.blocks",zv4,bS,bT,pL,0,1,["self"],zoo,zou):=BK (A1 55) 1
example:("Plank.cells",zv5,bU,bV,pM,0,1,["self"],zop,zov):=BK (A1 55) 2
example:("Plank.ask_for_block",zv6,bW,bX,YS,0,2,["self","block"],zoq,zow):=BK (A1 55) 6
example:("Layout.__init__",zv7,bY,bZ,pO,0,5,["self","names","records","pieces","cells"],zpz,zqa):=BK (A1 57) 0
example:("Layout.counts",zv8,b0,cA,pP,0,1,["self"],zp8,zqj):=BK (A1 57) 6
example:("Layout.blocks_ahead_of_marks",zv9,cB,cC,pQ,0,1,["self"],zp6,zqh):=BK (A1 57) 9
example:("Layout.place_from",zwa,cD,cE,pR,0,3,["self","block","k"],zp0,zqb):=BK (A1 57) 10
example:("_law_cell_at",zwb,cF,cG,YT,0,2,["script","k"],zom):=A1 59
example:("_law_spun",zwc,cH,cI,YU,0,2,["cell","many","here","there","found","k"],zuw):=A1 60
local macro_rules
 |`(command|example:=[$x,*])=>do
  let i:=Lean.mkIdent
  let b<-x.getElems.mapM fun t=>do
   match t with
   |`(($n:ident,$k,$c:str,$j,$s,$g,$r))=>`(Lean.Parser.Term.bracketedBinderF|($n:ident : $k $(i `P) $(i `w) $(i `K) $(i `mg) $(i `base) ($(i `a) $c) $j $s $g ($r $(i `K) $(i `a))))
   |`(($n:ident,$k,$j,$s,$g,$r))=>`(Lean.Parser.Term.bracketedBinderF|($n:ident : $k $(i `P) $(i `w) $(i `K) $(i `mg) $(i `base) $j $s $g ($r $(i `K) $(i `a))))
   |_=>Lean.Macro.throwUnsupported
  `(command|variable $b*)
example:=[(z1j,BP,"View",1,"pieces_named",aK,QQ),(z1l,BP,"View",1,"records_standing",aI,UE),(z1i,BP,"View",1,"count_of",aM,UF)]
example:("faults_of_things",zwd,cJ,cK,YV,1,1,["view","shared","empty","few"],ztc):=A1 16
example:("faults_of_marks",zwe,cM,cN,YW,1,1,["view","led_to","records","pieces"],ztb):=A1 17
example:("leavings_of_records",zwf,cO,cP,qI,1,1,["view","many","left","record","leads"],zte):=A1 19
example:=[(z0t,BP,"Plank",1,"blocks",bT,L4)]
example:("Book.__init__",zwg,cQ,cS,YX,1,2,["self","plank"],zo1,zo2):=BK (A1 33) 0
example:=[(zz6,BP,"Hold",1,"ask_for_changes",bD,PQ),(z0g,BP,"Hold",1,"waiting",a0,NG)]
example:("Book.closure",zwh,cT,cU,rG,1,2,["self","numbers","found","number","need"],zpi,zpj):=BK (A1 33) 6
example:=[(z0u,BP,"Plank",1,"cells",bV,SO)]
example:("Book.ask_for_place",zwi,cV,cW,rH,1,2,["self","place"],zo5,zo6):=BK (A1 33) 9
example:=[(z0c,BP,"Hold",1,"lack_of",bH,TQ)]
example:("Hold.outcome",zwj,cX,cY,Y0,1,3,["self","block","taken","gone","out","held","number","lack"],zpq,zpr):=BK (A1 36) 1
example:=[(zzf,CJ,1,"is_sign",bL,XX)]
example:("is_piece",zwk,cZ,c7,Y1,1,1,["thing"],zq7):=A1 44
example:=[(z0s,BP,"Plank",1,"ask_for_block",bX,L5)]
example:("Plank.read",zwl,c8,c9,Y2,1,2,["self","block"],zor,zox):=BK (A1 55) 4
example:("Plank.write",zwm,dA,dB,Y3,1,3,["self","block","values"],zos,zoy):=BK (A1 55) 5
example:=[(z0o,BP,"Layout",1,"place_from",cE,K4)]
example:("Layout.name_at",zwn,dC,dD,sM,1,2,["self","k"],zp1,zqc):=BK (A1 57) 1
example:("Layout.record_at",zwo,dE,dF,sN,1,2,["self","k"],zp2,zqd):=BK (A1 57) 2
example:("Layout.piece_at",zwp,dG,dH,sO,1,2,["self","k"],zp3,zqe):=BK (A1 57) 3
example:=[(z0j,BP,"Layout",1,"blocks_ahead_of_marks",cC,NE)]
example:("Layout.record_mark",zwq,dJ,dM,sP,1,2,["self","k"],zp4,zqf):=BK (A1 57) 4
example:("Layout.piece_mark",zwr,dN,dO,sQ,1,2,["self","k"],zp5,zqg):=BK (A1 57) 5
example:("Layout.blocks",zws,dP,dQ,sR,1,1,["self"],zp7,zqi):=BK (A1 57) 7
example:=[(zzo,CJ,1,"_law_spun",cI,NP)]
example:("_law_names",zwt,dR,dU,tJ,1,2,["cell","many","letters","xs","size","first","second","names","k","word","j","step"],zu2):=A1 61
example:("_law_text",zwu,dW,dX,tM,1,1,["cell","signs","xs","size"],zux):=A1 62
example:("_law_layout",zwv,dY,dZ,tN,1,1,["cell","xs"],zuy):=A1 63
example:=[(zy8,CJ,1,"faults_of_names",aO,X2),(zy9,CJ,2,"faults_of_things",cK,X3),(zy7,CJ,2,"faults_of_marks",cN,X4)]
example:("faults_in",zww,d0,d7,tO,2,1,["view"],zs9):=A1 14
example:=[(zzr,CJ,2,"leavings_of_records",cP,X5),(zzs,CJ,1,"left_pieces",aQ,X6),(zzu,CJ,1,"marked_records",aS,X7)]
example:("leavings_in",zwx,d8,d9,tP,2,1,["view"],zta):=A1 18
example:=[(z0v,BP,"Plank",2,"read",c9,K2)]
example:("values_at",zwy,eA,eB,tQ,2,2,["plank","places"],zth):=A1 22
example:=[(z0q,BP,"Layout",2,"record_at",dF,GR),(z0r,BP,"Layout",2,"record_mark",dM,IV),(z0n,BP,"Layout",2,"piece_mark",dO,IW)]
example:("mended_cells",zwz,eD,eE,Y5,2,3,["layout","plank","find","place"],zt4):=A1 27
example:=[(z0w,BP,"Plank",2,"write",dB,O6)]
example:("write_due",zw0,eF,eG,Y6,2,2,["plank","due","block","before","after"],zt8):=A1 28
example:=[(z0a,BP,"Hold",2,"closure",cU,TN),(zz8,BP,"Hold",1,"block_of",bB,XT),(z0f,BP,"Hold",2,"outcome",cY,PR)]
example:("row_for",zw1,eI,eK,uB,2,2,["hold","numbers","row","taken","left","block","number"],zpy):=A1 30
example:=[(zz7,BP,"Hold",2,"ask_for_place",cW,TM)]
example:("Book.newest",zw2,eL,eO,uC,2,2,["self","place"],zo7,zo8):=BK (A1 33) 3
example:=[(z0d,BP,"Hold",1,"laid_over",bJ,TR)]
example:("Hold.write",zw3,eQ,eU,uE,2,2,["self","block","values","told","number"],zpu,zpv):=BK (A1 36) 0
example:=[(z0i,BP,"Layout",2,"blocks",dQ,S6),(z1p,M7,"Plank",1,"Plank",bR,SN)]
example:("Layout.plank",zw4,eV,eX,uF,2,1,["self"],zp9,zqk):=BK (A1 57) 8
example:=[(z0k,BP,"Layout",1,"counts",cA,K6),(z0l,BP,"Layout",2,"name_at",dD,IU),(zz3,CJ,3,"values_at",eB,LE),(z0m,BP,"Layout",2,"piece_at",dH,K5),(zz2,CJ,1,"tally",aU,QN),(zzy,CJ,1,"pieces_in",aW,UD),(z1k,BP,"View",1,"records_led_to",aG,X1)]
example:("View.__init__",zw5,eY,eZ,uO,3,3,["self","layout","plank","counts","records","pieces"],zto):=BK (A1 11) 0
example:=[(z0e,BP,"Hold",3,"newest",eO,NF),(zzx,CJ,1,"needs_with",bF,TK),(z1m,M7,"Change",1,"Change",aY,TJ)]
example:("Book.change",zw6,fA,fB,uP,3,4,["self","place","value","needs","ahead","number"],zpd,zpe):=BK (A1 33) 1
example:("Book.in_hand",zw7,fC,fD,uQ,3,2,["self","place","number"],zpl,zpm):=BK (A1 33) 2
example:=[(z1n,M7,"Hold",2,"Hold",cS,PN)]
example:("Store.__init__",zw8,fE,fF,uR,3,3,["self","layout","plank"],zrd,zre):=BK (A1 50) 0
example:=[(z0h,BP,"Hold",3,"write",eU,TU)]
example:("Store.write",zw9,fG,fH,uS,3,2,["self","block"],zss):=BK (A1 50) 10
example:=[(z0b,BP,"Hold",4,"in_hand",fD,L8)]
example:("lowest_with",zxa,fI,fJ,uT,4,3,["hold","places","values","k","place"],zqp,zqq):=A1 48
example:("Store.name_cells",zxb,fK,fL,Y7,4,1,["self"],zrf,zrg):=BK (A1 50) 16
example:("Store.standing",zxc,fM,fN,Y8,4,2,["self","record"],zrr,zrs):=BK (A1 50) 17
example:=[(zz9,BP,"Hold",4,"change",fB,FS)]
example:("Store.fill_cell",zxd,fP,fQ,ZA,4,5,["self","cell","name","record","need","needs"],zrv,zrw):=BK (A1 50) 18
example:=[(z1r,M7,"View",4,"View",eZ,QR),(zy6,CJ,3,"faults_in",d7,UG),(zzq,CJ,3,"leavings_in",d9,X8)]
example:("walk",zxe,fR,fS,uX,5,2,["layout","plank","view"],ztp):=A1 12
example:("is_sound",zxf,fT,fU,ZB,5,2,["layout","plank"],ztq):=A1 13
example:=[(zzt,CJ,5,"lowest_with",fJ,MA)]
example:("free_name",zxg,fV,fW,ZC,5,2,["layout","hold","places"],zqt,zqu):=A1 45
example:("free_record",zxh,fX,fY,ZD,5,2,["layout","hold","marks"],zqv,zqw):=A1 46
example:("free_piece",zxi,fZ,f7,ZE,5,2,["layout","hold","marks"],zqx,zqy):=A1 47
example:=[(z07,BP,"Store",5,"name_cells",fL,NJ)]
example:("Store.names",zxj,f8,f9,ZF,5,1,["self"],zrl,zrm):=BK (A1 50) 7
example:("Store.cell_of",zxk,gA,gB,vF,5,2,["self","name","cell","value"],zrj,zrk):=BK (A1 50) 15
example:=[(z1e,BP,"Store",5,"standing",fN,HY)]
example:("Store.recount",zxl,gC,gD,vH,5,4,["self","record","more","needs","value"],zry,zrz):=BK (A1 50) 20
example:("Store.regroup",zxm,gE,gF,ZG,5,4,["self","record","pieces","needs"],zr0,zr1):=BK (A1 50) 21
example:("Store.drop_record",zxn,gG,gH,vN,5,3,["self","record","gone","pieces","dropped","made","mark"],zr5,zr6):=BK (A1 50) 22
example:=[(zzg,CJ,6,"is_sound",fU,YA),(zz4,CJ,6,"walk",fS,X9),(zzw,CJ,3,"mended_cells",eE,YB),(zz5,CJ,3,"write_due",eG,YC)]
example:("mend",zxo,gI,gJ,ZH,6,2,["layout","plank","finds","due","find"],zup):=A1 26
example:=[(zzd,CJ,1,"is_name",bN,XY),(z0y,BP,"Store",6,"cell_of",gB,MB)]
example:("Store.ask_for_new_name",zxp,gK,gL,ZI,6,3,["self","new","given"],zrn,zro):=BK (A1 50) 13
example:("Store.record_of",zxq,gM,gO,vS,6,2,["self","name","cell"],zrt,zru):=BK (A1 50) 14
example:("Store.empty_cell",zxr,gP,gQ,ZJ,6,3,["self","name","needs","gone"],zr2,zr3):=BK (A1 50) 19
example:=[(z0x,BP,"Store",7,"ask_for_new_name",gL,P8),(zzc,CJ,6,"free_record",fY,TZ),(zza,CJ,6,"free_name",fW,PY),(z02,BP,"Store",5,"fill_cell",fQ,P9)]
example:("Store.make",zxs,gR,gS,ZK,7,2,["self","name","record","cell","mark","stands"],zr7,zr8):=BK (A1 50) 1
example:=[(z1b,BP,"Store",7,"record_of",gO,IX),(z1c,BP,"Store",6,"recount",gD,NK)]
example:("Store.link",zxt,gT,gU,ZL,7,3,["self","old","new","record","cell","more"],zr9,zsa):=BK (A1 50) 2
example:=[(z01,BP,"Store",7,"empty_cell",gQ,QD),(z00,BP,"Store",6,"drop_record",gH,T5)]
example:("Store.cut",zxu,gW,gX,v8,7,2,["self","name","record","gone"],zsc,zsd):=BK (A1 50) 3
example:=[(zze,CJ,2,"is_piece",c7,XZ),(zzb,CJ,6,"free_piece",f7,T2),(z1d,BP,"Store",6,"regroup",gF,QC)]
example:("Store.put",zxv,gY,gZ,wC,7,3,["self","name","text","record","piece","mark","filled"],zse,zsf):=BK (A1 50) 4
example:("Store.take",zxw,g7,g8,wF,7,3,["self","name","at","record","pieces","without"],zsj,zsm):=BK (A1 50) 5
example:("Store.texts",zxx,g9,hE,wG,7,2,["self","name","pieces"],zsg,zsh):=BK (A1 50) 8
example:("Store.places_of",zxy,hG,hU,wJ,7,2,["self","name","record","own"],zst):=BK (A1 50) 9
example:=[(zzv,CJ,7,"mend",gJ,YD),(z1q,M7,"Store",4,"Store",fF,NI)]
example:("come_up",zxz,hV,hX,wK,7,2,["layout","plank"],zuq):=A1 53
example:=[(z04,BP,"Store",8,"link",gU,QE)]
example:("Store.move",zx0,hZ,iA,wN,8,3,["self","old","new","linked","record","gone"],zsl,zsn):=BK (A1 50) 6
example:=[(z03,BP,"Store",1,"hold",bP,P0),(z09,BP,"Store",8,"places_of",hU,X0),(zzz,CJ,3,"row_for",eK,XU)]
example:("row_to_keep",zx1,iB,iC,wQ,8,2,["store","name","hold","newest"],zsu):=A1 52
example:=[(z05,BP,"Store",8,"make",gS,T6),(zzp,CJ,2,"_law_text",dX,YE),(z1a,BP,"Store",8,"put",gZ,T8),(z1f,BP,"Store",8,"take",g8,T9),(z06,BP,"Store",9,"move",iA,UA),(z0z,BP,"Store",8,"cut",gX,T7)]
example:("_law_deed",zx2,iD,iE,w5,9,3,["store","cell","names","xs","one","other","done"],zu4):=A1 64
example:=[(z08,BP,"Store",6,"names",f9,P7),(z1g,BP,"Store",8,"texts",hE,QF),(zz1,CJ,9,"row_to_keep",iC,UC),(z1h,BP,"Store",4,"write",fH,QS)]
example:("_law_keep",zx3,iF,iG,xA,9,3,["store","kept","name","texts","block"],zvb):=A1 66
example:("_law_right",zx4,iH,iI,xF,9,2,["store","kept","names","name"],zvf):=A1 67
example:=[(zzi,CJ,10,"_law_deed",iE,YH)]
example:("_law_heeded",zx5,iJ,iK,xL,10,4,["store","kept","cell","names","name","done","other"],zu7):=A1 65
example:=[(zzh,CJ,1,"_law_cell_at",cG,TD),(zzl,CJ,2,"_law_layout",dZ,YF),(zzm,CJ,2,"_law_names",dU,YG),(z1o,M7,"Layout",1,"Layout",bZ,S5),(z0p,BP,"Layout",3,"plank",eX,S7),(zzj,CJ,11,"_law_heeded",iK,UH),(zzk,CJ,10,"_law_keep",iG,UI),(zy5,CJ,8,"come_up",hX,QU),(zzn,CJ,10,"_law_right",iI,QY)]
example:("law",zx6,iL,Bj,xW,11,1,["script","sizes","names","layout","plank","store","kept","cell"],zvh):=A1 68
end
def zx7(q4a q4b q4c q4d q4e q4f q4g q4h q4i q4j q4k q4l q4m q4n:Addr):∃ a:Ad,a "HoldError"=q4a/\a "NoBlock"=q4b/\a "NoChange"=q4c/\a "NoRoom"=q4d/\a "NoName"=q4e/\a "Twice"=q4f/\a "NoPiece"=q4g/\a "NotSound"=q4h/\a "View"=q4i/\a "Change"=q4j/\a "Hold"=q4k/\a "Store"=q4l/\a "Plank"=q4m/\a "Layout"=q4n :=
 {λs=>if s="HoldError" then q4a else if s="NoBlock" then q4b else if s="NoChange" then q4c else if s="NoRoom" then q4d else if s="NoName" then q4e else if s="Twice" then q4f else if s="NoPiece" then q4g else if s="NotSound" then q4h else if s="View" then q4i else if s="Change" then q4j else if s="Hold" then q4k else if s="Store" then q4l else if s="Plank" then q4m else if s="Layout" then q4n else 0,by simp}
def iN(K:ι):Sp:=λvs H Q _=>∃ (s:Addr) (ns:List Int),vs=[.ref s]/\SqL K H s (ns.map V.int)/\ns.length<=63/\∀ H',Q (.bl true) H'
local macro_rules
 | `(tactic| injections)=>`(tactic| skip)
 | `(tactic| injections $x:ident $y*)=>`(tactic| ((first|have:=Yy (ok:=by intro _ _ F;apply $x<;>assumption)|have:=Yx (ok:=by intro _ _ F;apply $x<;>assumption)|have:=Yz (ok:=by intro _ _ F;apply $x<;>assumption));injections $y*))
def all_mk{P:bu}{w:World}{K:ι}{h:Heap}{mg:Str->Option Value}{fa:Addr}{q4a q4b q4c q4d q4e q4f q4g q4h q4i q4j q4k q4l q4m q4n:Addr}{tk_MOST_LETTERS:Tok}{tk_MOST_PIECE_SIGNS:Tok}{tk_PERCENT:Tok}(X:K.In h)(G:h.Ns bw mg)(hfa:mg "law"=some (.ref fa))
  (q0:GX K q4a "HoldError")
  (q1:GX K q4b "NoBlock")
  (q2:GX K q4c "NoChange")
  (q3:GX K q4d "NoRoom")
  (q4:GX K q4e "NoName")
  (q5:GX K q4f "Twice")
  (q6:GX K q4g "NoPiece")
  (q7:GX K q4h "NotSound")
  (q8:GC K q4i "View")
  (q9:GC K q4j "Change")
  (qa:GC K q4k "Hold")
  (qb:GC K q4l "Store")
  (qc:GC K q4m "Plank")
  (qd:GC K q4n "Layout")
  (qe:ko K bw "MOST_LETTERS"=some (some<|.int 8 tk_MOST_LETTERS))
  (qf:ko K bw "MOST_PIECE_SIGNS"=some (some<|.int 40 tk_MOST_PIECE_SIGNS))
  (qg:ko K bw "PERCENT"=some (some<|.int 37 tk_PERCENT))
  (qh:ko K bw "all"=some none)
  (qi:ko K bw "dict"=some none)
  (qj:ko K bw "enumerate"=some none)
  (qk:ko K bw "int"=some none)
  (ql:ko K bw "len"=some none)
  (qm:ko K bw "list"=some none)
  (qn:ko K bw "ord"=some none)
  (qo:ko K bw "range"=some none)
  (qp:ko K bw "reversed"=some none)
  (qq:ko K bw "set"=some none)
  (qr:ko K bw "sorted"=some none)
  (qs:ko K bw "tuple"=some none)
  (qt:GF K "law" iL)
  (_:GM K q4i "pieces_named" "View.pieces_named" aJ)
  (_:GM K q4i "records_standing" "View.records_standing" aH)
  (_:GM K q4i "count_of" "View.count_of" aL)
  (_:GM K q4m "blocks" "Plank.blocks" bS)
  (_:GM K q4k "ask_for_changes" "Book.ask_for_changes" bC)
  (_:GM K q4k "waiting" "Book.waiting" aZ)
  (_:GM K q4m "cells" "Plank.cells" bU)
  (_:GM K q4k "lack_of" "Hold.lack_of" bG)
  (_:GF K "is_sign" bK)
  (_:GM K q4m "ask_for_block" "Plank.ask_for_block" bW)
  (_:GM K q4n "place_from" "Layout.place_from" cD)
  (_:GM K q4n "blocks_ahead_of_marks" "Layout.blocks_ahead_of_marks" cB)
  (_:GF K "_law_spun" cH)
  (_:GF K "faults_of_names" aN)
  (_:GF K "faults_of_things" cJ)
  (_:GF K "faults_of_marks" cM)
  (_:GF K "leavings_of_records" cO)
  (_:GF K "left_pieces" aP)
  (_:GF K "marked_records" aR)
  (_:GM K q4m "read" "Plank.read" c8)
  (_:GM K q4n "record_at" "Layout.record_at" dE)
  (_:GM K q4n "record_mark" "Layout.record_mark" dJ)
  (_:GM K q4n "piece_mark" "Layout.piece_mark" dN)
  (_:GM K q4m "write" "Plank.write" dA)
  (_:GM K q4k "closure" "Book.closure" cT)
  (_:GM K q4k "block_of" "Book.block_of" bA)
  (_:GM K q4k "outcome" "Hold.outcome" cX)
  (_:GM K q4k "ask_for_place" "Book.ask_for_place" cV)
  (_:GM K q4k "laid_over" "Hold.laid_over" bI)
  (_:GM K q4n "blocks" "Layout.blocks" dP)
  (_:GN K q4m "Plank" "Plank.__init__" bQ)
  (_:GM K q4n "counts" "Layout.counts" b0)
  (_:GM K q4n "name_at" "Layout.name_at" dC)
  (_:GF K "values_at" eA)
  (_:GM K q4n "piece_at" "Layout.piece_at" dG)
  (_:GF K "tally" aT)
  (_:GF K "pieces_in" aV)
  (_:GM K q4i "records_led_to" "View.records_led_to" aF)
  (_:GM K q4k "newest" "Book.newest" eL)
  (_:GF K "needs_with" bE)
  (_:GN K q4j "Change" "Change.__init__" aX)
  (_:GN K q4k "Hold" "Book.__init__" cQ)
  (_:GM K q4k "write" "Hold.write" eQ)
  (_:GM K q4k "in_hand" "Book.in_hand" fC)
  (_:GM K q4k "change" "Book.change" fA)
  (_:GN K q4i "View" "View.__init__" eY)
  (_:GF K "faults_in" d0)
  (_:GF K "leavings_in" d8)
  (_:GF K "lowest_with" fI)
  (_:GM K q4l "name_cells" "Store.name_cells" fK)
  (_:GM K q4l "standing" "Store.standing" fM)
  (_:GF K "is_sound" fT)
  (_:GF K "walk" fR)
  (_:GF K "mended_cells" eD)
  (_:GF K "write_due" eF)
  (_:GF K "is_name" bM)
  (_:GM K q4l "cell_of" "Store.cell_of" gA)
  (_:GM K q4l "ask_for_new_name" "Store.ask_for_new_name" gK)
  (_:GF K "free_record" fX)
  (_:GF K "free_name" fV)
  (_:GM K q4l "fill_cell" "Store.fill_cell" fP)
  (_:GM K q4l "record_of" "Store.record_of" gM)
  (_:GM K q4l "recount" "Store.recount" gC)
  (_:GM K q4l "empty_cell" "Store.empty_cell" gP)
  (_:GM K q4l "drop_record" "Store.drop_record" gG)
  (_:GF K "is_piece" cZ)
  (_:GF K "free_piece" fZ)
  (_:GM K q4l "regroup" "Store.regroup" gE)
  (_:GF K "mend" gI)
  (_:GN K q4l "Store" "Store.__init__" fE)
  (_:GM K q4l "link" "Store.link" gT)
  (_:GM K q4l "hold" "Store.hold" bO)
  (_:GM K q4l "places_of" "Store.places_of" hG)
  (_:GF K "row_for" eI)
  (_:GM K q4l "make" "Store.make" gR)
  (_:GF K "_law_text" dW)
  (_:GM K q4l "put" "Store.put" gY)
  (_:GM K q4l "take" "Store.take" g7)
  (_:GM K q4l "move" "Store.move" hZ)
  (_:GM K q4l "cut" "Store.cut" gW)
  (_:GM K q4l "names" "Store.names" f8)
  (_:GM K q4l "texts" "Store.texts" g9)
  (_:GF K "row_to_keep" iB)
  (_:GM K q4l "write" "Store.write" fG)
  (_:GF K "_law_deed" iD)
  (_:GF K "_law_cell_at" cF)
  (_:GF K "_law_layout" dY)
  (_:GF K "_law_names" dR)
  (_:GN K q4n "Layout" "Layout.__init__" bY)
  (_:GM K q4n "plank" "Layout.plank" eV)
  (_:GF K "_law_heeded" iJ)
  (_:GF K "_law_keep" iF)
  (_:GF K "come_up" hV)
  (_:GF K "_law_right" iH)
  (q3g:ci K (.ref q4m) "contents"=some none)
  (q3h:ci K (.ref q4m) "width"=some none)
  (q3i:ci K (.ref q4m) "written"=some none)
  (q3j:ci K (.ref q4k) "ground"=some none)
  (q3k:ci K (.ref q4k) "made"=some none)
  (q3l:ci K (.ref q4k) "made_in"=some none)
  (q3m:ci K (.ref q4k) "latest"=some none)
  (q3n:ci K (.ref q4k) "outs"=some none)
  (q3o:ci K (.ref q4j) "place"=some none)
  (q3p:ci K (.ref q4j) "value"=some none)
  (q3q:ci K (.ref q4j) "needs"=some none)
  (q3r:ci K (.ref q4n) "name_blocks"=some none)
  (q3s:ci K (.ref q4n) "record_blocks"=some none)
  (q3t:ci K (.ref q4n) "piece_blocks"=some none)
  (q3u:ci K (.ref q4n) "width"=some none)
  (q3v:ci K (.ref q4l) "plan"=some none)
  (q3w:ci K (.ref q4l) "book"=some none)
  (q3x:ci K (.ref q4l) "taken_out"=some none)
  (q3y:ci K (.ref q4i) "name_values"=some none)
  (q3z:ci K (.ref q4i) "record_values"=some none)
  (q40:ci K (.ref q4i) "piece_values"=some none)
  (q41:ci K (.ref q4i) "record_marks"=some none)
  (q42:ci K (.ref q4i) "piece_marks"=some none)
  (q43:ci K (.ref q4i) "leads"=some none)
  (q44:ci K (.ref q4i) "namings"=some none)
  (q45:ci K (.ref q4i) "reached"=some none)
  (q46:wf K (.ref q4e) (.ref q4a)=some true)
  (q47:wf K (.ref q4f) (.ref q4a)=some true)
  (q48:wf K (.ref q4g) (.ref q4a)=some true)
  (q49:wf K (.ref q4d) (.ref q4a)=some true) :
  ∃ fd:gg,(∀ (s:π) (v:Value),xf s fd {[v],[]} [("script",v)])/\∀ base:Heap,K.In base->base.Ns bw mg->FnOk P w K mg base (D1 P w) 12 fa fd ["script"] (iN K):=by
 obtain⟨a,rfl,rfl,rfl,rfl,rfl,rfl,rfl,rfl,rfl,rfl,rfl,rfl,rfl,rfl⟩:=zx7 q4a q4b q4c q4d q4e q4f q4g q4h q4i q4j q4k q4l q4m q4n
 have T:Txt K mg a:={q9.c,qa.c,qd.c,qc.c,qb.c,q8.c,iz X G q0.ac,{_,iz X G q0.ac,rfl},⟨q0.ex⟩,{_,iz X G qe,_,rfl},{_,iz X G qf,_,rfl},iz X G q1.ac,{_,iz X G q1.ac,rfl},⟨q1.ex⟩,iz X G q2.ac,{_,iz X G q2.ac,rfl},⟨q2.ex⟩,iz X G q4.ac,{_,iz X G q4.ac,rfl},⟨q4.ex⟩,iz X G q6.ac,{_,iz X G q6.ac,rfl},⟨q6.ex⟩,iz X G q3.ac,{_,iz X G q3.ac,rfl},⟨q3.ex⟩,iz X G q7.ac,{_,iz X G q7.ac,rfl},⟨q7.ex⟩,{_,iz X G qg,_,rfl},iz X G q5.ac,{_,iz X G q5.ac,rfl},⟨q5.ex⟩,ip X G qh,ip X G qi,ip X G qj,ip X G qk,ip X G ql,ip X G qm,ip X G qn,ip X G qo,ip X G qp,ip X G qq,ip X G qr,ip X G qs}
 have TPk:DL K a:=⟨T.Bv,q3g,q3h,q3i⟩
 have TBk:mT K (a "Hold") (a "Change"):=⟨T.Bp,q3j,q3k,q3l,q3m,q3n,T.zyi,q3o,q3p,q3q⟩
 have TLy:DU K a:=⟨T.Bq,q3r,q3s,q3t,q3u⟩
 have TSt:PZ K a:=⟨T.Bw,q3v,q3w,q3x⟩
 have TVw:TV K a:=⟨T.Bx,q3y,q3z,q40,q41,q42,q43,q44,q45⟩
 have THe:QW K a:={λc h=>by rcases h with rfl|rfl|rfl|rfl;exact q46;exact q47;exact q48;exact q49}
 obtain⟨fd,hb,F⟩:=qt.law X G hfa<|λz z z z z z z z=>.of_eq rfl;refine{fd,hb,λbase z z=>?_}
 injections zvk zvl zvm zvn zvo zvp zvq zvr zvs zvt zvu zvv zvw zvx zvy zvz zv0 zv1 zv2 zv3 zv4 zv5 zv6 zv7 zv8 zv9 zwa zwb zwc zwd
 injections zwe zwf zwg zwh zwi zwj zwk zwl zwm zwn zwo zwp zwq zwr zws zwt zwu zwv zww zwx zwy zwz zw0 zw1 zw2 zw3 zw4 zw5 zw6 zw7
 injections zw8 zw9 zxa zxb zxc zxd zxe zxf zxg zxh zxi zxj zxk zxl zxm zxn zxo zxp zxq zxr zxs zxt zxu zxv zxw zxx zxy zxz zx0 zx1
 injections zx2 zx3 zx4 zx5
 exact FnOk.imp (sp:=nR K a) (by apply zx6<;>assumption) (λvs H Q E ⟨s,ns,e,hs,hn,q⟩=>{s,ns,e,TVw,⟨TBk,TPk,TLy,TSt⟩,THe,hs,hn,q})
def walk{l:W.OpenLaw}{q:bu}{loose:List Str}{XP:(Str->Option Value)->Heap->Prop}{YP:World->Heap->Prop}{d:DefRec}{K:Params->ι}(hn:l.most=some 63)(hdf:d.params.defaults=[])
  (hY:∀ (w:World) (h:Heap),YP w h->(K w.params).In h)
  (F:∀ (w:World) (mg:Str->Option Value) (fa:Addr) (h:Heap),(K w.params).In h->h.Ns bw mg->mg d.name=some (.ref fa) ->
   ∃ fd:gg,(∀ (s:π) (u:Value),xf s fd {[u],[]} [("script",u)])/\∀ base:Heap,(K w.params).In base->base.Ns bw mg->FnOk l.prog w (K w.params) mg base (D1 l.prog w) 12 fa fd ["script"] (iN<|K w.params)) :
  W.WalkO q loose XP YP l.row.toRowW d [] (λf vs=>PySem.call f vs) :=
 L2.walk_of (n:=63) (k:=12) (x:="script") (CX:=λw=>D1 l.prog w) (sp:=λw=>iN<|K w.params) hn (by decide) hdf {rfl,by decide,by decide} hY F (λy y a ns hl y hS=>{a,ns,rfl,hS,hl,λy=>rfl}) λy y y y y z=>kK z
end L2
local macro_rules
 |`(command|example:=$s:str)=>do
  return Lean.mkNullNode (<-(s.getString.splitOn " "++(List.range 1011).map (s!"o_{·}")).toArray.mapM fun n=>`(command|theorem $(Lean.mkIdent (.mkSimple ("tw"++if n.front.isDigit then n else s!"{(`PySem.Challenge.cw_holdback_k62_whole_kept_behind_a_stop_holds++.mkSimple n:Lean.Name).hash}"))):ident:True:=⟨⟩))
namespace PySem.W.Fast
example:="4852533512898804251 sts_226 view_39 4258113660365484645 env_41 sts_101 tree_847 tree_160 sts_307 tree_85 tree_100 tree_689 tree_784 tree_1010 tree_145 sts_943 sts_850 sts_848 sts_116 sts_434 sts_484 tree_942 heap_39 sts_146 sts_347 tree_175 tree_524 sts_176 sts_71 tree_47 sts_161 tree_848 tree_346 tree_306 sts_785 tree_225 sts_131 tree_115 sts_771 tree_433 tree_70 sts_86 tree_130 tree_483 sts_49 heap_46 heap_1011 sts_525 tree_767"
end PySem.W.Fast
open PySem PySem.W PyProof.Rows
set_option Elab.async false
set_option tactic.hygienic true
set_option maxRecDepth 100000 in
set_option maxHeartbeats 0 in
theorem PySem.Challenge.cw_holdback_k62_whole_kept_behind_a_stop_holds : PySem.Challenge.rw_holdback_k62_whole_kept_behind_a_stop.Holds := by
 w_on;o_law;k_head;(case hw=>w_witness2)
 k_fill
 refine L2.walk (l:=PySem.Challenge.rw_holdback_k62_whole_kept_behind_a_stop) rfl rfl (λw h Y=>PySem.W.kIn_of Y) ?F
 case F =>
  intro w mg fa h KX G hmg;apply L2.all_mk KX G hmg<;>first|(apply L2.gc;(case a=>k_is);(case l=>k_is);(case c=>k_is);(case k=>k_is);(case i=>k_is))|(apply L2.GX.mk;(case ac=>k_is);(case ex=>k_exc))|(apply L2.gf;(case a=>k_is);(case l=>k_is);(case c=>k_is);(case k=>k_is))|(apply L2.gm;(case a=>k_is);(case l=>k_is);(case c=>k_is);(case k=>k_is);(case i=>k_is))|(apply L2.gn;(case a=>k_is);(case l=>k_is);(case c=>k_is);(case k=>k_is);(case i=>k_is);(case m=>k_is);(case n=>k_is);(case s=>k_is))|k_is|kts_exm
