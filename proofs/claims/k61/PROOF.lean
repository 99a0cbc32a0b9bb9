import PyProof.Rows.All
import Wide.All
import OpenK.AllK
import Wide.FinOn
import Lean
import PyProof.EqAt
import PyProof.EqKinds
import PyProof.TupleCall
import PyProof.SetScanFacts
import PyProof.Rows.SetFrom
import PyProof.Rows.SortWalk
import PyProof.CollectWalk
import PyProof.DictWalks
import KE.KDictList
import PySem.Challenge.RW_holdback_k61_a_row_to_keep
set_option linter.all false
set_option maxRecDepth 100000
set_option maxHeartbeats 8000000
set_option tactic.hygienic false
set_option compiler.extract_closed false
open PySem PySem.Spec PyProof.Rows
local macro_rules|`({$xs:term,*})=>`(⟨$xs,*⟩)
open _root_.Array renaming length_toList->cy,getElem?_eq_getElem->dr,getElem?_eq_some_iff->ie,getElem?_toList->jw,find?_toList->wf,all_toList->yf,getElem?_eq_none->yr,append_assoc->Ce,size_append->En,toList_push->Ff,isEmpty_iff->Fu,all_append->Io,toList->Nf
open _root_.Bool renaming false_ne_true->ax,and_eq_true->cb,or_eq_false_iff->h_,eq_iff_iff->jf,or_assoc->kj,true_or->n_,or_false->pq,or_eq_true->vm,false_eq_true->wq,not_eq_true'->xj,false_or->xu,and_false->Af,eq_false_iff->Eo,not_eq_true->Ig,true_and->Me
open _root_.False renaming elim->jq
open _root_.ForInStep renaming yield->je
open _root_.Function renaming comp_def->Ga
open _root_.Iff renaming rfl->Ju
open _root_.Int renaming toNat_natCast->b_,ofNat_lt->dn,toNat_of_nonneg->gr,natCast_mul->jz,natCast_nonneg->lh,zero_add->l8,emod_lt_of_pos->rj,emod_nonneg->ve,ofNat_le->vx,lt_succ->Ar,natCast_ediv->Ik,natCast_emod->Il,natCast_add->Ji,not_lt->La,le_of_lt->No
open _root_.Int.ofNat renaming inj->cg
open _root_.List renaming getElem?_eq_some_iff->ε,length_map->ζ,getElem?_eq_getElem->η,mem_of_getElem?->θ,range->ν,mem_cons_of_mem->ρ,getElem?_map->τ,mem_cons_self->χ,mem_singleton->ae,length_append->af,map_append->ai,mem_cons->aj,mem_range->ak,lookup_cons->ao,mem_map->av,size_toArray->az,mem_append->a_,getElem?_append_left->ba,replicate->bc,getElem?_eq_none->bt,range_succ->bu,not_mem_nil->bx,take_length->bz,length_take->ce,getElem?_append_right->cf,take_add_one->ci,mem_append_right->ck,length_filter_le->cr,length_range->cw,length_cons->de,map_cons->dg,mem_filter->dh,any_eq_true->dq,getElem?_set_self->dv,append_assoc->dw,take_of_length_le->dz,length_eq_zero_iff->ff,getElem?_set_ne->fh,length_filterMap_le->fu,foldl_cons->gb,length_reverse->gu,lookup->gx,nodup_cons->gz,flatten_cons->ic,pairwise_lt_range->ig,getElem_of_mem->ik,append_nil->il,drop_eq_getElem_cons->io,length_singleton->ir,take_append_drop->iu,mem_filterMap->ix,mem_append_left->i_,length_set->jd,filterMap_cons->jh,length_drop->jn,all_eq_true->jo,nodup_nil->jr,find?_eq_none->jv,foldl_append->ke,take_append_getElem->ki,eraseIdx_eq_take_drop_succ->ko,replicate_succ->ku,find?_eq_some_iff_append->lb,pairwise_cons->lx,filter_append->l_,length_nil->mj,cons_lt_cons_iff->mw,nodup_append->mz,reverse_cons->na,length->nj,Perm->oa,getElem_mem->og,map_map->oq,pairwise_iff_getElem->o_,mem_or_eq_of_mem_set->pd,any_cons->pr,eq_of_mem_replicate->py,nil_append->qy,countP_append->sv,findIdx?_eq_some_iff_getElem->tf,filter_congr->ud,append_eq_nil_iff->uf,length_replicate->ug,cons_append->um,mem_flatMap->uu,all_cons->uy,reverse_reverse->vb,mem_of_mem_take->vc,countP_pos_iff->vo,getElem?_range->vp,getD_eq_getElem?_getD->wj,length_eraseIdx_of_lt->wk,range_add->wt,mem_of_find?_eq_some->wy,getElem?_eq_none_iff->wz,any_eq_false->w_,ext_getElem?->xo,getElem?_replicate->x_,countP_cons->ye,foldl->yn,range_succ_eq_map->yp,map_nil->yq,filter_eq_nil_iff->yw,of_mem_zip->yy,forIn_cons->yz,find?_cons->y_,filter_map->zd,getElem?_toArray->zg,filterMap_append->zh,pairwise_append->zx,nodup_iff_count->Ai,map->Ao,drop_left->As,map_eq_nil_iff->Bf,flatten_append->Bi,map_take->Bt,map_drop->Bu,map_replicate->Cn,getElem?_drop->Cr,filter_filter->Cs,count_pos_iff->Cu,filterMap_nil->C_,take_sublist->Do,all_map->Es,getElem_take->E_,getElem?_set->FJ,countP_congr->F_,getElem_inj->Ge,perm_middle->Hr,range'_succ->Ic,mem_reverse->Ii,countP_nil->Ja,any_append->Je,find?_some->Jf,drop_zero->Lr,take_left->Ls,range'->Oa
open _root_.List.Nodup renaming length_le_of_subset->ut
open _root_.List.Pairwise renaming nil->Ee
open _root_.Nat renaming le_refl->υ,lt_of_lt_of_le->ψ,le_trans->ω,ne_of_lt->bd,le_of_eq->bh,zero_le->bv,le_of_not_lt->cj,lt_of_le_of_lt->cm,le_succ_of_le->cu,mul_comm->da,add_mul->di,add_assoc->d_,lt_or_ge->eq,le_of_lt_succ->fg,lt_succ_self->fj,mul_le_mul->gy,exists_eq_add_of_le->ia,le_of_ble_eq_true->ip,ne_of_gt->iz,lt_irrefl->jk,le_succ->jm,not_lt_zero->jx,le_antisymm->j_,div_lt_of_lt_mul->kf,reduceEqDiff->kz,le_of_lt->li,lt_of_le_of_ne->lw,eq_zero_or_pos->ma,zero_add->me,mul_add_mod->mn,mul_add_div->mo,lt_succ_of_lt->my,succ_lt_succ->oy,min_eq_left->rf,div_add_mod->rg,mod_lt->sr,pos_of_ne_zero->ss,succ_mul->t9,add_comm->t_,add_le_add->ue,div_lt_iff_lt_mul->ui,mul_le_mul_right->vd,sub_self->vy,zero_mul->vz,lt_succ_of_le->xa,reduceAdd->xy,le_add_right->yb,lt_trans->yo,le_of_succ_le_succ->yv,ble->De,succ_le_succ->Ht,min_eq_right->Ie,div_add_mod'->Ij,min_le_right->Im
open _root_.Nat.succ renaming inj->Nr
open _root_.Ne renaming symm->eh
open _root_.Option renaming map_eq_some_iff->aa,isSome_iff_exists->cz,map_some->mf,isSome_map->ua,isNone_iff_eq_none->wx,none->xi,bind_eq_some_iff->yc,map_map->zy,filter->Bs,getD_none->Gu,bind_some->Ih,any_some->Jo
open _root_.Option.some renaming inj->μ,injEq->xl
open _root_.Or renaming inr->zt,inl->Hi
open _root_.PyProof.Rows renaming slot_tuple_getitem->jg,callWith_type1->ji,IntsAre->qz,AllBare->tm,size_push'->uq,step_dedup->wm,firstMet->wn,firstMet_length_le->wo,envOfC->xp,subscriptTail_builtinR->yl,Subscript_->Kt
open _root_.PyProof.Rows.F renaming entry_set_update_loop->ph,plain_set_update_loop->Be
open _root_.PyProof.Rows.IntsAre renaming length->Aa
open _root_.PyProof.Rows.IsTup renaming new->Mt
open _root_.PySem renaming wpAny_bind->δ,Shared->ξ,wpAny_pure->π,starEach->ay,mainGlobals->bq,Program->bw,Around->dk,compareOp->du,wpAny_callSpecial?_slot->fe,wpAny_holding->fm,wpAny_call_entry->fq,wpAny_newObj_type->fz,FuncData->gq,binaryOp->iq,sysModules->iw,tupleKind_room_in1->iy,backTo->ja,wpAny_field->jb,wpAny_truthy_bool->jc,wpAny_setField_rec->ju,wpAny_passesOwn->jy,wpAny_setState_of->ka,wpAny_attempt->kh,intKind->kq,wpAny_setEntries_of->kx,wpAny_askSetting->ky,keywordEach->k_,wpAny_mono->lj,codeAny_mono->lm,rawInt->lu,codeAny_builtin->mh,behindInMarks->mq,foldedSetIterable->mx,wpAny_dictEntries->m_,tupleKind->nw,bootBuiltins->nz,wpAny_isInstance->om,wpAny_execs_nil->p_,wpAny_ite_false->q_,wpAny_Call_Name_kw->r_,call_meets->si,wpAny_rule->sj,sizeLine_eq->sx,sliceBounds->s_,holding->tq,wpAny_setField->ub,getMethod->ul,codeAny->uw,attributeBase->ux,ExceptHandler->uz,backToKw->u_,wpAny_specialOf->vh,PyData->vk,call_meetsIn->vq,Builtin->vt,swapsWith->v_,scanBound->wa,entryOfKey->wb,assignEach->we,wpAny_fieldsOf->wp,wpAny_binaryOp_repeat_ref->wv,BindsTo->xg,storedH->xh,wpAny_pyIter_list->xk,fits_of_scanBound->xm,wpAny_comprehension_free->xr,plainId_quiet->xv,NameKind->xz,noFill_tuple_add->ya,standAt->yg,wpAny_call->yi,getItem->yj,wpAny_typeOf->yk,typeIs_int->ym,letOwnedTupleGo->yx,wpAny_updateSeq->zb,wpAny_isTrue_Compare1->ze,codeAny_handlers_test->zf,pyNext->zi,wpAny_loadPart->zk,callWith->zn,IsPart->zp,subscripted->zq,codeAny_call_builtin->zu,wpAny_seqItems->zw,isSubtype_stop->z_,wpAny_pyIter_revIter->Ae,Keyword->At,ElemsOf->Au,wpAny_handleBy_cons->Ba,wpAny_standAt->Bn,seq_tuple_add->Br,GenState->Df,wpAny_assign_Name->Di,concat_meets->Dr,seqIndex_neg->Ds,slot_list_getitem->Dt,valueAt->D_,wpAny_Call_method->Ea,relayAll->Fa,wpAny_storeSet_of->Fi,setNext->Fn,wpAny_pyIter_slot->Fo,wpAny_setEpoch_of->Fs,wpAny_pyIter_enum->Ft,wpAny_execs_cons->Gf,pyIter->Gi,wpAny_Dict_empty->Hf,setFlight->Hn,checkBuiltinCall->Ho,wpAny_forIn_list->H_,seqIndex_of->Ir,wpAny_point->Iv,wpAny_of_eq->Iw,callerA->Jt,builtinsNs->Ka,wpAny_Name->Ke,typeLookup->Ks,typeIs_str->Ku,isInstance->Le,intKind_is->Ln,PassesOwn->Mi,cellsFrom->Ms,noteFrame->Mu,pickOrder->M_,isTrue->Na,assign->Ni,setItem->Nn
open _root_.PySem.AutoSeq1 renaming wpAny_loadPart'->xx
open _root_.PySem.Builtin.Dict renaming mergeDict->yu
open _root_.PySem.Builtin.Frozenset renaming updateFrom->I_
open _root_.PySem.Builtin.List renaming listTooLong->kg,listSameRef->xw
open _root_.PySem.Builtin.Range renaming rangeSize->Mn
open _root_.PySem.Builtin.Slice renaming slicePlaces->oz,sliceAdjust->wu,slicePartIndex->Iy,sliceApplied->Ko
open _root_.PySem.Builtin.SmallTypes renaming nextOf->ww
open _root_.PySem.Builtin.Tuple renaming tupleItemsOf->Kr,tupleTooMany->K_,tupleHashOf->Lu
open _root_.PySem.Calls renaming evalArgs_plain->nq,spliced_cons->rq,callWith_builtin->tz,Name_function_global->wc,spliced_nil->xf
open _root_.PySem.CmpOp renaming NotIn->Nu
open _root_.PySem.DictEntry renaming refKey->Gn
open _root_.PySem.F renaming slot_enumerate_next->mv,slot_tuple_mul->uo,slot_int_rmul->vg,slot_tuple_iterator_next->wg,args_enumerate_next_1->yd,entry_enumerate_next->yt,args_list_append_2->zr,entry_list_append->A_,slot_list_append->Ci,args_tuple_mul_2->Co,args_int_rmul_2->Du,slot_tuple_rmul->Ef,entry_tuple_mul->Ei,slot_int_index->Ha,entry_int_rmul->He,fills_int_mul->Iz
open _root_.PySem.Heap renaming get?_push_of_some->ο,lt_size->au,get?_push_size->aw,get?_update_other->c_,get?_update_self->df,SameBut->gj,ExtBut->nr,size_push->zm
open _root_.PySem.Heap.IsSliceOf renaming new->Ob
open _root_.PySem.Heap.SameBut renaming update->e_,refl->xn
open _root_.PySem.NameKind renaming free->gg,cell->gi
open _root_.PySem.Obj renaming data_mapFields->js,mapSeq->lq,data_mapDictKeys->nv,dropNameByArray->pe,isFreed_of_fields->uh,dropName_eq->vj,isFreed_of_dict->vn,mapFields->xt,data_mapDict->Hu,putSet->Lo
open _root_.PySem.PyData renaming strOk->gk,eqv->g_,eqvAll->pz,canLayAll0->uc,depthAll->za,int->Ct,depth->Er
open _root_.PySem.SeqAt renaming in_tupleAt->G_,EqAt->Oc
open _root_.PySem.SeqAt.EqAt renaming int_str->B_,str_int->Ca
open _root_.PySem.SetTable renaming below->jt,grown->nu,Probe->Li,slot->Ma
open _root_.PySem.SetTable.below renaming go->Et
open _root_.PySem.SetTable.probe renaming go->Eu
open _root_.PySem.Str renaming ofString->bg,length->Cf,empty->Mr
open _root_.PySem.Value renaming ref->fk,none->jp,type->ni,isInt_shape->tj,int->uj,isInt->Ip,bool->J_,isStrOf->L_,str->Mf,isStr->N_
open _root_.PySem.W renaming Frag->ι,findIn->ca,mg_none_of->f_,mg_of->ii,nsIn->jj,keepIn->pi,instObj->uk,exmOne->va,emptyDict->xb,specialIn->xc,fnOf->xq,plainGet->yh,hasDictIn->zj,looks_findIn->zl,codeIn->zo,kitOne->zv,plainGet_of->Bo,callWith_K->Dn,makesIn->Go,takesIn->Gr,cellsFrom_some->Gs,plainOver->Iq,methodCall_KW->Ix,mroIn->Js,lookIn->Kf,InstAt->Ki,isFn->Kn,kitAny->Lf,takerIn->Mo
open _root_.PySem.Walks renaming list->Od
open _root_.PySem.pickOrder renaming go->Fe
open _root_.Std.Legacy.Range renaming forIn_eq_forIn_range'->An
open _root_.Sum renaming inl->uv,inr->Jr
open _root_.Sum.inr renaming inj->Nt
open _root_.True renaming intro->rn
namespace L2
def md(y:Int)(k:Nat)(h:0<k):∃ n:Nat,1+y%(k:Int)=n/\1<=n/\n<=k:=by
 obtain⟨b,e⟩:=Int.eq_ofNat_of_zero_le (ve y (show(k:Int)≠0 by omega))
 have:=rj y (show 0<(k:Int) by omega);exact{1+b,by omega,by omega,by omega}
section
variable{a b c k:Nat}{z:Int}
def c3(h:a<3):a=0\/a=1\/a=2:=by omega
def c5(h:a<5):a=0\/a=1\/a=2\/a=3\/a=4:=by omega
def cq{n i:Nat}(h:i<n):n-(i+1)<n-i:=Nat.sub_lt_sub_left h<|fj i
def oA(h:a<=b)(d:De b c=true):a<=c:=ω h<|ip d
def oB(h:a<b)(d:De b (c+1)=true):a<=c:=fg<|ψ h<|ip d
def oC(h:a<=b)(d:De (b+1) c=true):a<c:=cm h<|ip d
def oD(h:a<b)(d:De b c=true):a<c:=ψ h<|ip d
def oG(h:a<=b)(d:De (b+k+1) c=true):a+k<c:=cm (Nat.add_le_add_right h k) (ip d)
def oH(h:a<b)(d:De (b+k) c=true):a+k<c:=ψ (Nat.add_lt_add_right h k) (ip d)
def iM(d:decide (z<=0)=true):z<=(a:Int):=Int.le_trans (of_decide_eq_true d) (lh a)
def i0:(0:Int)<=(a:Int):=lh a
def nE{P:Prop}(d:Nat.beq a b=false):¬(a=b/\P):=λh=>by rw[h.1,Nat.beq_refl]at d;cases d
def nL{α :Prop}(h:a<b)(g:b<=a): α :=absurd h<|Nat.not_lt.mpr g
def nZ{α :Prop}(h:a<0): α :=absurd h<|jx a
end
def x2{p:A->B->Prop}(a b)(h:p a b):∃ a b,p a b:=⟨_,_,h⟩
def x3{p:A->B->C->Prop}(a b c)(h:p a b c):∃ a b c,p a b c:=⟨_,_,_,h⟩
def x4{p:A->B->C->D->Prop}(a b c d)(h:p a b c d):∃ a b c d,p a b c d:=⟨_,_,_,_,h⟩
def x5{p:A->B->C->D->F->Prop}(a b c d e)(h:p a b c d e):∃ a b c d e,p a b c d e:=⟨_,_,_,_,_,h⟩
def x6{p:A->B->C->D->F->G->Prop}(a b c d e f)(h:p a b c d e f):∃ a b c d e f,p a b c d e f:=⟨_,_,_,_,_,_,h⟩
def x7{p:A->B->C->D->F->G->I->Prop}(a b c d e f g)(h:p a b c d e f g):∃ a b c d e f g,p a b c d e f g:=⟨_,_,_,_,_,_,_,h⟩
def x8{p:A->B->C->D->F->G->I->J->Prop}(a b c d e f g i)(h:p a b c d e f g i):∃ a b c d e f g i,p a b c d e f g i:=⟨_,_,_,_,_,_,_,_,h⟩
def x9{p:A->B->C->D->F->G->I->J->L->Prop}(a b c d e f g i j)(h:p a b c d e f g i j):∃ a b c d e f g i j,p a b c d e f g i j:=⟨_,_,_,_,_,_,_,_,_,h⟩
def U7{p:A->B->C->D->F->G->I->J->L->M->Prop}(a b c d e f g i j l)(h:p a b c d e f g i j l):∃ a b c d e f g i j l,p a b c d e f g i j l:=⟨_,_,_,_,_,_,_,_,_,_,h⟩
def OM{p:A->B->C->D->F->G->I->J->L->M->N->Prop}(a b c d e f g i j l m)(h:p a b c d e f g i j l m):∃ a b c d e f g i j l m,p a b c d e f g i j l m:=⟨_,_,_,_,_,_,_,_,_,_,_,h⟩
def ON{p:A->B->C->D->F->G->I->J->L->M->N->O->Prop}(a b c d e f g i j l m n)(h:p a b c d e f g i j l m n):∃ a b c d e f g i j l m n,p a b c d e f g i j l m n:=⟨_,_,_,_,_,_,_,_,_,_,_,_,h⟩
def Jl{p:A->B->C->D->F->G->I->J->L->M->N->O->P->R->Prop}(a b c d e f g i j l m n o q)(h:p a b c d e f g i j l m n o q):∃ a b c d e f g i j l m n o q,p a b c d e f g i j l m n o q:=⟨_,_,_,_,_,_,_,_,_,_,_,_,_,_,h⟩
def y2{p:A->B->Prop}(h:p a b):∃ a b,p a b:=⟨_,_,h⟩
def y3{p:A->B->C->Prop}(h:p a b c):∃ a b c,p a b c:=⟨_,_,_,h⟩
def y4{p:A->B->C->D->Prop}(h:p a b c d):∃ a b c d,p a b c d:=⟨_,_,_,_,h⟩
def y5{p:A->B->C->D->F->Prop}(h:p a b c d e):∃ a b c d e,p a b c d e:=⟨_,_,_,_,_,h⟩
def u2{p:A->B->Prop}{z:Prop}(k:∀ a b,p a b->z):(∃ a b,p a b)->z:=λh=>by obtain⟨y,y,h⟩:=h;exact k _ _ h
def u3{p:A->B->C->Prop}{z:Prop}(k:∀ a b c,p a b c->z):(∃ a b c,p a b c)->z:=λh=>by obtain⟨y,y,y,h⟩:=h;exact k _ _ _ h
def u4{p:A->B->C->D->Prop}{z:Prop}(k:∀ a b c d,p a b c d->z):(∃ a b c d,p a b c d)->z:=λh=>by obtain⟨y,y,y,y,h⟩:=h;exact k _ _ _ _ h
def u5{p:A->B->C->D->F->Prop}{z:Prop}(k:∀ a b c d e,p a b c d e->z):(∃ a b c d e,p a b c d e)->z:=λh=>by obtain⟨y,y,y,y,y,h⟩:=h;exact k _ _ _ _ _ h
def u6{p:A->B->C->D->F->G->Prop}{z:Prop}(k:∀ a b c d e f,p a b c d e f->z):(∃ a b c d e f,p a b c d e f)->z:=λh=>by obtain⟨y,y,y,y,y,y,h⟩:=h;exact k _ _ _ _ _ _ h
def u7{p:A->B->C->D->F->G->I->Prop}{z:Prop}(k:∀ a b c d e f g,p a b c d e f g->z):(∃ a b c d e f g,p a b c d e f g)->z:=λh=>by obtain⟨y,y,y,y,y,y,y,h⟩:=h;exact k _ _ _ _ _ _ _ h
def u8{p:A->B->C->D->F->G->I->J->Prop}{z:Prop}(k:∀ a b c d e f g i,p a b c d e f g i->z):(∃ a b c d e f g i,p a b c d e f g i)->z:=λh=>by obtain⟨y,y,y,y,y,y,y,y,h⟩:=h;exact k _ _ _ _ _ _ _ _ h
def u9{p:A->B->C->D->F->G->I->J->L->Prop}{z:Prop}(k:∀ a b c d e f g i j,p a b c d e f g i j->z):(∃ a b c d e f g i j,p a b c d e f g i j)->z:=λh=>by obtain⟨y,y,y,y,y,y,y,y,y,h⟩:=h;exact k _ _ _ _ _ _ _ _ _ h
def RL{p:A->B->C->D->F->G->I->J->L->M->Prop}{z:Prop}(k:∀ a b c d e f g i j l,p a b c d e f g i j l->z):(∃ a b c d e f g i j l,p a b c d e f g i j l)->z:=λh=>by obtain⟨y,y,y,y,y,y,y,y,y,y,h⟩:=h;exact k _ _ _ _ _ _ _ _ _ _ h
def U8{p:A->B->C->D->F->G->I->J->L->M->N->Prop}{z:Prop}(k:∀ a b c d e f g i j l m,p a b c d e f g i j l m->z):(∃ a b c d e f g i j l m,p a b c d e f g i j l m)->z:=λh=>by obtain⟨y,y,y,y,y,y,y,y,y,y,y,h⟩:=h;exact k _ _ _ _ _ _ _ _ _ _ _ h
def OO{p:A->B->C->D->F->G->I->J->L->M->N->O->Prop}{z:Prop}(k:∀ a b c d e f g i j l m n,p a b c d e f g i j l m n->z):(∃ a b c d e f g i j l m n,p a b c d e f g i j l m n)->z:=λh=>by obtain⟨y,y,y,y,y,y,y,y,y,y,y,y,h⟩:=h;exact k _ _ _ _ _ _ _ _ _ _ _ _ h
def Jm{p:A->B->C->D->F->G->I->J->L->M->N->O->P->R->Prop}{z:Prop}(k:∀ a b c d e f g i j l m n o q,p a b c d e f g i j l m n o q->z):(∃ a b c d e f g i j l m n o q,p a b c d e f g i j l m n o q)->z:=λh=>by obtain⟨y,y,y,y,y,y,y,y,y,y,y,y,y,y,h⟩:=h;exact k _ _ _ _ _ _ _ _ _ _ _ _ _ _ h
end L2
set_option Elab.async false
namespace L2
abbrev AO:=Sum Int Str
def M5:AO->Value->Bool
 |.inl k,v=>Ip k v
 |.inr x,v=>L_ x v
def Jp(w:World):AO->Int
 |.inl k=>hashInt k
 |.inr x=>hashStr w x
def JR:∀ {k:AO} {v:Value},M5 k v=true->(∃ i t,k=uv i/\v=uj i t)\/(∃ x t,k=Jr x/\v=Mf x t)
 |.inl i,v,h=>by
  obtain⟨t,e⟩:=tj   h;exact .inl<|x2 i t ⟨rfl,e⟩
 |.inr x,v,h=>by
  obtain⟨t,e⟩:=Value.isStrOf_shape   h;exact .inr<|x2 x t ⟨rfl,e⟩
def Jq(i:Int)(t:Tok):M5 (.inl i) (.int i t)=true:=by simp[M5,Ip]
def Jv(x:Str)(t:Tok):M5 (.inr x) (.str x t)=true:=by simp[M5,L_]
def Jw(a b:Int):decide ((uv a:AO)=uv b)=(a==b):=by
 by_cases e:a=b;subst e;simp;rw[decide_eq_false (λq=>e<|Sum.inl.inj q)];exact(beq_eq_false_iff_ne.mpr e).symm
def Jx(a b:Str):decide ((Jr a:AO)=Jr b)=decide (a=b):=by
 by_cases e:a=b;simp;rw[decide_eq_false (λq=>e<|Nt q),decide_eq_false e]
def Jy(a:Int)(b:Str):decide ((uv a:AO)=Jr b)=false:=decide_eq_false (λq=>nomatch q)
def Jz(a:Str)(b:Int):decide ((Jr a:AO)=uv b)=false:=decide_eq_false (λq=>nomatch q)
def EH(prog:bw)(w:World):PySem.KeyKind prog w AO where
 is:=M5
 hash:=Jp w
 inj:=λv a b ha hb=>by
  rcases JR ha with⟨i,t,rfl,rfl⟩|⟨x,t,rfl,rfl⟩
  ·rcases JR hb with⟨j,u,rfl,e⟩|⟨y,u,rfl,e⟩
   ·injection e with e1 _;rw[e1]
   ·exact nomatch e
  ·rcases JR hb with⟨j,u,rfl,e⟩|⟨y,u,rfl,e⟩
   ·exact nomatch e
   ·injection e with e1 _;rw[e1]
 byValue:=λk v h=>by
  rcases JR h with⟨i,t,rfl,rfl⟩|⟨x,t,rfl,rfl⟩<;>rfl
 pyHash:=λhv h=>by
  rcases JR hv with⟨i,t,rfl,rfl⟩|⟨x,t,rfl,rfl⟩
  ·exact wpAny_pyHash_int h
  ·exact wpAny_pyHash_str h
 eqBool:=λhu hv h=>by
  rcases JR hu with⟨i,t,rfl,rfl⟩|⟨x,t,rfl,rfl⟩
  ·rcases JR hv with⟨j,u,rfl,rfl⟩|⟨y,u,rfl,rfl⟩
   ·rw[Jw]at h;exact wpAny_eqBool_int h
   ·rw[Jy]at h;exact B_ i t y u _ _ _ _ h
  ·rcases JR hv with⟨j,u,rfl,rfl⟩|⟨y,u,rfl,rfl⟩
   ·rw[Jz]at h;exact Ca x t j u _ _ _ _ h
   ·rw[Jx]at h;exact wpAny_eqBool_str h
 «strs» :=λk x t v h=>by
  rcases JR h with⟨i,u,rfl,e⟩|⟨y,u,rfl,e⟩
  ·exact nomatch e
  ·injection e with e1 _
   subst e1;cases v<;>rfl
def Kb(prog:bw)(w:World)(i:Int)(t:Tok):(EH prog w).is (.inl i) (.int i t)=true:=Jq i t
def Kc(prog:bw)(w:World)(x:Str)(t:Tok):(EH prog w).is (.inr x) (.str x t)=true:=Jv x t
inductive V where
 |non|bl (b:Bool)|int (i:Int)|str (x:Str)|byt (b:Array UInt8)|flt (b:UInt64)|ref (a:Addr)|ty (n:String)
 deriving DecidableEq
def RelV:V->Value->Prop
 |.non,u=>u=jp
 |.bl b,u=>u=J_ b
 |.int i,u=>∃ t,u=uj i t
 |.str x,u=>∃ t,u=Mf x t
 |.byt b,u=>∃ t,u=Value.bytes b t
 |.flt b,u=>∃ t,u=Value.float b t
 |.ref a,u=>u=fk a
 |.ty n,u=>u=ni n
abbrev _root_.Oq:=List V
abbrev _root_.sV:=List Value
abbrev Vals:Oq->sV->Prop:=Paired RelV
def Vals.length{xs:Oq}{us:sV}(r:Vals xs us):xs.length=us.length:=Paired.length r
theorem Vals.get:∀ {xs:Oq} {us:sV} {i:Nat} {x:V},Vals xs us->xs[i]? =some x->∃ u,us[i]? =some u/\RelV x u
 |_,_,_,_,.nil,e=>by simp at e
 |_,_,0,_,.cons r _,e=>by simp at e;subst e;exact⟨_,rfl,r⟩
 |_,_,i+1,x,.cons _ t,e=>by
  obtain⟨u,h1,h2⟩:=Vals.get   t (e);exact⟨u,h1,h2⟩
theorem Vals.set{x:V}{u:Value}(r:RelV x u):∀ {xs:Oq} {us:sV} (i:Nat),Vals xs us->Vals (xs.set i x) (us.set i u)
 |_,_,_,.nil=>.nil
 |_,_,0,.cons _ t=>.cons r t
 |_,_,i+1,.cons q t=>.cons q<|Vals.set r i t
theorem Vals.append:∀ {xs ys:Oq} {us ws:sV},Vals xs us->Vals ys ws->Vals (xs++ys) (us++ws)
 |_,_,_,_,.nil,s=>s
 |_,_,_,_,.cons r t,s=>.cons r<|Vals.append t s
theorem Vals.take:∀ {xs:Oq} {us:sV} (n:Nat),Vals xs us->Vals (xs.take n) (us.take n)
 |_,_,0,_=>.nil
 |_,_,_+1,.nil=>.nil
 |_,_,n+1,.cons r t=>.cons r<|Vals.take n t
theorem Vals.drop:∀ {xs:Oq} {us:sV} (n:Nat),Vals xs us->Vals (xs.drop n) (us.drop n)
 |_,_,0,r=>r
 |_,_,_+1,.nil=>.nil
 |_,_,n+1,.cons _ t=>Vals.drop n t
def RelO:Option V->Option Value->Prop
 |some v,some u=>RelV v u
 |none,none=>True
 |_,_=>False
def KV{κ :Type}:List (κ × V)->List (κ × Value)->Prop:=Paired λ(p: κ × V) (q: κ × Value)=>p.1=q.1/\RelV p.2 q.2
def kV:AO->V
 |.inl i=>.int i
 |.inr x=>.str x
abbrev _root_.tS:=List (AO × V)
abbrev _root_.aH:=List (List AO × V)
abbrev _root_.qW:=Int->Bool
abbrev _root_.ZP:=List (Str × V)
inductive HO where
 /-- a list -/
 |lst (xs:Oq)
 /-- a tuple (never changes) -/
 |tup (xs:Oq)
 /-- a dict whose keys are ints and texts;one whose keys are tuples of ints and texts (the empty one is both) -/
 |dK (kvs:tS)|dT (kvs:aH)
 /-- a set of ints: AJ members,AJ size -/
 |set (S:qW) (n:Nat)
 /-- an instance of the class at C,AJ dict at dx,AJ attributes -/
 |ins (C dx:Addr) (fs:ZP)
 /-- the dict of the instance at x -/
 |own (x:Addr)
 /-- the dict of an exception -/
 |xd (fs:ZP)
 /-- a bound method,f of x -/
 |met (f x:Addr)
 /-- a range object lo,lo+1,.. below hi -/
 |rng (lo hi:Int)
 /-- a thing that is known to the object (the script;a dict while a loop walks it): read,never written while it is so -/
 |frz (o:Obj) (u:HO)
 /-- a code object's table -/
 |tbl (ps:Array Value)
 /-- any other thing,by what is true of AJ one object (a def of one's own: SetO a S n:=HO.ext λh=>..) -/
 |ext (φ :Heap->Prop)
abbrev Hp:=Addr->Option HO
def upd(H:Hp)(a:Addr)(o:HO):Hp:=λb=>if b=a then some o else H b
def AF{H:Hp}{a:Addr}{o:HO}:upd H a o a=some o:=by unfold upd;rw[if_pos rfl]
def AI{H:Hp}{a b:Addr}{o:HO}(h:b≠a):upd H a o b=H b:=by unfold upd;rw[if_neg h]
def GA:upd (upd H a o) a u=upd H a u:=by
 funext b;unfold upd;split<;>rfl
def BH{H:Hp}{a b:Addr}{o u:HO}(h:H a=some o)(h':H b=some u)(d:o≠u):a≠b:=by
 rintro rfl;rw[h]at h';exact d<|μ h'
def BI{H:Hp}{a b:Addr}{o:HO}(h:H a=some o)(h':H b=none):a≠b:=by
 rintro rfl;rw[h]at h';cases h'
section
variable(P:bw)(w:World)
abbrev _root_.tE:=List (List AO × Addr × Value)
def ObjOk(H:Hp)(h:Heap)(a:Addr):HO->Prop
 |.lst xs=>xs.length<=sizeLine/\∃ (AJ:sV) (n:Nat),Vals xs AJ/\h.get? a=some { cls:=.type "list",data:=.seq AJ.toArray n }
 |.tup xs=>xs.length<=sizeLine/\∃ AJ:sV,Vals xs AJ/\IsTup h a AJ.toArray
 |.dK kvs=>kvs.length<=sizeLine/\(a==iw)=false/\∃ vs,KV kvs vs/\h.DictOf (EH P w) a vs
 |.dT kvs=>kvs.length<=sizeLine/\(a==iw)=false/\∃ xs:tE,
   Paired (λ(p:List AO × V) (q:List AO × Addr × Value)=>p.1=q.1/\H q.2.1=some (.tup<|p.1.map kV)/\RelV p.2 q.2.2) kvs xs /\
   ∃ o es ep,h.get? a=some o/\o.ExactDict/\o.data=.dict es ep/\es.toList=xs.map (wb<|nw<|EH P w)/\(xs.map (·.1)).Nodup
 |.set S n=>h.SetOf (kq P w) a S n
 |.ins C dx fs=>H dx=some (.own a)/\fs.length<=1000/\dx≠a/\h.get? a=some (uk C dx) /\
   ∃ mA,h.Ns1 dx mA/\(∀ f,RelO (fs.lookup f) (mA f))/\PySem.Within mA (fs.map (·.1))
 |.own _=>∃ o,h.get? a=some o
 |.xd fs=>∃ mA,h.Ns1 a mA/\∀ f,RelO (fs.lookup f) (mA f)
 |.rng lo hi=>∃ t u v,h.get? a=some { cls:=.type "range",data:=.fields #[.int lo t,.int hi u,.int 1 v] }
 |.frz o u=>h.get? a=some o/\ObjOk H h a u
 |.tbl ps=>h.get? a=some { cls:=.none,data:=.fields ps }
 |.met f x=>h.get? a=some (W.methodObj (.ref f) (.ref x))
 |.ext φ => φ h/\(∃ o,h.get? a=some o)/\∀ h1 h2:Heap,φ h1->(∀ o,h1.get? a=some o->h2.get? a=some o)-> φ h2
def HOk(H:Hp)(h:Heap):Prop:=∀ a o,H a=some o->ObjOk P w H h a o
end
section
variable{P:bw}{w:World}{H H':Hp}{h h':Heap}{a:Addr}{o:HO}
theorem ObjOk.lt(x:ObjOk P w H h a o):a<h.objs.size:=by
 cases o with
 |lst xs=>obtain⟨z,z,z,z,e⟩:=x;exact au e
 |tup xs=>obtain⟨z,z,z,p⟩:=x;exact p.lt
 |dK kvs=>obtain⟨z,z,z,z,o,z,z,e,z⟩:=x;exact au e
 |dT kvs=>obtain⟨z,z,z,z,o,z,z,e,z⟩:=x;exact au e
 |set S n=>revert x;apply u4;rintro o z z z ⟨e,z⟩;exact au e
 |ins C dx fs=>obtain⟨z,z,z,e,z⟩:=x;exact au e
 |own y=>obtain⟨z,e⟩:=x;exact au e
 |xd fs=>obtain⟨z,⟨z,z,z,e,z⟩,z⟩:=x;exact au e
 |rng lo hi=>revert x;apply u3;rintro z z z e;exact au e
 |frz ob u=>obtain⟨e,z⟩:=x;exact au e
 |tbl ps=>exact au<|x
 |met f y=>exact au<|x
 |ext φ =>obtain⟨z,⟨z,e⟩,z⟩:=x;exact au e
def RM{α β :Type}{F: α -> β ->Prop}{x: α}{l:List α}{m:List β}(h:Paired F (x::l) m):∃ y m',m=y::m'/\F x y/\Paired F l m':=by
 cases h;exact{_,_,rfl,‹_›,‹_›}
def U9{α β :Type}{F: α -> β ->Prop}{m:List β}(h:Paired F [] m):m=[]:=by cases h;rfl
def Paired.mapP{α β :Type}{F G: α -> β ->Prop}:∀ {l₁:List α} {l₂:List β},Paired F l₁ l₂->(∀ a b,F a b->G a b)->Paired G l₁ l₂:=λh k=>by
 induction h with
 |nil=>exact .nil
 |cons h t ih=>exact .cons (k _ _ h) ih
def ObjOk.stay(x:ObjOk P w H h a o)(k:∀ b u,(b=a\/H b=some (.own a))->h.get? b=some u->h'.get? b=some u)
  (ho:∀ b,H b=some (.own a)->H' b=some (.own a)) (ht:∀ b xs,H b=some (.tup xs)->H' b=some (.tup xs)):ObjOk P w H' h' a o:=by
 induction o with
 |lst xs=>obtain⟨z,AJ,n,r,e⟩:=x;exact{z,x2 _ n {r,k _ _ (.inl rfl) e}}
 |tup xs=>obtain⟨z,AJ,r,ob,e,c⟩:=x;exact{z,_,r,ob,k _ _ (.inl rfl) e,c}
 |dK kvs=>obtain⟨z,y,vs,r,ob,es,ep,e,c⟩:=x;exact{z,y,vs,r,x3 ob es ep {k _ _ (.inl rfl) e,c}}
 |dT kvs =>
  obtain⟨z,y,xs,r,ob,es,ep,e,c⟩:=x;exact{z,y,xs,Paired.mapP r λp q z=>{z.1,ht _ _ z.2.1,z.2.2},x3 ob es ep {k _ _ (.inl rfl) e,c}}
 |set S n=>revert x;apply u4;rintro ob es ep t ⟨e,c⟩;exact x4 ob es ep t {k _ _ (.inl rfl) e,c}
 |ins C dx fs =>
  obtain⟨d,z,ne,e,mA,⟨od,es,ep,e2,c⟩,r⟩:=x;exact{ho _ d,z,ne,k _ _ (.inl rfl) e,mA,x3 od es ep {k _ _ (.inr d) e2,c},r}
 |own y=>obtain⟨ob,e⟩:=x;exact{ob,k _ _ (.inl rfl) e}
 |xd fs=>obtain⟨mA,⟨od,es,ep,e,c⟩,r⟩:=x;exact{mA,x3 od es ep {k _ _ (.inl rfl) e,c},r}
 |rng lo hi=>revert x;apply u3;rintro t u v e;exact x3 t u v<|k _ _ (.inl rfl) e
 |frz ob u ih=>obtain⟨e,q⟩:=x;exact{k _ _ (.inl rfl) e,ih q}
 |tbl ps =>
  have e:h.get? a=some _:=x;exact k a _ (.inl rfl) e
 |met f y =>
  exact k a _ (.inl rfl) x
 |ext φ =>obtain⟨p,⟨o,e⟩,st⟩:=x;exact{st _ _ p λo q=>k _ _ (.inl rfl) q,{o,k _ _ (.inl rfl) e},st}
def HOk.lt(x:HOk P w H h)(e:H a=some o):a<h.objs.size:=(x a o e).lt
def HOk.fresh(x:HOk P w H h)(e:h.objs.size<=a):H a=none:=by
 cases q:H a with
 |none=>rfl
 |some u=>exact absurd (ψ (x.lt q) e) (jk _)
def HOk.kept(x:HOk P w H h)(k:∀ b u,h.get? b=some u->h'.get? b=some u):HOk P w H h':=λa o e =>
 (x a o e).stay (λb u z q=>k b u q) (λz q=>q) λz z q=>q
def HOk.laid(x:HOk P w H h)(k:∀ b u,h.get? b=some u->h'.get? b=some u)(hp:h.objs.size<=a)(new:ObjOk P w (upd H a o) h' a o):HOk P w (upd H a o) h':=λb u e=>by
 have hn:=x.fresh hp;by_cases hb:b=a;subst hb;rw[AF]at e;obtain rfl:=μ e;exact new;rw[AI hb]at e;exact(x b u e).stay (λc v z q=>k c v q) (λc q=>by rw[AI (BI q hn)];exact q) λc xs q=>by rw[AI (BI q hn)];exact q
end
def Rd(H:Hp)(a:Addr)(u:HO):Prop:=H a=some u\/∃ o,H a=some (.frz o u)
def Rd.ok(r:Rd H a u)(x:HOk P w H h):ObjOk P w H h a u:=by
 rcases r with r|⟨o,r⟩
 exact x a u r;obtain⟨z,q⟩:=x a _ r;exact q
def OP:Option HO->Prop
 |some (.lst _)=>True
 |some (.dK _)=>True
 |some (.dT _)=>True
 |some (.set _ _)=>True
 |some (.ins _ _ _)=>True
 |some (.ext _)=>True
 |_=>False
section
variable{P:bw}{w:World}{H:Hp}{h h':Heap}{x e:Addr}{o':HO}
def HOk.write(ok:HOk P w H h)(mu:OP (H x))(he:e=x\/H e=some (.own x))(k:∀ b u,b≠e->h.get? b=some u->h'.get? b=some u)(heo:∃ u,h'.get? e=some u)
  (new:ObjOk P w (upd H x o') h' x o'):HOk P w (upd H x o') h':=λb u q=>by
 have nown:∀ c y,H c=some (.own y)->c≠x:=λc y r z=>by subst z;rw[r]at mu;exact mu
 by_cases hb:b=x;subst hb;rw[AF]at q;obtain rfl:=μ q;exact new;rw[AI hb]at q;by_cases hbe:b=e
 have q':H b=some (.own x):=by
  rcases he with z|z
  exact absurd (hbe.trans z) hb;rw[hbe];exact z
 rw[q]at q';obtain⟨v,hv⟩:=heo;obtain rfl:=μ q';exact{v,by rw[hbe];exact hv};refine(ok b u q).stay (λc v hc r=>k c v ?_ r) (λc r=>by rw[AI (nown c b r)];exact r) λc xs r=>by rw[AI ((λc xs r z=>by subst z;rw[r]at mu;exact mu) c xs r)];exact r
 rcases hc with rfl|hc
 exact hbe;rintro rfl;rcases he with z|z
 exact nown c b hc z;rw[hc]at z;cases z;exact hb rfl
end
abbrev _root_.tW:=List Addr
structure Un(fs ex:tW)(H H':Hp)(h h':Heap):Prop where
 keep:∀ b o,h.get? b=some o->H b=none->b∉fs->b∉ex->h'.get? b=some o
 slot:∀ b o,h.get? b=some o->H b=none->b∈fs->b∉ex->∃ sl,h'.get? b=some { o with slots:=sl }
 free:∀ b o,h.get? b=some o->H b=none->b∉ex->H' b=none
 there:∀ b o,h.get? b=some o->b∉ex->∃ o',h'.get? b=some o'
 tups:∀ b xs,H b=some (.tup xs)->H' b=some (.tup xs)
 frzs:∀ b o u,H b=some (.frz o u)->H' b=some (.frz o u)
 tbls:∀ b ps,H b=some (.tbl ps)->∃ more,H' b=some (.tbl<|ps++more)
section
variable{fs fs' ex OL:tW}{H H1 H2:Hp}{h h1 h2 h':Heap}{a x e:Addr}{o:HO}
def Un.any(u:Un fs ex H H1 h h1)(q:h.get? b=some ob)(n:H b=none)(hx:b∉ex):∃ sl,h1.get? b=some { ob with slots:=sl }:=by
 by_cases hb:b∈fs;exact u.slot b ob q n hb hx;exact{_,u.keep b ob q n hb hx}
def Un.kept(k:∀ b u,h.get? b=some u->h'.get? b=some u):Un fs ex H H h h' :=
 {λb ob q z z z=>k b ob q,λb ob q z z z=>{_,k b ob q},λz z z n z=>n,λb ob q z=>{ob,k b ob q},λz z q=>q,λz z z q=>q,λz ps q=>{#[],by rw[q];simp}}
def Un.refl:Un fs ex H H h h:=Un.kept λz z q=>q
def Un.laid(k:∀ b u,h.get? b=some u->h'.get? b=some u)(hp:h.objs.size<=a)(hn:H a=none):Un fs ex H (upd H a o) h h' where
 keep:=λb u q z z z=>k b u q
 slot:=λb u q z z z=>{_,k b u q}
 free:=λb u q n z=>by rw[AI (bd<|ψ (au q) hp)];exact n
 there:=λb u q z=>{u,k b u q}
 tups:=λb xs q=>by rw[AI (BI q hn)];exact q
 frzs:=λb u xs q=>by rw[AI (BI q hn)];exact q
 tbls:=λb ps q=>{#[],by rw[AI (BI q hn),q];simp}
def Un.write(mu:OP (H x))(he:e=x\/H e=some (.own x))(k:∀ b u,b≠e->h.get? b=some u->h'.get? b=some u)(heo:∃ u,h'.get? e=some u):Un fs ex H (upd H x o) h h':=by
 have hx:∀ b,H b=none->b≠x:=λb n z=>by subst z;rw[n]at mu;exact mu
 have hm:∀ b u,H b=some u->¬ OP (some u)->b≠x:=λb u q nm z=>by subst z;rw[q]at mu;exact nm mu
 have hb:∀ b,H b=none->b≠e:=λb n z=>by
  subst z;rcases he with r|r
  exact hx b n r;rw[n]at r;cases r
 refine⟨λb u q n y y=>k b u (hb b n) q,λb u q n y y=>{_,k b u (hb b n) q},λb u q n y=>by rw[AI (hx b n)];exact n,λb u q y=>?_,
  λb xs q=>by rw[AI (hm b _ q λz=>z)];exact q,λb u xs q=>by rw[AI (hm b _ q λz=>z)];exact q,λb ps q=>{#[],by rw[AI (hm b _ q λz=>z),q];simp}⟩
 by_cases hbe:b=e;subst hbe;exact heo;exact{u,k b u hbe q}
end
def Kd(h:Heap)(H:Hp):tW:=(ν h.objs.size).filter λa=>(H a).isSome
def M6(h:Heap)(H:Hp):Heap:=W.hideAll h<|Kd h H
def Kg(h:Heap)(H:Hp):(M6 h H).objs.size=h.objs.size:=W.hideAll_size _ _
def Kh(e:h.get? b=some o)(n:H b=none):(M6 h H).get? b=some o :=
 W.hideAll_get _ e λhm=>by
  have q:=(dh.mp hm).2;rw[n]at q;simp at q
def Kj(e:(M6 h H).get? b=some o):h.get? b=some o/\H b=none:=by
 have e':=W.of_hideAll _ e;refine{e',?_};cases q:H b with
 |none=>rfl
 |some x =>
  have z:(M6 h H).get? b=none:=W.hideAll_none _ (dh.mpr {ak.mpr<|au e',by simp[q]});rw[z]at e;cases e
abbrev _root_.tI:=List (Addr × Obj)
def Kk(g h:Heap)(L:Addr):tI:=(ν h.objs.size).filterMap λa=>if a=L\/(g.get? a).isSome=true then none else(h.get? a).map λo=>(a,o)
def CH(g h:Heap)(L d:Addr):tI:=(Kk g h L).filter λp=>decide<|p.1≠d
abbrev _root_.UN:=Str->Option Value
structure Mod(K:ι)(mg:UN)(base:Heap):Prop where
 kin:K.In base
 glob:base.Ns bq mg
 blt:∃ mb,base.Ns Ka mb/\∀ x:Str,x≠"__name__"->mb x=nz x
 nolimit:base.NoLimit
abbrev _root_.tY:=List Str
abbrev _root_.zY:=List Env
structure Cx where
 prog:bw
 w:World
 K:ι
 mg:Str->Option Value
 base:Heap
 A:dk
 N:tY
 s₀:ξ
 H₀:Hp
 env:Env
 outer:zY
 stack:zY
 ex:tW
 fn:Str->Bool
 calm:Bool
 pn:tI
 xe:Value->ξ->Prop
def D0(l:zY):tW:=l.filterMap (·.frame)
abbrev Cx.fs(X:Cx):tW:=D0 X.outer
def RN(sc:Scope)(x:Str):Prop:=sc.names.lookup x=some .local\/sc.names.lookup x=some .cell\/sc.names.lookup x=some .free
def M7(sc:Scope)(x:Str):Prop:=sc.names.lookup x=some .local\/sc.names.lookup x=some .cell
def Kl(env:Env)(h:Heap)(m:UN)(x:Str)(u:Value):Prop :=
 (env.kindOf x=some .local/\m x=some u)\/((env.kindOf x=some .cell\/env.kindOf x=some .free)/\∃ c,env.cells.lookup x=some c/\h.IsCell c (some u))
structure Cx.Ok(X:Cx):Prop where
 mod:Mod X.K X.mg X.base
 kind:X.env.scope.kind=.function
 glob:X.env.globals=bq
 blt:X.env.builtins=Ka
 above:X.s₀.heap.objs.size<=X.env.locals
 inj:∀ x y c,X.env.cells.lookup x=some c->X.env.cells.lookup y=some c->x=y
 has:∀ x,(X.env.kindOf x=some .cell\/X.env.kindOf x=some .free)->∃ c,X.env.cells.lookup x=some c
 cab:∀ x c,X.fn x=true->X.env.cells.lookup x=some c->X.s₀.heap.objs.size<=c
 hd:X.calm=true->X.A.handled=none
 frames:X.A.frames=some X.stack
 stk:X.stack=X.outer\/(X.stack=X.env::X.outer/\X.env.frame=some X.env.locals)
 exf:∀ b∈X.ex,b≠X.env.locals/\∀ x c,X.env.cells.lookup x=some c->c≠b
 bs:∀ b o,X.base.get? b=some o->X.s₀.heap.get? b=some o/\X.H₀ b=none
 bsz:X.base.objs.size<=X.s₀.heap.objs.size
 noex:∀ b o,X.base.get? b=some o->b∉X.ex
 exfs:∀ b∈X.ex,b∉X.fs
 funs:X.s₀.heap.FunFrames X.base X.outer
 frf:∀ b∈X.fs,X.H₀ b=none
structure Inv(X:Cx)(AA:tI)(σ:List (Option V))(H:Hp)(s:ξ):Prop where
 ok:X.Ok
 os:s.os=X.s₀.os
 bare:tm s.gens
 base:Un X.fs X.ex X.H₀ H X.s₀.heap s.heap
 loc:∃ m,s.heap.Ns X.env.locals m/\∀ (i:Nat) (x:Str) (v:V),X.N[i]? =some x->σ[i]? =some (some v)->RN X.env.scope x->∃ u,RelV v u/\Kl X.env s.heap m x u
 cell:∀ x c,X.env.cells.lookup x=some c->∃ v,s.heap.IsCell c v
 free:H X.env.locals=none
 freeC:∀ x c,X.env.cells.lookup x=some c->H c=none
 pin:∀ p∈X.pn++AA,s.heap.get? p.1=some p.2/\H p.1=none/\p.1≠X.env.locals/\p.1∉X.fs/\∀ v,p.2.data≠.cell v
 hok:HOk X.prog X.w H s.heap
 len:σ.length=X.N.length
section
variable{X:Cx}{AA:tI}{σ:List (Option V)}{H H':Hp}{s:ξ}{h':Heap}
def Cx.Ok.nofr(ok:X.Ok)(e:X.base.get? b=some o):b∉X.fs:=λhb=>by
 have:=(ok.funs.mem hb).1;rw[e]at this;cases this
def Inv.bs(I:Inv X AA σ H s):∀ b o,X.base.get? b=some o->s.heap.get? b=some o/\H b=none:=λb o e =>
 {I.base.keep b o (I.ok.bs b o e).1 (I.ok.bs b o e).2 (I.ok.nofr e) (I.ok.noex b o e),I.base.free b o (I.ok.bs b o e).1 (I.ok.bs b o e).2 (I.ok.noex b o e)}
def Inv.bk(I:Inv X AA σ H s):∀ b o,X.base.get? b=some o->s.heap.get? b=some o:=λb o e=>(I.bs b o e).1
def Inv.mod(I:Inv X AA σ H s):Mod X.K X.mg X.base:=I.ok.mod
def Inv.kIn(I:Inv X AA σ H s):X.K.In s.heap:=I.ok.mod.kin.keeps I.bk
def Inv.lt(I:Inv X AA σ H s):X.env.locals<s.heap.objs.size:=let ⟨_,hn,_⟩:=I.loc;hn.lt
def Inv.sz(I:Inv X AA σ H s):X.s₀.heap.objs.size<=s.heap.objs.size:=ω I.ok.above<|li I.lt
def Inv.nofs(I:Inv X AA σ H s)(h:s.heap.objs.size<=a):a∉X.fs:=λhb=>by
 obtain⟨z,o,ho,z⟩:=I.ok.funs.mem hb;exact absurd (ψ (au ho) (ω I.sz h)) (jk _)
def Inv.cne(I:Inv X AA σ H s):∀ x c,X.env.cells.lookup x=some c->c≠X.env.locals:=λx c e z=>by
 obtain⟨m,⟨o',es,ep,ho',hd',y⟩,y⟩:=I.loc;obtain⟨v,o,ho,hd⟩:=I.cell x c e;rw[z,ho']at ho;obtain rfl:=μ ho;rw[hd']at hd;cases hd
def Inv.funs(I:Inv X AA σ H s):s.heap.FunFrames X.base X.outer:=by
 have all:∀ (l:List _),(∀ b∈D0 l,b∈X.fs)->X.s₀.heap.FunFrames X.base l->s.heap.FunFrames X.base l:=by
  intro l
  induction l with
  |nil=>intro y y;trivial
  |cons env r ih =>
   rintro hs ⟨hk,⟨L,o,hf,hn,ho,hd⟩,hr⟩
   have hL:=hs L (by unfold D0;rw[jh,hf];exact χ);obtain⟨sl,e⟩:=I.base.slot L o ho (I.ok.frf L hL) hL λz=>I.ok.exfs L z hL;exact{hk,x2 L _ ⟨hf,hn,e,hd⟩,ih (λb hb=>hs b (by unfold D0;rw[jh,hf];exact ρ _ hb)) hr}
 exact all _ (λy hb=>hb) I.ok.funs
def Inv.stack(I:Inv X AA σ H s):s.heap.FunFrames X.base X.stack:=by
 rcases I.ok.stk with e|⟨e,hf⟩
 rw[e];exact I.funs;obtain⟨m,hn,z⟩:=I.loc;rw[e];exact .cons (by rw[I.ok.kind];decide) hf hn (Heap.get?_none_of_le<|ω I.ok.bsz I.ok.above) I.funs
def Inv.stkSub(I:Inv X AA σ H s):∀ b∈D0 X.stack,b∈X.env.locals::X.fs:=λb hb=>by
 rcases I.ok.stk with e|⟨e,hf⟩
 rw[e]at hb;exact ρ _ hb;rw[e]at hb;unfold D0 at hb;rw[jh,hf]at hb;exact hb
def Inv.stkFree(I:Inv X AA σ H s):∀ b∈D0 X.stack,H b=none:=λb hb=>by
 rcases aj.mp (I.stkSub b hb)with e|hb
 rw[e];exact I.free;obtain⟨y,o,ho,y⟩:=I.ok.funs.mem hb;exact I.base.free b o ho (I.ok.frf b hb) λz=>I.ok.exfs b z hb
def Inv.step{g':Array Df}{t':Nat}{d':Drawn}{ch:tW}(I:Inv X AA σ H s)
  (DJ:∀ b∈ch,(b∈X.ex\/X.s₀.heap.objs.size<=b)/\b≠X.env.locals/\(∀ x c,X.env.cells.lookup x=some c->c≠b)/\∀ p∈X.pn++AA,p.1≠b)
  (keep:∀ b o,b≠X.env.locals->b∉X.fs->b∉ch->s.heap.get? b=some o->H b=none->h'.get? b=some o)
  (slot:∀ b o,b≠X.env.locals->b∈X.fs->b∉ch->s.heap.get? b=some o->H b=none->∃ sl,h'.get? b=some { o with slots:=sl }) (free:∀ b o,b∉ch->s.heap.get? b=some o->H b=none->H' b=none)
  (there:∀ b o,b∉ch->s.heap.get? b=some o->∃ o',h'.get? b=some o')
  (tups:∀ b xs,H b=some (.tup xs)->H' b=some (.tup xs)) (frzs:∀ b o u,H b=some (.frz o u)->H' b=some (.frz o u)) (tbls:∀ b ps,H b=some (.tbl ps)->∃ more,H' b=some (.tbl<|ps++more))
  (ns:∀ m,s.heap.Ns X.env.locals m->h'.Ns X.env.locals m) (hok:HOk X.prog X.w H' h') (hg:tm g') :
  Inv X AA σ H' { s with heap:=h',gens:=g',drawn:=d',toks:=t' }:=by
 have neL:∀ b o,X.s₀.heap.get? b=some o->b≠X.env.locals:=λb o e=>bd<|ψ (au e) I.ok.above
 have neC:∀ b o,X.s₀.heap.get? b=some o->b∉X.ex->b∉ch:=λb o e hx hb=>by
  rcases(DJ b hb).1 with z|z
  exact hx z;exact absurd (ψ (au e) z) (jk _)
 have cellK:∀ x c,X.env.cells.lookup x=some c->∀ v,s.heap.IsCell c v->h'.IsCell c v:=λx c e v ⟨o,ho,hd⟩=>by
  have nch:=λz=>(DJ c z).2.2.1 x c e rfl;by_cases hc:c∈X.fs;obtain⟨sl,q⟩:=slot c o (I.cne x c e) hc nch ho (I.freeC x c e);exact⟨_,q,hd⟩;exact{o,keep c o (I.cne x c e) hc nch ho (I.freeC x c e),hd}
 refine{I.ok,I.os,hg,{λb o e n hb hx=>(keep b o (neL b o e) hb (neC b o e hx) (I.base.keep b o e n hb hx) (I.base.free b o e n hx)),λb o e n hb hx=>?_,λb o e n hx=>?_,λb o e hx=>?_,λb xs e=>tups b xs<|I.base.tups b xs e,λb o xs e=>frzs b o xs<|I.base.frzs b o xs e,λb ps e=>?_},?_,λx c e=>?_,?_,λx c e=>?_,λp hp=>?_,hok,I.len};obtain⟨sl,e1⟩:=I.base.slot b o e n hb hx;obtain⟨sl',e2⟩:=slot b _ (neL b o e) hb (neC b o e hx) e1 (I.base.free b o e n hx);exact⟨_,e2⟩;obtain⟨o',e1⟩:=I.base.there b o e hx;exact free b o' (neC b o e hx) e1 (I.base.free b o e n hx);obtain⟨o',e1⟩:=I.base.there b o e hx;exact there b o' (neC b o e hx) e1;obtain⟨m1,e1⟩:=I.base.tbls b ps e;obtain⟨m2,e2⟩:=tbls b _ e1;exact{_,by rw[e2,Ce]};obtain⟨m,hn,hl⟩:=I.loc;refine{m,ns m hn,λi x v e1 e2 e3=>?_};obtain⟨u,r,l⟩:=hl i x v e1 e2 e3;refine{u,r,?_};rcases l with l|⟨k,c,e,z⟩
 exact .inl l;exact .inr {k,c,e,cellK x c e _ z};obtain⟨v,z⟩:=I.cell x c e;exact{v,cellK x c e v z};obtain⟨m,⟨o,y,y,ho,y⟩,y⟩:=I.loc;exact free _ o (λz=>(DJ _ z).2.1 rfl) ho I.free;obtain⟨v,o,ho,hd⟩:=I.cell x c e;exact free c o (λz=>(DJ c z).2.2.1 x c e rfl) ho (I.freeC x c e)
 have nch:=λz=>(DJ _ z).2.2.2 p hp rfl;obtain⟨e,n,ne,nf,d⟩:=I.pin p hp;exact{keep _ _ ne nf nch e n,free _ _ nch e n,ne,nf,d}
def Inv.un{t':Nat}(I:Inv X AA σ H s)(u:Un X.fs [] H H' s.heap h')(hok:HOk X.prog X.w H' h'):Inv X AA σ H' { s with heap:=h',toks:=t' }:=by
 obtain⟨m,⟨o,es,ep,ho,r⟩,_⟩:=id I.loc;obtain⟨sl,hL⟩:=u.any ho I.free (by simp);exact I.step   (ch:=[]) (λ_ z=>nomatch z) (λb o _ hb _ e n=>u.keep b o e n hb (by simp)) (λb o _ hb _ e n=>u.slot b o e n hb (by simp)) (λb o _ e n=>u.free b o e n (by simp)) (λb o _ e=>u.there b o e (by simp)) u.tups u.frzs u.tbls (λm' hm=>by
  revert hm;apply u3;rintro o' es' ep' ⟨ho',r'⟩;rw[ho]at ho';obtain rfl:=μ ho';exact x3 _ _ _ ⟨hL,r'⟩) hok I.bare
def Inv.call{g':Array Df}{t':Nat}{d':Drawn}{ch:tW}(I:Inv X AA σ H s)(u:Un (D0 X.stack) ch H H' s.heap h')(hok:HOk X.prog X.w H' h')(hg:tm g')
  (DJ:∀ b∈ch,(b∈X.ex\/X.s₀.heap.objs.size<=b)/\b≠X.env.locals/\(∀ x c,X.env.cells.lookup x=some c->c≠b)/\∀ p∈X.pn++AA,p.1≠b) :
  Inv X AA σ H' { s with heap:=h',gens:=g',drawn:=d',toks:=t' }:=by
 obtain⟨m,⟨o,es,ep,ho,r⟩,y⟩:=id I.loc;obtain⟨sl,hL⟩:=u.any ho I.free λz=>(DJ _ z).2.1 rfl;exact I.step  DJ (λb o hL hb hc e n=>u.keep b o e n (λz=>(aj.mp<|I.stkSub b z).elim hL hb) hc) (λb o y y hc e n=>u.any e n hc) (λb o hc e n=>u.free b o e n hc) (λb o hc e=>u.there b o e hc) u.tups u.frzs u.tbls (λm' hm=>by
  revert hm;apply u3;rintro o' es' ep' ⟨ho',r'⟩;rw[ho]at ho';obtain rfl:=μ ho';exact x3 _ _ _ ⟨hL,r'⟩) hok hg
def Inv.turned{t':Nat}{it:Addr}(I:Inv X AA σ H s)(k:∀ b o,b≠it->s.heap.get? b=some o->h'.get? b=some o)(hn:H it=none)(hL:it≠X.env.locals)
  (h1:it∈X.ex\/X.s₀.heap.objs.size<=it) (h2:∀ x c,X.env.cells.lookup x=some c->c≠it) (h3:∀ p∈X.pn++AA,p.1≠it):Inv X AA σ H { s with heap:=h',toks:=t' }:=by
 have nit:∀ b u,H b=some u->b≠it:=λb u e z=>by rw[z,hn]at e;cases e
 refine I.step   (ch:=[it]) (λb hb=>?_) (λb o y y hc e y=>k b o (λz=>hc (by simp[z])) e) (λb o y y hc e y=>{_,k b o (λz=>hc (by simp[z])) e}) (λy y y y n=>n)
  (λb o hc e=>{o,k b o (λz=>hc (by simp[z])) e}) (λy y e=>e) (λy y y e=>e) (λb ps e=>{#[],by rw[e];simp}) (λm hm=>?_) (λb u e=>?_) I.bare
 have e:b=it:=by simpa using hb
 subst e;exact⟨h1,hL,h2,h3⟩;revert hm;apply u3;rintro o es ep ⟨ho,r⟩;exact x3 o es ep {k _ o (eh hL) ho,r};refine(I.hok b u e).stay (λc v hc q=>k c v ?_ q) (λy q=>q) λy y q=>q;rcases hc with z|z
 rw[z];exact nit b u e;exact nit c _ z
def Inv.tok(I:Inv X AA σ H s)(t:Nat):Inv X AA σ H { s with toks:=t }:=I.un   Un.refl I.hok
def Inv.kept(I:Inv X AA σ H s)(k:∀ b u,s.heap.get? b=some u->h'.get? b=some u):Inv X AA σ H { s with heap:=h',toks:=t' }:=I.un (Un.kept k) (I.hok.kept k)
def Inv.laid{a:Addr}{o:HO}{t':Nat}(I:Inv X AA σ H s)(k:∀ b u,s.heap.get? b=some u->h'.get? b=some u)(hp:s.heap.objs.size<=a)(new:ObjOk X.prog X.w (upd H a o) h' a o) :
  Inv X AA σ (upd H a o) { s with heap:=h',toks:=t' }:=I.un (Un.laid k hp<|I.hok.fresh hp) (I.hok.laid k hp new)
def Inv.write(I:Inv X AA σ H s)(mu:OP (H x))(he:e=x\/H e=some (.own x))(k:∀ b u,b≠e->s.heap.get? b=some u->h'.get? b=some u)(heo:∃ u,h'.get? e=some u)
  (new:ObjOk X.prog X.w (upd H x o) h' x o):Inv X AA σ (upd H x o) { s with heap:=h',toks:=t' }:=I.un (Un.write mu he k heo) (I.hok.write mu he k heo new)
def Inv.pins_of(I:Inv X AA σ H s)(h:∀ p∈pins',s.heap.get? p.1=some p.2/\H p.1=none/\p.1≠X.env.locals/\p.1∉X.fs/\∀ v,p.2.data≠.cell v):Inv X pins' σ H s :=
 {I.ok,I.os,I.bare,I.base,I.loc,I.cell,I.free,I.freeC,λp hp=>(a_.mp hp).elim (λz=>I.pin p<|i_ _ z) (h p),I.hok,I.len}
def VB{N:tY}(hN:N.Nodup){i j:Nat}{x:Str}(a:N[i]? =some x)(b:N[j]? =some x):i=j:=by
 obtain⟨h1,e1⟩:=ε.mp a;obtain⟨h2,e2⟩:=ε.mp b;exact(Ge hN).mp (e1.trans e2.symm)
abbrev _root_.tQ:=Value->ξ->Prop
def jU{M:Model}{A:dk}{E:tQ}{i:Nat}{x:Str}{v:V}{u:Value}{Q:Unit->ξ->Prop}(I:Inv X AA σ H s)(hN:X.N.Nodup)(hi:X.N[i]? =some x)(hx:M7 X.env.scope x)(r:RelV v u)
  (h:∀ s',Inv X AA (σ.set i<|some v) H s'->(∃ a,gj a s.heap s'.heap/\(a=X.env.locals\/X.env.cells.lookup x=some a))->Q () s') (hf:X.fn x=true\/X.env.scope.names.lookup x=some .local:=by first|exact .inl rfl|exact .inr rfl|assumption):wpAny M A (storeName X.env x u) Q E s:=by
 obtain⟨m,hn,hl⟩:=id I.loc
 have hiσ:i<σ.length:=by rw[I.len];exact(ε.mp hi).1
 have cne:=I.cne
 have tracked:∀ {a:Addr} {h':Heap},(∃ o,s.heap.get? a=some o/\H a=none)->gj a _ h'->HOk _ _ H h':=λ{a h'} ha hs b ob e=>by
  obtain⟨t,t,hfree⟩:=ha;refine(I.hok b ob e).stay (λc w' hc q=>(hs.2 c ?_).trans q) (λt q=>q) λt t q=>q;rintro rfl;rcases hc with rfl|hc
  rw[hfree]at e;cases e;rw[hfree]at hc;cases hc
 rcases hx with hk|hk
 refine wpAny_storeName_local hk hn (λh' hn' hs=>(u3 ?_<|id hn)) (by rw[I.ok.kind];rfl);rintro oL t t ⟨hoL,t⟩;refine h _ {I.ok,I.os,I.bare,{λb o e n hb hx=>((hs.2 b<|bd<|ψ (au e) I.ok.above).trans (I.base.keep b o e n hb hx)),λb o e n hb hx=>?_,I.base.free,λb o e hx=>?_,I.base.tups,I.base.frzs,I.base.tbls},{_,hn',λj y v' e1 e2 e3=>?_},λy c e=>?_,I.free,I.freeC,λp hp=>?_,tracked ⟨oL,hoL,I.free⟩ hs,by simpa using I.len} {_,hs,.inl rfl};obtain⟨sl,e1⟩:=I.base.slot b o e n hb hx;exact{sl,(hs.2 b<|bd<|ψ (au e) I.ok.above).trans e1};obtain⟨o',e1⟩:=I.base.there b o e hx;exact{o',(hs.2 b<|bd<|ψ (au e) I.ok.above).trans e1};by_cases hj:j=i;subst hj;rw[hi]at e1;obtain rfl:=μ e1;rw[dv hiσ]at e2;cases e2;exact{u,r,.inl {hk,by simp}};rw[fh (eh hj)]at e2;obtain⟨u',r',q⟩:=hl j y v' e1 e2 e3;refine{u',r',?_};rcases q with⟨k,e⟩|⟨k,c,e,z⟩
 have:y≠x:=λe=>hj<|VB hN e1<|e ▸ hi;refine .inl {k,?_};simp[this,e];exact .inr {k,c,e,z.sameBut hs<|cne y c e};obtain⟨w',z⟩:=I.cell y c e;exact{w',z.sameBut hs<|cne y c e};obtain⟨e,n,ne,nf,d⟩:=I.pin p hp;exact{(hs.2 _ ne).trans e,n,ne,nf,d};obtain⟨c,hc⟩:=I.ok.has x<|.inl hk
 have hfn:X.fn x=true:=by
  rcases hf with z|z
  exact z;rw[z]at hk;cases hk
 obtain⟨w',z⟩:=I.cell x c hc;refine wpAny_storeName_cell I.ok.kind hk hc z<|λh' hc' hs=>?_;obtain⟨oc,hoc,hocd⟩:=id z;refine h _ {I.ok,I.os,I.bare,{λb o e n hb hx=>((hs.2 b<|bd<|ψ (au e) (I.ok.cab x c hfn hc)).trans (I.base.keep b o e n hb hx)),λb o e n hb hx=>?_,I.base.free,λb o e hx=>?_,I.base.tups,I.base.frzs,I.base.tbls},{m,hn.sameBut hs<|eh<|cne x c hc,λj y v' e1 e2 e3=>?_},λy c' e=>?_,I.free,I.freeC,λp hp=>?_,tracked {oc,hoc,I.freeC x c hc} hs,by simpa using I.len} {c,hs,.inr hc};obtain⟨sl,e1⟩:=I.base.slot b o e n hb hx;exact{sl,(hs.2 b<|bd<|ψ (au e) (I.ok.cab x c hfn hc)).trans e1};obtain⟨o',e1⟩:=I.base.there b o e hx;exact{o',(hs.2 b<|bd<|ψ (au e) (I.ok.cab x c hfn hc)).trans e1};by_cases hj:j=i;subst hj;rw[hi]at e1;obtain rfl:=μ e1;rw[dv hiσ]at e2;cases e2;exact{u,r,.inr {.inl hk,c,hc,hc'}};rw[fh (eh hj)]at e2;obtain⟨u',r',q⟩:=hl j y v' e1 e2 e3;refine{u',r',?_};rcases q with q|⟨k,c',e,z'⟩
 exact .inl q;refine .inr {k,c',e,z'.sameBut hs ?_};rintro rfl;exact hj<|VB hN e1<|I.ok.inj _ _ _ e hc ▸ hi;by_cases hcc:c'=c;subst hcc;exact⟨_,hc'⟩;obtain⟨w2,z2⟩:=I.cell y c' e;exact{w2,z2.sameBut hs hcc};obtain⟨e,n,ne,nf,d⟩:=I.pin p hp;refine{(hs.2 _ ?_).trans e,n,ne,nf,d};intro q;rw[q,hoc]at e;exact d w' (by rw[<-(μ e)];exact hocd)
def RO(I:Inv X AA σ H s)(hN:X.N.Nodup)(hi:X.N[i]? =some x)(hx:M7 X.env.scope x)(r:RelV v u)
  (h:∀ s',Inv X AA (σ.set i<|some v) H s'->Q () s') (hf:X.fn x=true\/X.env.scope.names.lookup x=some .local:=by first|exact .inl rfl|exact .inr rfl|assumption):wpAny M A (storeName X.env x u) Q E s :=
 jU I hN hi hx r (λs' I' z=>h s' I') hf
def Inv.call'(I:Inv X AA σ H s)(ho:s'.os=s.os)(u:Un (D0 X.stack) ch H H' s.heap s'.heap)(hok:HOk X.prog X.w H' s'.heap)(hg:tm s'.gens)
  (DJ:∀ b∈ch,(b∈X.ex\/X.s₀.heap.objs.size<=b)/\b≠X.env.locals/\(∀ x c,X.env.cells.lookup x=some c->c≠b)/\∀ p∈X.pn++AA,p.1≠b):Inv X AA σ H' s':=by
 obtain⟨h',g',d',t',o'⟩:=s';subst ho;exact I.call    u hok hg DJ
end
abbrev XK:=Value->Option Addr->Hp->Prop
abbrev St:=List<|Option V
abbrev VK:=V->Hp->Prop
abbrev TE:=St->Hp->VK->Prop
abbrev TT:=St->Hp->(Bool->Hp->Prop)->Prop
abbrev TA:=St->Hp->(Oq->Hp->Prop)->Prop
structure Ends where
 nx:St->Hp->Prop
 rt:VK
 bk:St->Hp->Prop:=λ_ _=>False
 ct:St->Hp->Prop:=λ_ _=>False
abbrev TS:=Ends->St->Hp->Prop
def EP(X:Cx)(AA:tI)(σ:St)(Q:VK)(u:Value)(s':ξ):Prop:=∃ v H',Inv X AA σ H' s'/\RelV v u/\Q v H'
abbrev _root_.ZQ:=Bool->Hp->Prop
def TP(X:Cx)(AA:tI)(σ:St)(Q:ZQ)(b:Bool)(s':ξ):Prop:=∃ H',Inv X AA σ H' s'/\Q b H'
def AP(X:Cx)(AA:tI)(σ:St)(Q:Oq->Hp->Prop)(us:sV)(s':ξ):Prop:=∃ vs H',Inv X AA σ H' s'/\Vals vs us/\Q vs H'
def SP(X:Cx)(AA:tI)(D:Ends)(f:Flow)(s':ξ):Prop :=
 match f with
 |.next=>∃ σ' H',Inv X AA σ' H' s'/\D.nx σ' H'
 |.brk=>∃ σ' H',Inv X AA σ' H' s'/\D.bk σ' H'
 |.cont=>∃ σ' H',Inv X AA σ' H' s'/\D.ct σ' H'
 |.ret u=>∃ v σ' H',Inv X AA σ' H' s'/\RelV v u/\D.rt v H'
def PE(X:Cx)(e:Expr)(t:TE):Prop :=
 ∀ (AA:tI) (s:ξ) (σ:St) (H:Hp) (Q:VK),Inv X AA σ H s->t σ H Q->wpAny (model X.prog X.w) X.A (eval e X.env) (EP X AA σ Q) X.xe s
def PT(X:Cx)(e:Expr)(t:TT):Prop :=
 ∀ (AA:tI) (s:ξ) (σ:St) (H:Hp) (Q:ZQ),Inv X AA σ H s->t σ H Q->wpAny (model X.prog X.w) X.A (Na e X.env<|eval e X.env) (TP X AA σ Q) X.xe s
def PW(X:Cx)(e:Expr)(t:TT):Prop :=
 ∀ (whole:Sem Value) (AA:tI) (s:ξ) (σ:St) (H:Hp) (Q:ZQ),Inv X AA σ H s->t σ H Q->wpAny (model X.prog X.w) X.A (Na e X.env whole) (TP X AA σ Q) X.xe s
def PW.pt(h:PW X e t):PT X e t:=h _
abbrev _root_.wW:=List Expr
def PA(X:Cx)(es:wW)(t:TA):Prop :=
 ∀ (pos:Pos) (AA:tI) (s:ξ) (σ:St) (H:Hp) (Q:Oq->Hp->Prop),Inv X AA σ H s->t σ H Q->wpAny (model X.prog X.w) X.A (spliced<|ja pos<|ay es X.env) (AP X AA σ Q) X.xe s
def PS(X:Cx)(st:Stmt)(t:TS):Prop :=
 ∀ (AA:tI) (s:ξ) (σ:St) (H:Hp) (D:Ends),Inv X AA σ H s->t D σ H->wpAny (model X.prog X.w) X.A (exec st X.env) (SP X AA D) X.xe s
def E9(X:Cx)(st:List Stmt)(t:TS):Prop :=
 ∀ (AA:tI) (s:ξ) (σ:St) (H:Hp) (D:Ends),Inv X AA σ H s->t D σ H->wpAny (model X.prog X.w) X.A (execs st X.env) (SP X AA D) X.xe s
def AS{α :Type}{t:Sem α}{Q Q': α ->ξ->Prop}{M:Model}{A:dk}{E:tQ}{s:ξ}(h:wpAny M A t Q E s)(hQ:∀ a s,Q a s->Q' a s):wpAny M A t Q' E s:=lj h hQ λz z x=>x
section
variable{X:Cx}
def RP(i:Nat):TE:=λσ H Q=>∃ v,σ[i]? =some (some v)/\Q v H
def tC(v:V):TE:=λ_ H Q=>Q v H
def jV(hN:X.N[i]? =some x)(hv:RN X.env.scope x)(hd:(x ==("__debug__":Str))=false:=by decide)(GO:(x ==("__classdict__":Str))=false:=by decide):PE X (.Name x pos) (RP i):=by
 rintro AA s σ H Q I ⟨v,e,h⟩;obtain⟨m,hn,hl⟩:=I.loc;obtain⟨u,r,l⟩:=hl i x v hN e hv
 have fin:EP X _ σ Q u s:=x2 v H ⟨I,r,h⟩;rcases l with⟨hk,hm⟩|⟨hk,c,hc,hcell⟩
 exact Ke (wpAny_loadName_local I.ok.kind hk hn hm fin) hd;rcases hk with hk|hk
 exact Ke (wpAny_loadName_cell I.ok.kind hk hc hcell fin) hd;exact Ke (wpAny_loadName_free I.ok.kind hk hc hcell fin GO) hd
def jW{i j pos}:PE X (.Constant (.int i) j pos) (tC<|.int i):=λz z z H z I h=>wpAny_Constant_int<|x2 (.int i) H {I.tok _,⟨_,rfl⟩,h}
def Km{b j pos}:PE X (.Constant (.bool b) j pos) (tC<|.bl b):=λz z z H z I h=>Constant_bool<|x2 (.bl b) H ⟨I,rfl,h⟩
def Kq{j pos}:PE X (.Constant .none j pos) (tC .non):=λz z z H z I h=>Constant_none<|x2 (.non) H ⟨I,rfl,h⟩
def Kv{x j pos}:PE X (.Constant (.str x) j pos) (tC<|.str x):=λz z z H z I h=>Calls.Constant_str<|x2 (.str x) H {I.tok _,⟨_,rfl⟩,h}
def Gl(X:Cx)(x:Str):Prop:=X.env.kindOf x=some .globalImplicit
def OQ(I:Inv X AA σ H s)(hg:Gl X x)(hm:X.mg x=some u)(h:Q u s)
  (hd:(x ==("__debug__":Str))=false:=by decide):wpAny (model X.prog X.w) X.A (eval (.Name x pos) X.env) Q E s :=
 wc I.ok.kind hg (Calls.loadGlobal_global (by rw[I.ok.glob];exact I.mod.glob.keeps I.bk) hm h) hd
def M8{E:tQ}{AA:tI}{s:ξ}{σ:St}{H:Hp}{x:Str}{u:Value}{pos:Pos}{Q:tQ}(I:Inv X AA σ H s)(hg:Gl X x)(hm:X.mg x=none)(hv:nz x=some u)(h:Q u s)
  (hn:x≠"__name__":=by decide) (hd:(x ==("__debug__":Str))=false:=by decide):wpAny (model X.prog X.w) X.A (eval (.Name x pos) X.env) Q E s:=by
 obtain⟨mb,h1,h2⟩:=I.mod.blt;exact wc I.ok.kind hg (Calls.loadGlobal_builtin (by rw[I.ok.glob];exact I.mod.glob.keeps I.bk) hm (by rw[I.ok.blt];exact h1.keeps I.bk) ((h2 x hn).trans hv) h) hd
def Kw(hg:Gl X x)(hm:X.mg x=some u)(r:RelV v u)(hd:(x ==("__debug__":Str))=false:=by decide):PE X (.Name x pos) (tC v) :=
 λz z z H z I h=>OQ I hg hm (x2 v H ⟨I,r,h⟩) hd
def RQ(hg:Gl X x)(hm:X.mg x=none)(hv:nz x=some u)(r:RelV v u)(hn:x≠"__name__":=by decide)(hd:(x ==("__debug__":Str))=false:=by decide):PE X (.Name x pos) (tC v) :=
 λz z z H z I h=>M8 I hg hm hv (x2 v H ⟨I,r,h⟩) hn hd
variable{a b:Expr}{ta tb:TE}{pos:Pos}
def PC(X:Cx)(op:CmpOp)(a b:Expr)(t:TE):Prop :=
 ∀ (AA:tI) (s:ξ) (σ:St) (H:Hp) (Q:VK),Inv X AA σ H s->t σ H Q ->
  wpAny (model X.prog X.w) X.A (eval a X.env) (λv s₁=>wpAny (model X.prog X.w) X.A (eval b X.env) (λu s₂=>wpAny (model X.prog X.w) X.A (du op v u) (EP X AA σ Q) X.xe s₂) X.xe s₁) X.xe s
def Kx(b:Expr)(h:op≠.In)(h2:op≠.NotIn):mq op b=false:=by
 have e1:(op==CmpOp.In)=false:=by cases op<;>first|rfl|exact absurd rfl h
 have e2:(op==Nu)=false:=by cases op<;>first|rfl|exact absurd rfl h2
 cases b<;>simp[mq,e1,e2]
def tB(t:TE):TT:=λσ H Q=>t σ H λx H1=>∃ c,x=.bl c/\Q c H1
def Ky{t:TE}(h:PC X op a b t)(h1:mq op b=false:=by first|exact Kx _ (by decide) (by decide)|rfl):PT X (.Compare a [op] [b] pos) (tB t):=by
 refine λAA s σ H Q I hw=>ze (AS (h _ s σ H _ I hw) λv s1 h1=>AS h1 λu s2 h2=>AS h2 λc s3 hzz=>?_) h1;obtain⟨x,H1,I1,r1,⟨d,rfl,q⟩⟩:=hzz;subst r1;exact jc ⟨H1,I1,q⟩
variable{tA tB':TT}{CH:wW}
def KR(t u:TT):TT:=λσ H Q=>t σ H λc H1=>if c=true then u σ H1 Q else Q false H1
def JS(t u:TT):TT:=λσ H Q=>t σ H λc H1=>if c=true then Q true H1 else u σ H1 Q
def EI(t:TT):TT:=λσ H Q=>t σ H λc H1=>Q (!c) H1
def Kz(ha:PT X a tA):PW X (.BoolOp .And [a] pos) tA:=by
 refine λwh AA s σ H Q I h=>isTrue_and<|AS (ha _ s σ H Q I h) λc s1 e=>?_;cases c with
 |true=>exact isTrue_and_nil e
 |false=>exact e
def Lb(ha:PT X a tA):PW X (.BoolOp .Or [a] pos) tA:=by
 refine λwh AA s σ H Q I h=>isTrue_or<|AS (ha _ s σ H Q I h) λc s1 e=>?_;cases c with
 |false=>exact isTrue_or_nil e
 |true=>exact e
def Lc(ha:PT X a tA)(hb:PW X (.BoolOp .And (b::CH) pos) tB'):PW X (.BoolOp .And (a::b::CH) pos) (KR tA tB'):=by
 refine λwh AA s σ H Q I h=>isTrue_and<|AS (ha _ s σ H _ I h) λc s1 hzz=>?_;obtain⟨H1,I1,q1⟩:=hzz;cases c with
 |true=>exact hb wh _ s1 σ H1 Q I1 q1
 |false=>exact⟨H1,I1,q1⟩
def Ld(ha:PT X a tA)(hb:PW X (.BoolOp .Or (b::CH) pos) tB'):PW X (.BoolOp .Or (a::b::CH) pos) (JS tA tB'):=by
 refine λwh AA s σ H Q I h=>isTrue_or<|AS (ha _ s σ H _ I h) λc s1 hzz=>?_;obtain⟨H1,I1,q1⟩:=hzz;cases c with
 |true=>exact⟨H1,I1,q1⟩
 |false=>exact hb wh _ s1 σ H1 Q I1 q1
def Lg(ha:PT X a tA):PT X (.UnaryOp .Not a pos) (EI tA):=λAA s σ H Q I h=>isTrue_not<|ha _ s σ H (λc H1=>Q _ H1) I h
def OR(ta tb:TE):TE:=λσ H Q=>ta σ H λx H1=>∃ c,x=.bl c/\if c=true then tb σ H1 Q else Q (.bl false) H1
def Lh{op}(h:PE X a t):PE X (.BoolOp op [a] pos) t:=λAA s σ H Q I hw=>BoolOp_one<|h _ s σ H Q I hw
def Lj(ha:PE X a ta)(hb:PE X (.BoolOp .And (b::CH) pos) tb):PE X (.BoolOp .And (a::b::CH) pos) (OR ta tb):=by
 refine λAA s σ H Q I h=>BoolOp_and<|AS (ha _ s σ H _ I h) λv s1 hzz=>?_;obtain⟨x,H1,I1,r1,⟨c,rfl,q1⟩⟩:=hzz;subst r1;refine jc ?_;cases c with
 |true=>exact hb _ s1 σ H1 Q I1 q1
 |false=>exact x2 (.bl _) H1 ⟨I1,rfl,q1⟩
end
def SqL(K:ι)(H:Hp)(a:Addr)(xs:Oq):Prop :=
 Rd H a (.lst xs) ∨
  ∃ (o:Obj) (AJ:Array Value) (n:Nat),K.lookup a=some o/\o.cls=.type "list"/\o.dict=none/\o.data=.seq AJ n/\AJ.size<=sizeLine/\Vals xs AJ.toList
def SqT(K:ι)(H:Hp)(a:Addr)(xs:Oq):Prop :=
 Rd H a (.tup xs) ∨
  ∃ (o:Obj) (AJ:Array Value) (n:Nat),K.lookup a=some o/\o.cls=.type "tuple"/\o.data=.seq AJ n/\AJ.size<=sizeLine/\Vals xs AJ.toList
def Ll:Value->Option V
 |.none=>some .non
 |.bool b=>some<|.bl b
 |.int i _=>some<|.int i
 |.str x _=>some<|.str x
 |.bytes b _=>some<|.byt b
 |.float b _=>some<|.flt b
 |.ref a=>some<|.ref a
 |.type n=>some<|.ty n
 |_=>none
def RelV.abs(r:RelV x u):Ll u=some x:=by
 cases x with
 |non=>subst r;rfl
 |bl _=>subst r;rfl
 |int _=>obtain⟨t,rfl⟩:=r;rfl
 |str _=>obtain⟨t,rfl⟩:=r;rfl
 |byt _=>obtain⟨t,rfl⟩:=r;rfl
 |flt _=>obtain⟨t,rfl⟩:=r;rfl
 |ref _=>subst r;rfl
 |ty _=>subst r;rfl
def RelV.inj{x y:V}{u:Value}(r:RelV x u)(q:RelV y u):x=y:=μ<|r.abs.symm.trans q.abs
theorem Vals.inj:∀ {xs ys:Oq} {us:sV},Vals xs us->Vals ys us->xs=ys:=by
 intro xs ys us h h'
 induction h generalizing ys with
 |nil=>cases h';rfl
 |cons r t ih=>cases h' with|cons r' t'=>rw[r.inj r',ih t']
section
variable{X:Cx}{AA:tI}{σ:St}{H:Hp}{s:ξ}{a:Addr}{xs ys:Oq}
def SqL.of{K:ι}(h:H a=some (.lst xs)):SqL K H a xs:=.inl<|.inl h
def SqT.of{K:ι}(h:H a=some (.tup xs)):SqT K H a xs:=.inl<|.inl h
def Inv.list(I:Inv X AA σ H s)(h:SqL X.K H a xs):∃ AJ:sV,Vals xs AJ/\PlainL s.heap a AJ.toArray/\xs.length<=sizeLine:=by
 rcases h with h|⟨o,AJ,n,hk,hc,hd,hs,hz,r⟩
 obtain⟨z,AJ,n,r,e⟩:=h.ok I.hok;exact{_,r,x2 _ n ⟨e,rfl,rfl,rfl⟩,z};refine{_,r,x2 o n {I.kIn a o hk,hc,hd,hs},?_};exact r.length ▸ hz
def Inv.tuple(I:Inv X AA σ H s)(h:SqT X.K H a xs):∃ AJ:sV,Vals xs AJ/\IsTup s.heap a AJ.toArray/\xs.length<=sizeLine:=by
 rcases h with h|⟨o,AJ,n,hk,hc,hs,hz,r⟩
 obtain⟨z,AJ,r,p⟩:=h.ok I.hok;exact⟨_,r,p,z⟩;refine{_,r,{o,I.kIn a o hk,hc,n,hs},?_};exact r.length ▸ hz
def Inv.list_inj(I:Inv X AA σ H s)(h:SqL X.K H a xs)(h':SqL X.K H a ys):xs=ys:=by
 obtain⟨AJ,r,⟨o,n,e,z,z,d⟩,z⟩:=I.list h;obtain⟨its',r',⟨o',n',e',z,z,d'⟩,z⟩:=I.list h';rw[e]at e';obtain rfl:=μ e';rw[d]at d';injection d' with d1 _
 have:AJ=its':=congrArg Nf d1;subst this;exact r.inj r'
def Inv.tuple_inj(I:Inv X AA σ H s)(h:SqT X.K H a xs)(h':SqT X.K H a ys):xs=ys:=by
 obtain⟨AJ,r,⟨o,e,z,n,d⟩,z⟩:=I.tuple h;obtain⟨its',r',⟨o',e',z,n',d'⟩,z⟩:=I.tuple h';rw[e]at e';obtain rfl:=μ e';rw[d]at d';injection d' with d1 _
 have:AJ=its':=congrArg Nf d1;subst this;exact r.inj r'
end
section
variable{X:Cx}{AA:tI}{σ:St}{H:Hp}{s:ξ}{E:tQ}
end
section
variable{X:Cx}{st:Stmt}{CH:List Stmt}{t u:TS}{e:Expr}{te:TE}{pos:Pos}
def B0:TS:=λD σ H=>D.nx σ H
def AG(t u:TS):TS:=λD σ H=>t { D with nx:=u D } σ H
def Lm:E9 X [] B0:=λz z σ H z I h=>p_<|x2 σ H ⟨I,h⟩
def Lp(h1:PS X st t)(h2:E9 X CH u):E9 X (st::CH) (AG t u):=by
 refine λAA s σ H D I h=>Gf<|AS (h1 _ s σ H _ I h) λf s1 q=>?_;cases f with
 |next =>
  revert q;apply u2;rintro σ' H' ⟨I',q⟩;exact h2 _ s1 _ H' D I' q
 |ret v=>exact q
 |brk=>exact q
 |cont=>exact q
def Lq(h1:PS X st t):E9 X [st] t:=by
 refine λAA s σ H D I h=>Gf<|AS (h1 _ s σ H D I h) λf s1 q=>?_;cases f with
 |next=>exact p_ q
 |ret v=>exact q
 |brk=>exact q
 |cont=>exact q
def Inv.quiet{AA:tI}{σ:St}{H:Hp}{s:ξ}(I:Inv X AA σ H s):interactive X.env=false:=by simp[interactive,I.ok.kind]
def CB(te:TE):TS:=λD σ H=>te σ H λ_ H1=>D.nx σ H1
def Lw(he:PE X e te)(hs:v_ e none pos.line X.env=pure false:=by rfl):PS X (.Expr e pos) (CB te):=λAA s σ H D I h=>wpAny_Expr_any (AS (he _ s σ H _ I h) (by rintro v s1 ⟨x,H1,I1,r1,q1⟩;exact x2 σ H1 ⟨I1,q1⟩)) I.quiet hs
def AV(te:TE):TS:=λD σ H=>te σ H D.rt
def Lx(he:PE X e te):PS X (.Return (some e) pos) (AV te):=λAA s σ H D I h=>wpAny_Return_some (AS (he _ s σ H _ I h) (by rintro v s1 ⟨x,H1,I1,r1,q1⟩;exact x3 x σ H1 ⟨I1,r1,q1⟩))
def BM(c:TT)(t u:TS):TS:=λD σ H=>c σ H λb H1=>if b=true then t D σ H1 else u D σ H1
def Ly{tc:TT}(hc:PT X c tc)(ha:E9 X a t)(hb:E9 X b u):PS X (.If c a b pos) (BM tc t u):=by
 refine λAA s σ H D I h=>wpAny_If<|AS (hc _ s σ H _ I h) λd s1 hzz=>?_;obtain⟨H1,I1,q1⟩:=hzz;cases d with
 |true=>exact ha _ s1 σ H1 D I1 q1
 |false=>exact hb _ s1 σ H1 D I1 q1
end
abbrev TG:=V->St->Hp->(St->Hp->Prop)->Prop
abbrev G6:=Oq->St->Hp->(St->Hp->Prop)->Prop
def PG(X:Cx)(target:Expr)(t:TG):Prop :=
 ∀ (AA:tI) (s:ξ) (σ:St) (H:Hp) (v:V) (u:Value) (Q:St->Hp->Prop),Inv X AA σ H s->RelV v u->t v σ H Q ->
  wpAny (model X.prog X.w) X.A (Ni target X.env u) (λ_ s'=>∃ σ' H',Inv X AA σ' H' s'/\Q σ' H') X.xe s
def IK(X:Cx)(ts:wW)(t:G6):Prop :=
 ∀ (AA:tI) (s:ξ) (σ:St) (H:Hp) (vs:Oq) (us:sV) (Q:St->Hp->Prop),Inv X AA σ H s->Vals vs us->t vs σ H Q ->
  wpAny (model X.prog X.w) X.A (assignInOrder ((we ts X.env).map (·.2)) us) (λ_ s'=>∃ σ' H',Inv X AA σ' H' s'/\Q σ' H') X.xe s
abbrev VC:=V->V->V->Hp->(Hp->Prop)->Prop
def VD(X:Cx)(t:VC):Prop :=
 ∀ (AA:tI) (s:ξ) (σ:St) (H:Hp) (o i v:V) (ov iv u:Value) (Q:Hp->Prop),Inv X AA σ H s->RelV o ov->RelV i iv->RelV v u->t o i v H Q ->
  wpAny (model X.prog X.w) X.A (Nn ov iv u) (λ_ s'=>∃ H',Inv X AA σ H' s'/\Q H') X.xe s
abbrev jX:=V->V->Hp->VK->Prop
section
variable{X:Cx}{pos:Pos}
def AE(i:Nat):TG:=λv σ H Q=>Q (σ.set i<|some v) H
def jY(hN:X.N.Nodup)(hi:X.N[i]? =some x)(hx:M7 X.env.scope x)(hf:X.fn x=true\/X.env.scope.names.lookup x=some .local:=by first|exact .inl rfl|exact .inr rfl|assumption):PG X (.Name x pos) (AE i):=λAA s σ H v u Q I r h=>Di<|RO I hN hi hx r (λs' I'=>x2 _ H ⟨I',h⟩) hf
def FM:G6:=λvs σ H Q=>vs=[]/\Q σ H
def DK(t:TG)(u:G6):G6:=λvs σ H Q=>∃ v r,vs=v::r/\t v σ H λσ' H'=>u r σ' H' Q
def Lz:IK X [] FM:=by
 rintro AA s σ H vs us Q I r ⟨rfl,h⟩;exact assignInOrder_nil<|x2 σ H ⟨I,h⟩
def Mb{e:Expr}{es:wW}{t:TG}{u:G6}(h1:PG X e t)(h2:IK X es u)
  (hs:(we (e::es) X.env).map (·.2)=Ni e X.env::(we es X.env).map (·.2):=by rfl):IK X (e::es) (DK t u):=by
 intro AA s σ H vs us Q I r h;revert h;apply u2;rintro v vr ⟨rfl,h⟩;cases r with
 |cons r rr =>
  rw[hs];exact assignInOrder_cons (AS (h1 _ s σ H _ _ _ I r h) (by rintro z s1 ⟨σ1,H1,I1,q1⟩;exact(h2 _ s1 _ H1 _ _ Q I1 rr q1)))
def FN(K:ι)(n:Nat)(t:G6):TG:=λv σ H Q=>∃ a xs,v=.ref a/\SqT K H a xs/\xs.length=n/\t xs σ H Q
def Mc(hc:X.calm=true)(h:IK X es t)
  (hn:(we es X.env).length=n:=by rfl) (hst:(we es X.env).findIdx? (·.1)=none:=by rfl):PG X (.Tuple es k pos) (FN X.K n t):=by
 intro AA s σ H v u Q I r hw;revert hw;apply u2;rintro a xs ⟨rfl,hq,hl,hw⟩;subst r;obtain⟨AJ,rv,ht,hz⟩:=I.tuple hq;refine assign_Tuple_tuple (I.ok.hd hc) ht (by simp[hn,<-hl,rv.length]) hst λh' hx=>?_
 have I1:Inv X _ σ H { s with heap:=h' }:=I.kept  λb o e=>hx b o (bd<|au e) e;exact h _ _ σ H xs _ Q I1 (rv) hw
def OS(to ti:TE)(t:VC):TG:=λv σ H Q=>to σ H λo H1=>ti σ H1 λi H2=>t o i v H2 λH3=>Q σ H3
def Mg{to ti:TE}{t:VC}(ho:PE X o to)(hi:PE X i ti)(hs:VD X t)
  (ha:∀ v,Ni (.Subscript o i pos) X.env v=(do
   let ov ← tq [v] (eval o X.env)
   let iv ← tq [v,ov] (eval i X.env)
   yg pos
   tq [v,ov,iv] (Nn ov iv v)
   release [v,ov,iv] []):=by intro z;rfl):PG X (.Subscript o i pos) (OS to ti t):=λAA s σ H v u Q I r h=>δ (fm (AS (ho _ s σ H _ I h) (by rintro ov s1 ⟨x,H1,I1,r1,q1⟩;exact(δ (fm (AS (hi _ s1 σ H1 _ I1 q1) (by rintro iv s2 ⟨y,H2,I2,r2,q2⟩;exact(δ (Bn (δ (fm (AS (hs _ s2 σ H2 x y v ov iv u _ I2 r1 r2 r q2) (by rintro z s3 ⟨H3,I3,q3⟩;exact(wpAny_release<|x2 σ H3 ⟨I3,q3⟩))))))))))))))
def AQ(te:TE)(g:TG):TS:=λD σ H=>te σ H λx H1=>g x σ H1 D.nx
def Mh{te:TE}(he:PE X e te)(hg:PG X tg g)(hs:swapsWithSole [tg] e pos.line X.env=pure false:=by rfl)(hw:swappedStores [tg] e X.env=pure none:=by rfl)
  (h1:(we [tg] X.env).map (·.2)=[Ni tg X.env]:=by rfl):PS X (.Assign [tg] e pos) (AQ te g):=by
 refine λAA s σ H D I h=>wpAny_Assign_stores (AS (he _ s σ H _ I h) λv s1 hzz=>?_) hs hw;obtain⟨x,H1,I1,r1,q1⟩:=hzz;rw[h1];exact AS (hg _ s1 σ H1 x v _ I1 r1 q1) λz s2 q=>q
def jZ{te:TE}(hN:X.N.Nodup)(hi:X.N[i]? =some x)(hx:M7 X.env.scope x)(he:PE X e te)(hs:v_ e (some<|.Name x pos') pos.line X.env=pure false:=by rfl)(hf:X.fn x=true\/X.env.scope.names.lookup x=some .local:=by first|exact .inl rfl|exact .inr rfl|assumption) :
  PS X (.Assign [.Name x pos'] e pos) (AQ te<|AE i):=λAA s σ H D I h=>wpAny_Assign_Name (AS (he _ s σ H _ I h) (by rintro v s1 ⟨y,H1,I1,r1,q1⟩;exact(RO I1 hN hi hx r1 (λs2 I2=>x2 _ H1 ⟨I2,q1⟩) hf))) hs
def Mj(f:Int->Int->Int):jX:=λx y H Q=>∃ i j,x=.int i/\y=.int j/\Q (.int<|f i j) H
end
section
variable{X:Cx}{pos:Pos}
def j2(c:TT)(tb:TS):TS:=λD σ H=>∃ W:Nat->St->Hp->Prop,(∃ m,W m σ H)/\∀ m σ H,W m σ H ->
 c σ H λb H1=>if b=true then ∃ N:St->Hp->Prop,(∀ σ' H',N σ' H'->∃ m',m'<m/\W m' σ' H')/\tb { D with nx:=N,ct:=N,bk:=D.nx } σ H1 else D.nx σ H1
def Ml(hp:Mi (model X.prog X.w) X.A X.env X.xe)(hc:PT X c tc)(hb:E9 X body tb):PS X (.While c body [] pos) (j2 tc tb):=by
 rintro AA s σ H D I ⟨W,⟨m0,w0⟩,turn⟩;refine wpAny_While<|codeAny_whileLoop (λn s'=>∃ σ' H',Inv X _ σ' H' s'/\W n σ' H') ?_ m0 (x2 σ H ⟨I,w0⟩);rintro n s1 ⟨σ1,H1,I1,w1⟩;refine jy hp<|AS (hc _ s1 _ H1 _ I1<|turn n _ H1 w1) λb s2 hzz=>?_;obtain⟨H2,I2,q2⟩:=hzz;cases b with
 |true =>
  obtain⟨N,hN,q2⟩:=q2;refine jy hp<|AS (hb _ s2 _ H2 _ I2 q2) λf s3 q3=>?_;cases f with
  |next =>
   revert q3;apply u2;rintro σ3 H3 ⟨I3,n3⟩;obtain⟨m',hm,w3⟩:=hN _ H3 n3;exact{m',hm,x2 _ H3 ⟨I3,w3⟩}
  |cont =>
   revert q3;apply u2;rintro σ3 H3 ⟨I3,n3⟩;obtain⟨m',hm,w3⟩:=hN _ H3 n3;exact{m',hm,x2 _ H3 ⟨I3,w3⟩}
  |brk=>exact q3
  |ret v=>exact q3
 |false =>
  exact p_<|x2 _ H2 ⟨I2,q2⟩
end
structure It where
 go:Nat->Hp->Prop
 yld:Nat->Hp->V->Hp->Prop
 stop:Nat->Hp->Prop
def FpOk(X:Cx)(AA:tI)(H:Hp)(b:Addr):Prop :=
 H b=none/\b≠X.env.locals/\b∉X.fs/\(b∈X.ex\/X.s₀.heap.objs.size<=b)/\(∀ x c,X.env.cells.lookup x=some c->c≠b)/\∀ p∈X.pn++AA,p.1≠b
def Inv.fpOk(I:Inv X AA σ H s)(hb:s.heap.objs.size<=b)(hn:H' b=none):FpOk X AA H' b:=by
 refine{hn,iz<|ψ I.lt hb,I.nofs hb,.inr<|ω I.sz hb,λx c e z=>?_,λp hp z=>(absurd (ψ (au (I.pin p hp).1) (by rw[z];exact hb)) (jk _))};obtain⟨v,q⟩:=I.cell x c e;exact absurd (ψ q.lt (by rw[z];exact hb)) (jk _)
structure KS(P:bw)(w:World)(K:ι)(tg:Expr)(J:It)(fp:tW)(it:Addr)(tn:Nat->Heap->Prop):Prop where
 mem:it∈fp
 obj:∀ i h,tn i h->∀ b∈fp,∃ o,h.get? b=some o/\∀ v,o.data≠.cell v
 keep:∀ i h h',tn i h->(∀ b∈fp,∀ o,h.get? b=some o->h'.get? b=some o)->tn i h'
 item:∀ (X:Cx),X.prog=P->X.w=w->X.K=K->X.calm=true->∀ (i:Nat) (AA:tI) (s:ξ) (σ:St) (H:Hp) (E:tQ),Inv X AA σ H s->(∀ b∈fp,FpOk X AA H b)->tn i s.heap->J.go i H ->
  wpAny (model P w) X.A (zi<|.ref it) (λr s1=>∃ u,r=some u /\
   wpAny (model P w) X.A (yx tg (.ref it) u) (λ_ s2=>∃ x H',Inv X AA σ H' s2/\RelV x u/\J.yld i H x H'/\tn (i+1) s2.heap/\∀ b∈fp,H' b=none) E s1) E s
 done:∀ (X:Cx),X.prog=P->X.w=w->X.K=K->X.calm=true->∀ (i:Nat) (AA:tI) (s:ξ) (σ:St) (H:Hp) (E:tQ),Inv X AA σ H s->(∀ b∈fp,FpOk X AA H b)->tn i s.heap->J.stop i H ->
  wpAny (model P w) X.A (zi<|.ref it) (λr s1=>r=none/\Inv X AA σ H s1) E s
 self:∀ (A:dk) (i:Nat) (s:ξ) (Q:tQ) (E:tQ),tn i s.heap->Q (.ref it) s->wpAny (model P w) A (Gi<|.ref it) Q E s
abbrev TI:=St->Hp->(It->Hp->Prop)->Prop
def j3(X:Cx)(AA:tI)(σ:St)(tg:Expr)(R:It->Hp->Prop)(itv:Value)(s2:ξ):Prop :=
 ∃ (it:Addr) (fp:tW) (tn:Nat->Heap->Prop) (J:It) (H':Hp),itv=.ref it/\Inv X AA σ H' s2/\KS X.prog X.w X.K tg J fp it tn/\tn 0 s2.heap/\(∀ b∈fp,FpOk X AA H' b)/\R J H'
def PI(X:Cx)(tg iter:Expr)(wi:TI):Prop :=
 ∀ (AA:tI) (s:ξ) (σ:St) (H:Hp) (R:It->Hp->Prop),Inv X AA σ H s->wi σ H R ->
  wpAny (model X.prog X.w) X.A (eval iter X.env) (λv s1=>wpAny (model X.prog X.w) X.A (Gi v) (j3 X AA σ tg R) X.xe s1) X.xe s
def OT(ho:s.heap.get? it=some o)(hc:o.cls=.type n)(hd:o.data=.fields vs)
    (hn:["enumerate","zip","dict_itemiterator","dict_reverseitemiterator","odict_iterator","itertools.zip_longest","itertools.pairwise"].contains n=false) (hQ:Q () s):wpAny M A (yx tg (.ref it) u) Q E s:=by
  cases tg<;>first
    |exact π hQ
    | (cases u<;>first
        |exact π hQ
        | (refine δ (wpAny_load ho ?_)
           rw[hc,hd]
           show wpAny M A (if(["enumerate","zip","dict_itemiterator","dict_reverseitemiterator","odict_iterator","itertools.zip_longest","itertools.pairwise"].contains n&&vs[0]? == some _)=true then _ else _) Q E s;rw[if_neg (by intro h;rw[hn]at h;cases h)];exact π hQ))
def GB(K:ι)(a:Addr):It :=
 {λi H=>∃ xs x,SqL K H a xs/\xs[i]? =some x,λi H x H'=>H'=H/\∀ xs,SqL K H a xs->xs[i]? =some x,λi H=>∃ xs,SqL K H a xs/\xs.length<=i}
def IL(K:ι)(a:Addr):It :=
 {λi H=>∃ xs x,SqT K H a xs/\xs[i]? =some x,λi H x H'=>H'=H/\∀ xs,SqT K H a xs->xs[i]? =some x,λi H=>∃ xs,SqT K H a xs/\xs.length<=i}
def FO(lo:Int)(n:Nat):It:={λi _=>i<n,λi H x H'=>H'=H/\x=.int (lo+i),λi _=>n<=i}
def Mm{P:bw}{w:World}{K:ι}{tg:Expr}(a it:Addr):KS P w K tg (GB K a) [it] it (λi h=>h.IsListIter it a i) where
 mem:=by simp
 obj:=λi h st b hb=>by
  have e:b=it:=by simpa using hb
  subst e;obtain⟨o,e,c,d⟩:=st;exact{o,e,λv z=>by rw[d]at z;cases z}
 keep:=λi h h' st k=>st.at λo e=>k it (by simp) o e
 item:=by
  intro X hP hw hK hc i AA s σ H E I hf st hg;subst hP hw hK;revert hg;apply u2;rintro xs x ⟨hq,hx⟩;obtain⟨AJ,rv,p,hz⟩:=I.list hq;obtain⟨f0,f1,f2,f3,f4,f5⟩:=hf it (by simp);obtain⟨u,hu,ru⟩:=rv.get hx;refine wpAny_pyNext_list_item st p.isList  (by simpa using hu) λh' st' sb=>?_
  have I1:Inv X _ σ H { s with heap:=h' }:=I.turned  (λb o hb e=>(sb.2 b hb).trans e) f0 f1 f3 f4 f5;obtain⟨o,e,c,d⟩:=id st';exact{u,rfl,OT  e c d (by decide) (x2 x H {I1,ru,{rfl,λys hy=>by rw[I.list_inj hy hq];exact hx},st',λb hb=>(hf b hb).1})}
 done:=by
  rintro X hP hw hK hc i AA s σ H E I hf st ⟨xs,hq,hx⟩;subst hP hw hK;obtain⟨AJ,rv,p,hz⟩:=I.list hq;obtain⟨f0,f1,f2,f3,f4,f5⟩:=hf it (by simp);exact wpAny_pyNext_list_end (I.ok.hd hc) st p.isList (by simp;exact rv.length ▸ hx) λh' eb=>{rfl,I.turned  (λb o hb e=>eb b o hb e) f0 f1 f3 f4 f5}
 self:=λy y y y y st h=>wpAny_pyIter_listiter st h
def Mp{P:bw}{w:World}{K:ι}{tg:Expr}(a it:Addr):KS P w K tg (IL K a) [it] it (λi h=>h.IsTupleIter it a i) where
 mem:=by simp
 obj:=λi h st b hb=>by
  have e:b=it:=by simpa using hb
  subst e;obtain⟨o,e,c,d⟩:=st;exact{o,e,λv z=>by rw[d]at z;cases z}
 keep:=λi h h' st k=>st.at λo e=>k it (by simp) o e
 item:=by
  intro X hP hw hK hc i AA s σ H E I hf st hg;subst hP hw hK;revert hg;apply u2;rintro xs x ⟨hq,hx⟩;obtain⟨AJ,rv,p,hz⟩:=I.tuple hq;obtain⟨f0,f1,f2,f3,f4,f5⟩:=hf it (by simp);obtain⟨u,hu,ru⟩:=rv.get hx;refine wpAny_pyNext_tuple_item st (p)  (by simpa using hu) λh' st' sb=>?_
  have I1:Inv X _ σ H { s with heap:=h' }:=I.turned  (λb o hb e=>(sb.2 b hb).trans e) f0 f1 f3 f4 f5;obtain⟨o,e,c,d⟩:=id st';exact{u,rfl,OT  e c d (by decide) (x2 x H {I1,ru,{rfl,λys hy=>by rw[I.tuple_inj hy hq];exact hx},st',λb hb=>(hf b hb).1})}
 done:=by
  rintro X hP hw hK hc i AA s σ H E I hf st ⟨xs,hq,hx⟩;subst hP hw hK;obtain⟨AJ,rv,p,hz⟩:=I.tuple hq;obtain⟨f0,f1,f2,f3,f4,f5⟩:=hf it (by simp);exact wpAny_pyNext_tuple_end (I.ok.hd hc) st (p) (by simp;exact rv.length ▸ hx) λh' eb=>{rfl,I.turned  (λb o hb e=>eb b o hb e) f0 f1 f3 f4 f5}
 self:=λy y y y y st h=>wpAny_pyIter_tupleiter st h
def Mq{P:bw}{w:World}{K:ι}{tg:Expr}(it:Addr)(lo:Int)(n:Nat):KS P w K tg (FO lo n) [it] it (λi h=>IsRangeIter h it (lo+(i:Nat) * 1) ((n:Int) - (i:Nat)) 1) where
 mem:=by simp
 obj:=λi h st b hb=>by
  have e:b=it:=by simpa using hb
  subst e;exact⟨_,st,λv z=>by
   cases z⟩
 keep:=λi h h' st k=>k it (by simp) _ st
 item:=by
  intro X hP hw hK hc i AA s σ H E I hf st hg;obtain⟨f0,f1,f2,f3,f4,f5⟩:=hf it (by simp);refine(Walks.range   (I.ok.hd hc) it lo 1 n).item i s _ _ hg st λv h' tk hv st' kk=>?_;obtain⟨t,rfl⟩:=hv
  have I1:Inv X _ σ H { s with heap:=h',toks:=tk }:=I.turned (λb o hb e=>kk b o (by simpa using hb) e) f0 f1 f3 f4 f5;refine{_,rfl,OT   st' rfl rfl (by decide) (x2 (.int _) H {I1,{t,?_},⟨rfl,rfl⟩,st',λb hb=>(hf b hb).1})};rw[Int.mul_one]
 done:=by
  intro X hP hw hK hc i AA s σ H E I hf st hg;obtain⟨f0,f1,f2,f3,f4,f5⟩:=hf it (by simp);exact wpAny_pyNext_range_end (I.ok.hd hc) st (by have:n<=i:=hg;lia) λh' eb=>{rfl,I.turned  (λb o hb e=>eb b o hb e) f0 f1 f3 f4 f5}
 self:=λy y y y y st h=>wpAny_pyIter_rangeiter st h
section
variable{X:Cx}{tg:Expr}
def Mv{AA:tI}{σ:St}{H:Hp}{s:ξ}{R:It->Hp->Prop}{E:tQ}{lo hi:Int}{t u v:Tok}{tk:Nat}(I:Inv X AA σ H s)(h1: -(2^62)<=lo)(h2:lo<2^62)(h3: -(2^62)<=hi)(h4:hi<2^62)
  (q:R (FO lo (hi-lo).toNat) H):wpAny (model X.prog X.w) X.A (Gi<|.ref s.heap.objs.size) (j3 X AA σ tg R) E { s with heap:=s.heap.push { cls:=.type "range",data:=.fields #[.int lo t,.int hi u,.int 1 v] },toks:=tk }:=by
 refine wpAny_pyIter_range (IsRange.new ..) (small_one h1 h2 h3 h4) ?_
 have I1:Inv X _ σ H { s with heap:=s.heap.push { cls:=.type "range",data:=.fields #[.int lo t,.int hi u,.int 1 v] },toks:=tk }:=I.kept λb o e=>ο _ e;refine⟨_,_,_,_,H,rfl,
  I1.kept  λb o e=>ο _ e,Mq _ lo _,?_,λb hb=>?_,q⟩
 have e1:lo+((0:Nat))*1=lo:=by simp
 have e2:(((hi-lo).toNat))-((0:Nat))=Mn lo hi 1:=by rw[rangeSize_one];split<;>omega
 rw[e1,e2];exact aw _ rfl
 have e:b=(s.heap.push { cls:=.type "range",data:=.fields #[.int lo t,.int hi u,.int 1 v] }).objs.size:=by simpa using hb
 subst e;exact I1.fpOk (υ _) (I1.hok.fresh<|υ _)
def RR(ta:TA):TI:=λσ H R=>ta σ H λvs H1=>∃ j:Int,vs=[.int j]/\ -(2^62)<=j/\j<2^62/\R (FO 0 j.toNat) H1
def Mw{a:Expr}{ta:TA}{p pos:Pos}(hg:Gl X "range")(hm:X.mg "range"=none)(ha:PA X [a] ta)(hs:ay [a] X.env=[(false,eval a X.env)]:=by rfl):PI X tg (.Call (.Name "range" p) [a] [] pos) (RR ta):=by
 refine λAA s σ H R I h=>Call_<|M8 I hg hm boot_range<|ji (AS (ha _ _ s σ H _ I h) λus s1 hzz=>?_) hs rfl;obtain⟨vs,H1,I1,r1,⟨j,rfl,q1,q2,q⟩⟩:=hzz;cases r1 with
 |cons r rr =>
  cases rr;obtain⟨t,rfl⟩:=r;exact call_range_1 (Mv I1 (by decide) (by decide) q1 q2 (by simpa using q))
def CJ(wi:TI)(g:TG)(tb:TS):TS:=λD σ H=>wi σ H λJ H1=>∃ W:Nat->Nat->St->Hp->Prop,(∃ m,W 0 m σ H1)/\∀ i m σ H,W i m σ H ->
 (J.stop i H/\D.nx σ H)\/(J.go i H/\∃ N:St->Hp->Prop,(∀ σ' H',N σ' H'->∃ m',m'<m/\W (i+1) m' σ' H')/\∀ x H',J.yld i H x H'->g x σ H' λσ2 H2=>tb { D with nx:=N,ct:=N,bk:=D.nx } σ2 H2)
def RS(fp:tW)(h:Heap):tI:=fp.filterMap λb=>(h.get? b).map λo=>(b,o)
def RU(hb:b∈fp)(e:h.get? b=some o):(b,o)∈RS fp h:=ix.mpr {b,hb,by rw[e];rfl}
def Mx(hp:p∈RS fp h):p.1∈fp/\h.get? p.1=some p.2:=by
 obtain⟨b,hb,e⟩:=ix.mp hp;cases q:h.get? b with
 |none=>rw[q]at e;cases e
 |some o =>
  rw[q]at e
  have e':=μ e;subst e';exact⟨hb,q⟩
def Inv.pinned(I:Inv X AA σ H s)(hf:∀ b∈fp,FpOk X AA H b)(ho:∀ b∈fp,∃ o,s.heap.get? b=some o/\∀ v,o.data≠.cell v):Inv X (AA++RS fp s.heap) σ H s :=
 I.pins_of λp hp=>(a_.mp hp).elim (λz=>I.pin p<|ck _ z) λz=>by
  obtain⟨hb,e⟩:=Mx z;obtain⟨f0,f1,f2,y⟩:=hf _ hb;obtain⟨o,e',d⟩:=ho _ hb;rw[e]at e';obtain rfl:=μ e';exact⟨e,f0,f1,f2,d⟩
def Inv.unpinned(I:Inv X (AA++pl) σ H s):Inv X AA σ H s:=I.pins_of λp hp=>I.pin p<|ck _<|i_ _ hp
def My(hp:Mi (model X.prog X.w) X.A X.env X.xe)(hc:X.calm=true)(hi:PI X tg iter wi)(hg:PG X tg g)(hb:E9 X body tb)
  (hs:∀ x,mx iter X.env x=pure x:=by intro z;rfl):PS X (.For tg iter body [] pos) (CJ wi g tb):=by
 refine λAA s σ H D I h=>wpAny_For (AS (hi _ s σ H _ I h) λv s1 h1=>AS h1 λitv s2 h2=>?_) hs;revert h2;apply u5;rintro it fp tn J H2 ⟨rfl,I2,T,st2,f2,W,⟨m0,w0⟩,turn⟩
 have stat:∀ {H':Hp},(∀ b∈fp,H' b=none)->∀ b∈fp,FpOk X _ H' b:=λhn b hb=>{hn b hb,(f2 b hb).2}
 refine codeAny_forLoop_any (λn s'=>∃ i σ' H',Inv X _ σ' H' s'/\tn i s'.heap/\(∀ b∈fp,H' b=none)/\W i n σ' H') ?_ m0 (x3 0 σ H2 {I2,st2,λb hb=>(f2 b hb).1,w0});rintro n s3 ⟨i,σ3,H3,I3,st3,fr3,w3⟩;rcases turn i n _ H3 w3 with⟨stop,qn⟩|⟨go,N,hN,step⟩
 refine jy hp<|AS (T.done X rfl rfl rfl hc i _ s3 _ H3 _ I3 (stat fr3) st3 stop) λr s4 hzz=>?_;obtain⟨rfl,I4⟩:=hzz;exact p_<|x2 _ H3 ⟨I4,qn⟩;refine jy hp<|AS (T.item X rfl rfl rfl hc i _ s3 _ H3 _ I3 (stat fr3) st3 go) λr s4 hzz=>?_;obtain⟨u,rfl,h4⟩:=hzz;refine jy hp<|AS h4 λz s5 hzz=>?_;obtain⟨x,H5,I5,r5,y5,st5,fr5⟩:=hzz;refine jy hp<|AS (hg _ s5 _ H5 x u _ (I5.pinned (stat fr5) (T.obj _ _ st5)) r5 (step x H5 y5)) λz s6 ⟨σ6,H6,I6,q6⟩=>(jy hp<|AS (hb _ s6 _ H6 _ I6 q6) λf s7 q7=>?_)
 have again:∀ {σ7:St} {H7:Hp},Inv X _ _ H7 s7->N _ H7->∃ m,m<n/\∃ i σ' H',Inv X AA σ' H' s7/\tn i _/\(∀ b∈fp,H' b=none)/\W i m σ' H':=λ{σ7 H7} I7 n7=>by
  obtain⟨m',hm,w7⟩:=hN _ H7 n7;refine{m',hm,x3 _ σ7 H7 {I7.unpinned,T.keep _ _ _ st5 λb hb o e=>(I7.pin _<|ck _<|ck _<|RU hb e).1,λb hb=>?_,w7}};obtain⟨o,e,d⟩:=T.obj _ _ st5 b hb;exact(I7.pin _<|ck _<|ck _<|RU hb e).2.1
 cases f with
 |next=>revert q7;apply u2;rintro σ7 H7 ⟨I7,n7⟩;exact again I7 n7
 |cont=>revert q7;apply u2;rintro σ7 H7 ⟨I7,n7⟩;exact again I7 n7
 |brk=>revert q7;apply u2;rintro σ7 H7 ⟨I7,q7⟩;exact x2 _ H7 ⟨I7.unpinned,q7⟩
 |ret v=>revert q7;apply u3;rintro x7 σ7 H7 ⟨I7,r7,q7⟩;exact x3 x7 _ H7 ⟨I7.unpinned,r7,q7⟩
end
abbrev _root_.tO:=Nat->St->Hp->Prop
def Mz{K:PySem.W.Frag}{a:Addr}{xs:Oq}{g:TG}{tb:TS}{D:Ends}{σ:St}{H:Hp}(Pv:tO)(h0:Pv 0 σ H)(hl:∀ i σ H,i<=xs.length->Pv i σ H->SqL K H a xs)
  (hs:∀ i x σ H,xs[i]? =some x->Pv i σ H->g x σ H λσ2 H2=>tb { D with nx:=Pv<|i+1,ct:=Pv<|i+1,bk:=D.nx } σ2 H2) (hd:∀ σ H,Pv xs.length σ H->D.nx σ H) :
  ∃ W:Nat->Nat->St->Hp->Prop,(∃ m,W 0 m σ H)/\∀ i m σ H,W i m σ H ->
   ((GB K a).stop i H/\D.nx σ H)\/((GB K a).go i H/\∃ N:St->Hp->Prop,(∀ σ' H',N σ' H'->∃ m',m'<m/\W (i+1) m' σ' H')/\∀ x H',(GB K a).yld i H x H'->g x σ H' λσ2 H2=>tb { D with nx:=N,ct:=N,bk:=D.nx } σ2 H2):=by
 refine{λi m σ H=>m=xs.length-i/\i<=xs.length/\Pv i σ H,{xs.length,rfl,bv _,h0},?_};rintro i m σ H ⟨rfl,hi,p⟩
 have q:=hl i σ H hi p;by_cases A0:i<xs.length;refine .inr {x2 xs (xs[i]) {q,by simp[A0]},_,λσ' H' p'=>{_,cq ‹_›,rfl,A0,p'},λx H' y=>?_};obtain⟨rfl,y⟩:=y;exact hs i x σ _ (y xs q) p
 have e:i=xs.length:=by lia
 subst e;exact .inl {{xs,q,υ _},hd σ H p}
def Nb{K:PySem.W.Frag}{a:Addr}{xs:Oq}{g:TG}{tb:TS}{D:Ends}{σ:St}{H:Hp}(Pv:tO)(h0:Pv 0 σ H)(hl:∀ i σ H,i<=xs.length->Pv i σ H->SqT K H a xs)
  (hs:∀ i x σ H,xs[i]? =some x->Pv i σ H->g x σ H λσ2 H2=>tb { D with nx:=Pv<|i+1,ct:=Pv<|i+1,bk:=D.nx } σ2 H2) (hd:∀ σ H,Pv xs.length σ H->D.nx σ H) :
  ∃ W:Nat->Nat->St->Hp->Prop,(∃ m,W 0 m σ H)/\∀ i m σ H,W i m σ H ->
   ((IL K a).stop i H/\D.nx σ H)\/((IL K a).go i H/\∃ N:St->Hp->Prop,(∀ σ' H',N σ' H'->∃ m',m'<m/\W (i+1) m' σ' H')/\∀ x H',(IL K a).yld i H x H'->g x σ H' λσ2 H2=>tb { D with nx:=N,ct:=N,bk:=D.nx } σ2 H2):=by
 refine{λi m σ H=>m=xs.length-i/\i<=xs.length/\Pv i σ H,{xs.length,rfl,bv _,h0},?_};rintro i m σ H ⟨rfl,hi,p⟩
 have q:=hl i σ H hi p;by_cases A0:i<xs.length;refine .inr {x2 xs (xs[i]) {q,by simp[A0]},_,λσ' H' p'=>{_,by omega,rfl,A0,p'},λx H' y=>?_};obtain⟨rfl,y⟩:=y;exact hs i x σ _ (y xs q) p
 have e:i=xs.length:=by lia
 subst e;exact .inl {{xs,q,υ _},hd σ H p}
def Nd{lo:Int}{n:Nat}{g:TG}{tb:TS}{D:Ends}{σ:St}{H:Hp}(Pv:tO)(h0:Pv 0 σ H)
  (hs:∀ i σ H,i<n->Pv i σ H->g (.int<|lo+i) σ H λσ2 H2=>tb { D with nx:=Pv<|i+1,ct:=Pv<|i+1,bk:=D.nx } σ2 H2) (hd:∀ σ H,Pv n σ H->D.nx σ H) :
  ∃ W:Nat->Nat->St->Hp->Prop,(∃ m,W 0 m σ H)/\∀ i m σ H,W i m σ H ->
   ((FO lo n).stop i H/\D.nx σ H)\/((FO lo n).go i H/\∃ N:St->Hp->Prop,(∀ σ' H',N σ' H'->∃ m',m'<m/\W (i+1) m' σ' H')/\∀ x H',(FO lo n).yld i H x H'->g x σ H' λσ2 H2=>tb { D with nx:=N,ct:=N,bk:=D.nx } σ2 H2):=by
 refine{λi m σ H=>m=n-i/\i<=n/\Pv i σ H,{n,rfl,bv _,h0},?_};rintro i m σ H ⟨rfl,hi,p⟩;by_cases A0:i<n;refine .inr {A0,_,λσ' H' p'=>{_,cq ‹_›,rfl,A0,p'},λx H' y=>?_};obtain⟨e,y⟩:=y;subst e y;exact hs i σ _ A0 p
 have e:i=n:=by lia
 subst e;exact .inl {υ _,hd σ H p}
abbrev R2:=V->V->Hp->VK->Prop
abbrev _root_.tG:=Value->Value->Sem Value
def B9(X:Cx)(f:tG)(r:R2):Prop :=
 ∀ (AA:tI) (s:ξ) (σ:St) (H:Hp) (x y:V) (v u:Value) (Q:VK),Inv X AA σ H s->RelV x v->RelV y u->r x y H Q ->
  wpAny (model X.prog X.w) X.A (f v u) (EP X AA σ Q) X.xe s
def RV(X:Cx)(f:Value->Sem Value)(r:V->Hp->VK->Prop):Prop :=
 ∀ (AA:tI) (s:ξ) (σ:St) (H:Hp) (x:V) (v:Value) (Q:VK),Inv X AA σ H s->RelV x v->r x H Q ->
  wpAny (model X.prog X.w) X.A (f v) (EP X AA σ Q) X.xe s
def EB(X:Cx)(f:Value)(r:Oq->Hp->VK->Prop):Prop :=
 ∀ (AA:tI) (s:ξ) (σ:St) (H:Hp) (xs:Oq) (us:sV) (Q:VK),Inv X AA σ H s->Vals xs us->r xs H Q ->
  wpAny (model X.prog X.w) X.A (call f us) (EP X AA σ Q) X.xe s
def Ng(X:Cx)(r:V->Hp->(Bool->Hp->Prop)->Prop):Prop :=
 ∀ (AA:tI) (s:ξ) (σ:St) (H:Hp) (x:V) (v:Value) (Q:ZQ),Inv X AA σ H s->RelV x v->r x H Q ->
  wpAny (model X.prog X.w) X.A (truthy v) (TP X AA σ Q) X.xe s
def AD(r:R2)(ta tb:TE):TE:=λσ H Q=>ta σ H λx H1=>tb σ H1 λy H2=>r x y H2 Q
def M9(r:V->Hp->VK->Prop)(ta:TE):TE:=λσ H Q=>ta σ H λx H1=>r x H1 Q
def rI(C:Int->Int->Prop)(g:Int->Int->V):R2:=λx y H Q=>∃ i j,x=.int i/\y=.int j/\C i j/\Q (g i j) H
def JT(g:Int->Int->V):R2:=λx y H Q=>∃ i j,x=.int i/\y=.int j/\Q (g i j) H
def rU(g:Int->V):V->Hp->VK->Prop:=λx H Q=>∃ i,x=.int i/\Q (g i) H
section
variable{X:Cx}{a b c:Expr}{ta tb tc:TE}{pos:Pos}
def VE(ha:PE X a ta)(hb:PE X b tb){R:V->V->Hp->Prop}(I:Inv X AA σ H s)
  (h:ta σ H λx H1=>tb σ H1 λy H2=>R x y H2) {Q:tQ} {f:tG}
  (hf:∀ v u s2 x y H2,Inv X AA σ H2 s2->RelV x v->RelV y u->R x y H2->wpAny (model X.prog X.w) X.A (f v u) Q X.xe s2) :
  wpAny (model X.prog X.w) X.A (eval a X.env) (λv s₁=>wpAny (model X.prog X.w) X.A (eval b X.env) (λu s₂=>wpAny (model X.prog X.w) X.A (f v u) Q X.xe s₂) X.xe s₁) X.xe s:=AS (ha _ s σ H _ I h) λv s1 ⟨x,H1,I1,r1,q1⟩=>(AS (hb _ s1 σ H1 _ I1 q1) λu s2 ⟨y,H2,I2,r2,q2⟩=>(hf v u s2 x y H2 I2 r1 r2 q2))
def OU{r:R2}(ho:B9 X (iq op) r)(ha:PE X a ta)(hb:PE X b tb):PE X (.BinOp a op b pos) (AD r ta tb):=λAA s σ H Q I h=>wpAny_BinOp<|VE ha hb I h λv u s2 x y H2 I2 rx ry q=>ho _ s2 σ H2 x y v u Q I2 rx ry q
def Nh(ho:RV X (unaryOp op) r)(ha:PE X a ta):PE X (.UnaryOp op a pos) (M9 r ta):=λAA s σ H Q I h=>UnaryOp_ (AS (ha _ s σ H _ I h) (by rintro v s1 ⟨x,H1,I1,r1,q1⟩;exact ho _ s1 σ H1 x v Q I1 r1 q1))
def VF{f:tG}{C:Int->Int->Prop}{g:Int->Int->Int}
  (rule:∀ (i j:Int) (t u:Tok) (s:ξ) (Q:tQ) (E:tQ),C i j->Q (.int (g i j) s.toks) { s with toks:=s.toks+1 }->wpAny (model X.prog X.w) X.A (f (.int i t) (.int j u)) Q E s) :
  B9 X f (rI C λi j=>.int<|g i j):=by
 intro AA s σ H x y v u Q I rx ry h;revert h;apply u2;rintro i j ⟨rfl,rfl,hc,q⟩;obtain⟨t,rfl⟩:=rx;obtain⟨t',rfl⟩:=ry;exact rule i j t t' s _ _ hc<|x2 (.int _) H {I.tok _,⟨_,rfl⟩,q}
def j4{f:tG}{g:Int->Int->Int}
  (rule:∀ (i j:Int) (t u:Tok) (s:ξ) (Q:tQ) (E:tQ),Q (.int (g i j) s.toks) { s with toks:=s.toks+1 }->wpAny (model X.prog X.w) X.A (f (.int i t) (.int j u)) Q E s) :
  B9 X f (JT λi j=>.int<|g i j):=by
 intro AA s σ H x y v u Q I rx ry h;revert h;apply u2;rintro i j ⟨rfl,rfl,q⟩;obtain⟨t,rfl⟩:=rx;obtain⟨t',rfl⟩:=ry;exact rule i j t t' s _ _<|x2 (.int _) H {I.tok _,⟨_,rfl⟩,q}
def VG{f:tG}{g:Int->qW}
  (rule:∀ (i j:Int) (t u:Tok) (s:ξ) (Q:tQ) (E:tQ),Q (.bool<|g i j) s->wpAny (model X.prog X.w) X.A (f (.int i t) (.int j u)) Q E s) :
  B9 X f (JT λi j=>.bl<|g i j):=by
 intro AA s σ H x y v u Q I rx ry h;revert h;apply u2;rintro i j ⟨rfl,rfl,q⟩;obtain⟨t,rfl⟩:=rx;obtain⟨t',rfl⟩:=ry;exact rule i j t t' s _ _<|x2 (.bl _) H ⟨I,rfl,q⟩
def j5(i j:Int):Prop:=0<j/\j<1073741824
def Nj(i j:Int):Prop:=0<=j/\j<=1000000/\i.natAbs<2^64
def CMul(i j:Int):Prop:=(-(2^64)<i/\i<2^64)\/(-(2^64)<j/\j<2^64)
def CMul.ok(h:CMul i j):IntMulOk i j:=by
 rcases h with⟨h1,h2⟩|⟨h1,h2⟩
 exact .of_left<|intBits_le_64 h1 h2;exact .of_right<|intBits_le_64 h1 h2
def Nk:B9 X (iq .Add) (JT λi j=>.int<|i+j):=j4 λz z z z z z z q=>add_int q
def Nl:B9 X (iq .Sub) (JT λi j=>.int<|i-j):=j4 λz z z z z z z q=>sub_int q
def Np:B9 X (iq .Mult) (rI CMul λi j=>.int<|i*j):=VF λz z z z z z z hc q=>mul_int q hc.ok
def Nq:B9 X (iq .FloorDiv) (rI j5 λi j=>.int<|i/j):=VF λi j z z z z z hc q=>by
 have h1:=hc.1
 have h2:=hc.2;exact floordiv_int (by omega) (by rw[Int.fdiv_eq_ediv_of_nonneg i (No ‹_›)];exact q) (.inl (PyProof.noPylong_small (by omega)))
def Nv:B9 X (iq .Mod) (rI (λ_ j=>0<j) λi j=>.int<|i%j):=VF λi j z z z z z hc q=>mod_int' (by lia) (by rw[Int.fmod_eq_emod_of_nonneg i (No ‹_›)];exact q)
def Nx{f:Value->Sem Value}{g:Int->Int}
  (rule:∀ (i:Int) (t:Tok) (s:ξ) (Q:tQ) (E:tQ),Q (.int (g i) s.toks) { s with toks:=s.toks+1 }->wpAny (model X.prog X.w) X.A (f<|.int i t) Q E s) :
  RV X f (rU λi=>.int<|g i):=by
 rintro AA s σ H x v Q I rx ⟨i,rfl,q⟩;obtain⟨t,rfl⟩:=rx;exact rule i t s _ _<|x2 (.int _) H {I.tok _,⟨_,rfl⟩,q}
def Ny:RV X (unaryOp .USub) (rU λi=>.int (-i)):=Nx λz z z z z q=>neg_int q
end
section
variable{X:Cx}{a b c:Expr}{ta tb tc:TE}{pos:Pos}
def GD(I:Inv X AA σ H s)(q:Q (.bl k) H)(e:k=k'):EP X AA σ Q (.bool k') s:=by
 subst e;exact x2 (.bl k) H ⟨I,rfl,q⟩
def Nz:B9 X (du .Lt) (JT λi j=>.bl<|decide<|i<j):=VG λz z z z z z z q=>lt_int q
def Pb:B9 X (du .LtE) (JT λi j=>.bl<|decide<|i<=j):=VG λz z z z z z z q=>le_int q
def Pc:B9 X (du .Gt) (JT λi j=>.bl<|decide<|j<i):=VG λz z z z z z z q=>gt_int q
def Pd:B9 X (du .Is) (λx y H Q=>y=.non/\Q (.bl<|decide<|x=.non) H):=by
 rintro AA s σ H x y v u Q I rx ry ⟨rfl,q⟩;subst ry;refine is_none_gen<|GD I q ?_;cases x<;>first
  |(rfl)
  |(obtain⟨t,rfl⟩:=rx;rfl)
def Pg:B9 X (du .IsNot) (λx y H Q=>y=.non/\Q (.bl<|!decide (x=.non)) H):=by
 rintro AA s σ H x y v u Q I rx ry ⟨rfl,q⟩;subst ry;refine isnot_none_gen<|GD I q ?_;cases x<;>first
  |(rfl)
  |(obtain⟨t,rfl⟩:=rx;rfl)
def KU(b:Expr)(h:op≠.In:=by decide)(h2:op≠.NotIn:=by decide):mq op b=false:=by
 have e1:(op==CmpOp.In)=false:=by cases op<;>first|rfl|exact absurd rfl h
 have e2:(op==Nu)=false:=by cases op<;>first|rfl|exact absurd rfl h2
 cases b<;>simp[mq,e1,e2]
def j6{r:R2}(ho:B9 X (du op) r)(ha:PE X a ta)(hb:PE X b tb)(hm:mq op b=false):PE X (.Compare a [op] [b] pos) (AD r ta tb):=λAA s σ H Q I h=>wpAny_Compare1 (VE ha hb I h λv u s2 x y H2 I2 rx ry q=>ho _ s2 σ H2 x y v u Q I2 rx ry q) hm
def LY(t:TE):TT:=λσ H Q=>t σ H λx H'=>∃ k,x=.bl k/\Q k H'
def KW(ho:B9 X (du op) r)(ha:PE X a ta)(hb:PE X b tb)(hm:mq op b=false):PT X (.Compare a [op] [b] pos) (LY<|AD r ta tb):=by
 intro AA s σ H Q I h;refine ze (AS (ha _ s σ H _ I h) λv s1 ⟨x,H1,I1,r1,q1⟩=>AS (hb _ s1 σ H1 _ I1 q1) λu s2 ⟨y,H2,I2,r2,q2⟩ =>
  AS (ho _ s2 σ H2 x y v u _ I2 r1 r2 q2) λc s3 hzz=>?_) hm
 obtain⟨z,H3,I3,r3,k,e,q3⟩:=hzz;subst e;subst r3;exact jc ⟨H3,I3,q3⟩
def LZ(r r':R2)(ta tb tc:TE):TE:=λσ H Q=>ta σ H λx H1=>tb σ H1 λy H2=>r x y H2 λz H3=>∃ k,z=.bl k /\
 (if k=true then tc σ H3 λw' H4=>r' y w' H4 Q else Q (.bl false) H3)
def Ph(ho:B9 X (du op) r)(ho':B9 X (du op') r')(ha:PE X a ta)(hb:PE X b tb)(hc:PE X c tc)
  (hm:lastMarks [op,op'] [b,c]=false:=by with_unfolding_all rfl):PE X (.Compare a [op,op'] [b,c] pos) (LZ r r' ta tb tc):=by
 intro AA s σ H Q I h;refine Compare_chain (AS (ha _ s σ H _ I h) λv s1 ⟨x,H1,I1,r1,q1⟩=>chain_link (AS (hb _ s1 σ H1 _ I1 q1) λu s2 ⟨y,H2,I2,r2,q2⟩ =>
  AS (ho _ s2 σ H2 x y v u _ I2 r1 r2 q2) λd s3 hzz=>?_)) hm
 obtain⟨z,H3,I3,r3,k,e,q3⟩:=hzz;subst e;subst r3;refine jc ?_;cases k with
 |false=>exact ite_ff<|x2 (.bl _) H3 ⟨I3,rfl,q3⟩
 |true=>exact ite_tt (chain_last (AS (hc _ s3 σ H3 _ I3 q3) (by rintro w' s4 ⟨z',H4,I4,r4,q4⟩;exact ho' _ s4 σ H4 y z' u w' Q I4 r2 r4 q4)))
def Pj(ho:B9 X (du op) r)(ho':B9 X (du op') r')(ha:PE X a ta)(hb:PE X b tb)(hc:PE X c tc)
  (hm:lastMarks [op,op'] [b,c]=false:=by with_unfolding_all rfl):PT X (.Compare a [op,op'] [b,c] pos) (LY<|LZ r r' ta tb tc):=by
 intro AA s σ H Q I h;refine isTrue_chain (AS (ha _ s σ H _ I h) λv s1 ⟨x,H1,I1,r1,q1⟩=>test_link (AS (hb _ s1 σ H1 _ I1 q1) λu s2 ⟨y,H2,I2,r2,q2⟩ =>
  AS (ho _ s2 σ H2 x y v u _ I2 r1 r2 q2) λd s3 hzz=>?_)) hm
 obtain⟨z,H3,I3,r3,k,e,q3⟩:=hzz;subst e;subst r3;refine jc ?_;cases k with
 |false =>
  obtain⟨k',e',q'⟩:=q3;cases e';exact ite_ff ⟨H3,I3,q'⟩
 |true =>
  refine ite_tt<|test_last<|AS (hc _ s3 σ H3 _ I3 q3) λw' s4 ⟨z',H4,I4,r4,q4⟩=>AS (ho' _ s4 σ H4 y z' u w' _ I4 r2 r4 q4) λd' s5 hzz=>?_;obtain⟨z2,H5,I5,r5,k2,rfl,q5⟩:=hzz;subst r5;exact jc ⟨H5,I5,q5⟩
def IM(K:ι)(x:V)(H:Hp)(k:Bool):Prop :=
 match x with
 |.non=>k=false
 |.bl b=>k=b
 |.int i=>k=(i != 0)
 |.str y=>y.length<=sizeLine/\k=((y.length:Int) != 0)
 |.byt y=>y.size<=sizeLine/\k=((y.size:Int) != 0)
 |.ref p=>(∃ xs,SqL K H p xs/\k= !xs.isEmpty)\/(∃ xs,SqT K H p xs/\k= !xs.isEmpty)\/∃ kvs,H p=some (.dK kvs)/\k= !kvs.isEmpty
 |_=>False
def Pk{κ :Type}{kvs:List (κ × V)}{vs:List (κ × Value)}(r:KV kvs vs):(!vs.isEmpty)= !kvs.isEmpty:=by
 cases r<;>rfl
def j7{xs:Oq}{AJ:sV}(r:Vals xs AJ):(!AJ.toArray.isEmpty)= !xs.isEmpty:=by
 cases r<;>simp
def OV:(sizeLine:Nat)<2^63:=by decide
def j9:Ng X (λx H Q=>∃ k,IM X.K x H k/\Q k H):=by
 have hs:=sx;rintro AA s σ H x v Q I rx ⟨k,e,q⟩;cases x with
 |non =>
  subst e;subst rx;exact truthy_none ⟨H,I,q⟩
 |bl b =>
  subst rx;subst e;exact jc ⟨H,I,q⟩
 |int i =>
  obtain⟨t,rfl⟩:=rx;subst e;exact PySem.P.truthy_int ⟨H,I,q⟩
 |str y =>
  obtain⟨t,rfl⟩:=rx;obtain⟨hy,e'⟩:y.length<=sizeLine/\k=((y.length:Int) != 0):=e;subst e';exact PySem.P.truthy_str (by omega) {H,I.tok _,q}
 |byt y =>
  obtain⟨t,rfl⟩:=rx;obtain⟨hy,e'⟩:y.size<=sizeLine/\k=((y.size:Int) != 0):=e;subst e';exact W.truthy_bytes (oA hy rfl) {H,I.tok _,q}
 |ref p =>
  cases rx
  have e':(∃ xs,SqL X.K H p xs/\k= !xs.isEmpty)\/(∃ xs,SqT X.K H p xs/\k= !xs.isEmpty)\/∃ kvs,H p=some (.dK kvs)/\k= !kvs.isEmpty:=e;rcases e' with⟨xs,hx,e'⟩|⟨xs,hx,e'⟩|⟨kvs,hx,e'⟩
  ·subst e';obtain⟨AJ,r,pl,hz⟩:=I.list hx
   have CG:=r.length;exact wpAny_truthy_list pl.isList (by simp only[az];omega) {H,I.tok _,by rw[j7 r];exact q}
  ·subst e';obtain⟨AJ,r,pl,hz⟩:=I.tuple hx
   have CG:=r.length;exact truthy_tuple pl (by simp only[az];omega) {H,I.tok _,by rw[j7 r];exact q}
  ·subst e';obtain⟨hz,hS,vs,r,m⟩:kvs.length<=sizeLine/\(p==iw)=false/\∃ vs,KV kvs vs/\s.heap.DictOf (EH X.prog X.w) p vs:=I.hok p _ hx
   have CG:kvs.length=vs.length:=Paired.length r;exact wpAny_truthy_dict hS m (by omega) {H,I.tok _,by rw[Pk r];exact q}
 |_=>exact(show False from e).elim
def Pl(ha:PE X a ta)(he:∀ whole,Na a X.env whole=(do let v ← whole;yg a.pos;tq [v] (truthy v))) :
  PT X a (λσ H Q=>ta σ H λx H'=>∃ k,IM X.K x H' k/\Q k H'):=λAA s σ H Q I h=>isTrue_plain (AS (ha _ s σ H _ I h) (by rintro v s1 ⟨x,H1,I1,r1,q1⟩;exact j9 _ s1 σ H1 x v Q I1 r1 q1)) (he _)
def Pm:B9 X (iq .Add) (λx y H Q=>∃ i j,x=.str i/\y=.str j/\i.length+j.length<=sizeLine/\Q (.str<|i++j) H):=by
 intro AA s σ H x y v u Q I rx ry h;revert h;apply u2;rintro i j ⟨rfl,rfl,hz,q⟩;obtain⟨t,rfl⟩:=rx;obtain⟨t',rfl⟩:=ry;exact add_str (λt' tk=>x2 (.str _) H {I.tok _,⟨_,rfl⟩,q}) hz
def GQ(r:Vals [x] us):∃ u,us=[u]/\RelV x u:=by
 cases r with
 |cons r1 r2=>cases r2;exact⟨_,rfl,r1⟩
def Pp:EB X (.type "int") (λxs H Q=>(∃ i,xs=[.int i]/\Q (.int i) H)\/∃ k,xs=[.bl k]/\Q (.int<|if k then 1 else 0) H):=by
 intro AA s σ H xs us Q I r h;rcases h with⟨i,rfl,q⟩|⟨k,rfl,q⟩
 obtain⟨u,rfl,t,rfl⟩:=GQ r;exact call_int_int<|x2 (.int i) H {I,⟨_,rfl⟩,q};obtain⟨u,rfl,rfl⟩:=GQ r;exact call_int_bool<|x2 (.int _) H {I.tok _,⟨_,rfl⟩,q}
def Pq:EB X (.builtin "ord") (λxs H Q=>∃ x,xs=[.str x]/\x.length=1/\Q (.int (x.cps.getD 0 0:Nat)) H):=by
 rintro AA s σ H xs us Q I r ⟨x,rfl,hz,q⟩;obtain⟨u,rfl,t,rfl⟩:=GQ r;exact ord_of_one hz<|x2 (.int _) H {I.tok _,⟨_,rfl⟩,q}
def RW(K:ι)(x:V)(H:Hp)(n:Nat):Prop :=
 match x with
 |.str y=>y.length<=sizeLine/\n=y.length
 |.byt y=>y.size<=sizeLine/\n=y.size
 |.ref p=>(∃ xs,SqL K H p xs/\n=xs.length)\/∃ xs,SqT K H p xs/\n=xs.length
 |_=>False
def Pw:EB X (.builtin "len") (λxs H Q=>∃ x n,xs=[x]/\RW X.K x H n/\Q (.int n) H):=by
 intro AA s σ H xs us Q I r h;revert h;apply u2;rintro x n ⟨rfl,e,q⟩;obtain⟨u,rfl,rx⟩:=GQ r
 have hs:=sx;cases x with
 |str y =>
  obtain⟨t,rfl⟩:=rx;obtain⟨hy,rfl⟩:y.length<=sizeLine/\n=y.length:=e;exact len_str (by omega) (x2 (.int _) H {I.tok _,⟨_,rfl⟩,q})
 |byt y =>
  obtain⟨t,rfl⟩:=rx;obtain⟨hy,rfl⟩:y.size<=sizeLine/\n=y.size:=e;exact W.len_bytes (oA hy rfl) (x2 (.int _) H {I.tok _,⟨_,rfl⟩,q})
 |ref p =>
  subst rx
  have e':=e;rcases e' with⟨xs,hx,e'⟩|⟨xs,hx,e'⟩
  subst e';obtain⟨AJ,r',pl,hz⟩:=I.list hx
  have CG:=r'.length;exact Calls.call_len_list pl.isList (by simp only[az];omega) (x2 (.int _) H {I.tok _,{_,by simp only[az];rw[CG]},q});subst e';obtain⟨AJ,r',pl,hz⟩:=I.tuple hx
  have CG:=r'.length;exact len_tuple pl (by simp only[az];omega) (x2 (.int _) H {I.tok _,{_,by simp only[az];rw[CG]},q})
 |_=>exact(e).elim
end
structure ObjM(h:Heap)(x dx C:Addr)(mA:UN):Prop where
 obj:h.get? x=some (uk C dx)
 ns:h.Ns1 dx mA
 ne:dx≠x
set_option tactic.hygienic true in
def Px{h:Heap}{mA:UN}(n:h.Ns1 dx mA):∃ od,h.get? dx=some od/\∀ name,Kf name od=some (mA name):=by
 revert n;apply u3;rintro o es ep ⟨ho,hd,hk,_,hm⟩;refine{o,ho,λname=>?_}
 have e:=hm name;unfold nsFind findBy at e;rw[<-wf]at e;unfold Kf;rw[hd];dsimp only;split
 ·rename_i y q;rw[q]at e;exact congrArg some e
 ·rename_i q;rw[q]at e
  have a:es.toList.any (·.refKey)=false:=by
   rw[w_];refine λy hy=>u2 ?_<|hk y<|Array.mem_toList_iff.mp hy;rintro z t hkey;simp[Gn,hkey]
  rw[if_neg (by rw[a];exact ax)];exact congrArg some e
def ObjM.look(I:ObjM h x dx C mA):∃ od,Ki h x (uk C dx) C (some od)/\∀ name,Kf name od=some (mA name) :=
 let ⟨od,ho,hl⟩:=Px I.ns
 {od,⟨I.obj,rfl,rfl,ho⟩,hl}
section
variable{prog:bw}{w:World}{A:dk}{E:tQ}{s:ξ}{K:ι}{x dx C f:Addr}{mA:UN}{name:Str}{v:Value}
def Py(X:K.In s.heap)(I:ObjM s.heap x dx C mA)(hg:yh K C name=true)(hh:zj K C=true)
  (ha:ca K (.ref C) name=some none) (hv:mA name=some v) (hv':W.handedIn v=true) (h:Q v { s with toks:=s.toks+1 }) :
  wpAny (model prog w) A (getAttr (.ref x) name expr) Q E s:=by
 obtain⟨od,J,hl⟩:=I.look;exact W.get_value X J (Bo hg).1 (W.findObj_own hh ha rfl (by rw[hl,hv])) hv' h
def Pz(X:K.In s.heap)(I:ObjM s.heap x dx C mA)(hg:yh K C name=true)
  (hf:ca K (.ref C) name=some (some<|.ref f)) (ht:Kn K (.ref f)=true) (hv:mA name=none) (h:Q (.ref f,[.ref x]) s) :
  wpAny (model prog w) A (ul (.ref x) name pl) Q E s:=by
 obtain⟨od,J,hl⟩:=I.look;exact W.method_fn X J (Bo hg).1 (Bo hg).2 hf (beq_iff_eq.mp ht) (by show(Kf _ od).map _=some _;rw[hl,hv];rfl) h
def Qb(X:K.In s.heap)(I:ObjM s.heap x dx C mA)
  (hs:ca K (.ref C) "__setattr__"=some (some<|.builtin "object.__setattr__")) (hp:Iq K C=true) (ht:Mo K C name=some none) (hh:zj K C=true)
  (hw:PySem.Within mA ns) (hsz:ns.length<=sizeLine)
  (h:∀ h',ObjM h' x dx C (λy=>if y=name then some v else mA y)->gj dx s.heap h'->Q () { s with heap:=h',toks:=s.toks+2 }) :
  wpAny (model prog w) A (setAttr (.ref x) name v) Q E s:=by
 obtain⟨od,J,hl⟩:=I.look;obtain⟨cd,hc,hd'⟩:=W.any_some hh;refine W.set_plain X J hs<|W.osa_open   X J hp ht λb=>(δ<|π<|δ<|δ<|zk I.obj<|δ<|W.Looks.here  (W.looks_clsIn X hc) ?_);rw[hd'];refine π  (δ<|π<|δ<|wpAny_nsSet1  I.ns λh' hn2 hs2=>(u3 ?_<|hn2.count<|PySem.Within.cons _ v hw));rintro oD esD epD ⟨hoD,hdD,hcD⟩;exact δ (wpAny_lookBehind hoD (by rw[hdD];exact pastItsLine_dict<|ω hcD<|xa hsz) (π<|h _ {(hs2.2 _<|eh I.ne).trans I.obj,hn2,I.ne} hs2))
def Qc(X:K.In s.heap)(hm:Go K C=true)
  (hi:ca K (.ref C) "__init__"=some (some<|.ref f)) (hf:W.typeIn K (.ref f)=some (.type "function"))
  (h:uw (model prog w) (A.under<|.builtin "type.__call__" {.ref C::vs,kw}) (.call (.ref f) {.ref (s.heap.objs.size+1)::vs,kw}) (W.InitBack (s.heap.objs.size+1) R)
   { s with heap:=(s.heap.push xb).push (uk C s.heap.objs.size) }) :
  uw (model prog w) A (.call (.ref C) ⟨vs,kw⟩) R s:=W.make_core (W.makes_of X hm) (zl X hi) (λself=>W.bind_fn X _ hf) (.inl rfl) h
end
def BQ(f:Str)(v:V):ZP->ZP
 | []=>[(f,v)]
 |(g,x)::r=>if g=f then(g,v)::r else(g,x)::BQ f v r
theorem kA(f g:Str)(v:V):∀ fs:ZP,(BQ f v fs).lookup g=if g=f then some v else fs.lookup g
 | []=>by
  show gx g [(f,v)]=_;by_cases h:g=f;simp only[gx,(beq_iff_eq.mpr h),if_pos h];simp only[gx,(beq_eq_false_iff_ne.mpr h),if_neg h]
 |(k,x)::r=>by
  rw[show BQ f v _=(if k=f then(k,v)::r else(k,x)::BQ f v r)from rfl];by_cases hk:k=f;rw[if_pos hk];by_cases h:g=k;simp only[gx,(beq_iff_eq.mpr h),if_pos<|h.trans hk];simp only[gx,(beq_eq_false_iff_ne.mpr h),if_neg (λe:g=f=>h<|e.trans hk.symm)];rw[if_neg hk];by_cases h:g=k;simp only[gx,(beq_iff_eq.mpr h),if_neg (λe:g=f=>hk<|h.symm.trans e)];simp only[gx,(beq_eq_false_iff_ne.mpr h)];exact(kA f g v r)
theorem VH(f:Str)(v:V):∀ fs:ZP,f∈(BQ f v fs).map (·.1)/\∀ g,g∈fs.map (·.1)->g∈(BQ f v fs).map (·.1)
 | []=>{by simp[BQ],λg h=>by simp at h}
 |(k,x)::r=>by
  obtain⟨i1,i2⟩:=VH f v r;rw[show BQ f v _=(if k=f then(k,v)::r else(k,x)::BQ f v r)from rfl];by_cases hk:k=f;subst hk;exact{by simp,λg h=>by simpa using h};rw[if_neg hk];refine{(ρ _ i1),λg h=>?_};rcases aj.mp h with e|e
  exact aj.mpr<|.inl e;exact ρ _<|i2 g e
theorem OW(f:Str)(v:V):∀ fs:ZP,(BQ f v fs).length<=fs.length+1
 | []=>by simp[BQ]
 |(k,x)::r=>by
  rw[show BQ f v _=(if k=f then(k,v)::r else(k,x)::BQ f v r)from rfl];by_cases hk:k=f;rw[if_pos hk];exact jm _;rw[if_neg hk];exact xa<|OW f v r
def RelO.some_of(r:RelO (some v) o):∃ u,o=some u/\RelV v u:=by
 cases o with
 |none=>exact(r).elim
 |some u=>exact⟨u,rfl,r⟩
def RelO.none_of(r:RelO none o):o=none:=by
 cases o with
 |none=>rfl
 |some u=>exact(r).elim
def Qd(r:RelV v u):W.handedIn u=true:=by
 cases v with
 |non=>cases (r);rfl
 |bl b=>cases (r);rfl
 |int i=>obtain⟨t,rfl⟩:=(r);rfl
 |str x=>obtain⟨t,rfl⟩:=(r);rfl
 |byt b=>obtain⟨t,rfl⟩:=(r);rfl
 |flt b=>obtain⟨t,rfl⟩:=(r);rfl
 |ref a=>cases (r);rfl
 |ty n=>cases (r);rfl
section
variable{P:bw}{w:World}{H H':Hp}{h h':Heap}{a C dx:Addr}{fs fs':ZP}
def RX(hok:HOk P w H h)(e:H a=some (.ins C dx fs)):∃ mA,ObjM h a dx C mA/\(∀ f,RelO (fs.lookup f) (mA f))/\PySem.Within mA (fs.map (·.1))/\fs.length<=1000/\H dx=some (.own a):=by
 obtain⟨d,z,ne,ob,mA,n,r,q⟩:=(hok a _ e)
 exact{mA,⟨ob,n,ne⟩,r,q,z,d}
end
structure Cls(K:ι)(C:Addr):Prop where
 pg:yh K C Mr=true
 hd:zj K C=true
 po:Iq K C=true
 sa:ca K (.ref C) "__setattr__"=some (some<|.builtin "object.__setattr__")
def Cls.get{K:ι}{C:Addr}(c:Cls K C)(f:Str):yh K C f=true:=c.pg
def NoAttr(K:ι)(C:Addr)(f:Str):Prop:=ca K (.ref C) f=some none
def NoAttr.taker{K:ι}{C:Addr}{f:Str}(n:NoAttr K C f):Mo K C f=some none:=by
 unfold Mo;rw[n]
 rfl
structure Con(K:ι)(C:Addr)(f:Str)(v:V)(u:Value):Prop where
 at_:ca K (.ref C) f=some (some u)
 rel:RelV v u
 get:xc K u "__get__"=some none
 cp:W.copiedNames.contains f=false
structure RY(K:ι)(C:Addr)(m:Str)(f:Addr):Prop where
 at_:ca K (.ref C) m=some (some<|.ref f)
 fn:Kn K (.ref f)=true
 kp:pi K (.ref f)=true
section
variable{X:Cx}{AA:tI}{σ:St}{H:Hp}{s:ξ}{a C dx:Addr}{fs:ZP}{f:Str}{v:V}{A:dk}{E:tQ}
def kB(I:Inv X AA σ H s)(e:H a=some (.ins C dx fs))(c:Cls X.K C)(n:NoAttr X.K C f)(l:fs.lookup f=some v)
  (h:∀ u s',Inv X AA σ H s'->RelV v u->Q u s'):wpAny (model X.prog X.w) A (getAttr (.ref a) f b) Q E s:=by
 obtain⟨mA,O,r,z,z,z⟩:=RX I.hok e;obtain⟨u,hu,ru⟩:=RelO.some_of   (by rw[<-l];exact r f);exact Py I.kIn O (c.get f) c.hd n hu (Qd ru) (h u _ (I.tok _) ru)
def kC(I:Inv X AA σ H s)(e:H a=some (.ins C dx fs))(c:Cls X.K C)(k:RY X.K C m g)(l:fs.lookup m=none)
  (h:Q (.ref g,[.ref a]) s):wpAny (model X.prog X.w) A (ul (.ref a) m pl) Q E s:=by
 obtain⟨mA,O,r,z,z,z⟩:=RX I.hok e;exact Pz I.kIn O (c.get m) k.at_ k.fn (RelO.none_of (by rw[<-l];exact r m)) h
def kD(I:Inv X AA σ H s)(e:H a=some (.ins C dx fs))(c:Cls X.K C)(n:NoAttr X.K C f)(hl:fs.length<1000)(ry:RelV y u)
  (h:∀ s',Inv X AA σ (upd H a<|.ins C dx<|BQ f y fs) s'->Q () s'):wpAny (model X.prog X.w) A (setAttr (.ref a) f u) Q E s:=by
 obtain⟨mA,O,r,wi,x,ho⟩:=RX I.hok e;refine Qb I.kIn O c.sa c.po n.taker c.hd wi (by rw[ζ];exact oB hl rfl) λh' O' sb=>h _ (I.write   (by rw[e];exact rn) (.inr ho) (λb q hb z=>(sb.2 b hb).trans z) (let ⟨o,_,_,e',_⟩:=O'.ns;⟨o,e'⟩) {by rw[AI O.ne];exact ho,?_,O.ne,O'.obj,_,O'.ns,λg=>?_,λg hg=>?_});exact ω (OW f y fs) hl;rw[kA];by_cases q:g=f;rw[if_pos q,if_pos q];exact ry;rw[if_neg q,if_neg q];exact r g;by_cases q:g=f;rw[q];exact(VH f y fs).1;refine(VH f y fs).2 g (wi g λz=>hg ?_)
 show(if g=f then some u else mA g)=none;rw[if_neg q];exact z
def Inv.made(I:Inv X AA σ H s):Inv X AA σ (upd (upd H s.heap.objs.size<|.own<|s.heap.objs.size+1) (s.heap.objs.size+1) (.ins C s.heap.objs.size []))
  { s with heap:=(s.heap.push xb).push (uk C s.heap.objs.size) }:=by
 have e1:(s.heap.push _).get? _=some xb:=aw _ rfl
 have e2:((s.heap.push xb).push (uk C s.heap.objs.size)).get? (s.heap.objs.size+1)=some (uk C s.heap.objs.size):=by
  have:=aw (s.heap.push xb) (o:=uk C s.heap.objs.size) rfl
  rwa [zm]at this
 have ne:s.heap.objs.size≠s.heap.objs.size+1:=bd<|fj _;refine(I.laid  (o:=.own _)  (t':=s.toks) (λb u q=>ο _ q) (υ _) ⟨_,e1⟩).laid    (λb u q=>ο _ q) (bh<|zm _ _) ({by rw[AI ne,AF],bv _,ne,e2,λz=>none,(Heap.Ns1.of_empty (x3 _ _ _ {e1,rfl,(λe he=>absurd he (by simp)),λz=>rfl})).at λo q=>ο _ q,λz=>rn,λy hy=>absurd rfl hy})
def Qg(hb:ux e f env (eval e env)=eval e env)
  (h:wpAny (model prog w) A (eval e env) (λo s₁=>wpAny (model prog w) A (getAttr o f true) Q E s₁) E s):wpAny (model prog w) A (eval (.Attribute e f pos) env) Q E s :=
 Attribute_any_ h (by rw[arm_eval_Attribute,hb])
end
def OX(K:ι)(ta:TE)(f:Str):TE:=λσ H Q=>ta σ H λx H1=>∃ a C dx fs v,x=.ref a/\H1 a=some (.ins C dx fs)/\Cls K C/\NoAttr K C f/\fs.lookup f=some v/\Q v H1
def OY(K:ι)(ta tv:TE)(f:Str):TS:=λD σ H=>tv σ H λy H1=>ta σ H1 λx H2=>∃ a C dx fs,x=.ref a/\H2 a=some (.ins C dx fs)/\Cls K C/\NoAttr K C f/\fs.length<1000 /\
 D.nx σ (upd H2 a<|.ins C dx<|BQ f y fs)
def VJ(X:Cx)(op:Operator)(rd:V->V->Hp->VK->Prop):Prop :=
 ∀ (AA:tI) (s:ξ) (σ:St) (H:Hp) (x y:V) (u v:Value) (Q:VK),Inv X AA σ H s->RelV x u->RelV y v->rd x y H Q->wpAny (model X.prog X.w) X.A (inplaceOp op u v) (EP X AA σ Q) X.xe s
def RZ(K:ι)(ta tv:TE)(rd:V->V->Hp->VK->Prop)(f:Str):TS:=λD σ H=>ta σ H λx H1=>∃ a C dx fs v,x=.ref a/\H1 a=some (.ins C dx fs)/\Cls K C/\NoAttr K C f/\fs.lookup f=some v /\
 tv σ H1 λy H2=>rd v y H2 λz H3=>∃ dx' fs',H3 a=some (.ins C dx' fs')/\fs'.length<1000/\D.nx σ (upd H3 a<|.ins C dx'<|BQ f z fs')
section
variable{X:Cx}{o e value:Expr}{f:Str}{pos pos' tpos:Pos}{ta tv:TE}
def Qh(he:PE X e ta)(hb:ux e f X.env (eval e X.env)=eval e X.env):PE X (.Attribute e f pos) (OX X.K ta f):=by
 refine λAA s σ H Q I h=>Qg hb<|AS (he _ s σ H _ I h) λu s1 hzz=>?_;obtain⟨x,H1,I1,rx,a,C,dx,fs,v,rfl,ea,c,n,l,q⟩:=hzz;obtain rfl:u=fk a:=rx;exact kB I1 ea c n l λu' s2 I2 ru=>x2 v H1 ⟨I2,ru,q⟩
def Qj(ha:PE X o ta)(hv:PE X value tv)(hs:v_ value (some<|.Attribute o f pos') pos.line X.env=pure false):PS X (.Assign [.Attribute o f pos'] value pos) (OY X.K ta tv f):=by
 refine λAA s σ H D I h=>plainObj_wpAny_Assign_Attribute (AS (hv _ s σ H _ I h) λu s1 ⟨y,H1,I1,ry,q⟩=>AS (ha _ s1 σ H1 _ I1 q) λov s2 hzz=>?_) hs;obtain⟨x,H2,I2,rx,a,C,dx,fs,rfl,ea,c,n,l,q2⟩:=hzz;obtain rfl:ov=fk a:=rx;exact kD I2 ea c n l ry λs3 I3=>x2 σ _ ⟨I3,q2⟩
def Qk(ha:PE X o ta)(hv:PE X value tv)(hop:VJ X op rd):PS X (.AugAssign (.Attribute o f tpos) op value pos) (RZ X.K ta tv rd f):=by
 refine λAA s σ H D I h=>wpAny_AugAssign_AttributeAny<|AS (ha _ s σ H _ I h) λov s1 hzz=>?_;obtain⟨x,H1,I1,rx,a,C,dx,fs,v,rfl,ea,c,n,l,q⟩:=hzz;obtain rfl:ov=fk a:=rx;exact kB I1 ea c n l λu s2 I2 ru=>AS (hv _ s2 σ H1 _ I2 q) (by rintro w3 s3 ⟨y,H2,I3,ry,q3⟩;exact AS (hop _ s3 σ H2 v y u w3 _ I3 ru ry q3) (by rintro w4 s4 ⟨z,H3,I4,rz,dx',fs',ea',l',q4⟩;exact(kD I4 ea' c n l' rz λs5 I5=>x2 σ _ ⟨I5,q4⟩)))
def OZ:V->V->Hp->VK->Prop:=λx y H Q=>∃ i j,x=.int i/\y=.int j/\Q (.int<|i+j) H
def kE:VJ X .Add OZ:=by
 rintro AA s σ H x y u v Q I rx ry ⟨i,j,rfl,rfl,q⟩;obtain⟨t,rfl⟩:=(rx)
 obtain⟨t',rfl⟩:=(ry)
 exact PyProof.Rows.iadd_int<|x2 (.int _) H {I.tok _,⟨_,rfl⟩,q}
end
section
variable{X:Cx}{AA:tI}{σ:St}{H:Hp}{s:ξ}{A:dk}{E:tQ}{Q:tQ}{c:Value}{b:Bool}
inductive G7(K:ι)(H:Hp):V->Value->Prop where
 |non:G7 K H .non (.type "NoneType")
 |bl (x:Bool):G7 K H (.bl x) (.type "bool")
 |int (i:Int):G7 K H (.int i) (.type "int")
 |str (x:Str):G7 K H (.str x) (.type "str")
 |flt (x:UInt64):G7 K H (.flt x) (.type "float")
 |lst {a:Addr} {xs:Oq} (e:H a=some (.lst xs)):G7 K H (.ref a) (.type "list")
 |frz {a:Addr} {o:Obj} {xs:Oq} (e:H a=some (.frz o<|.lst xs)):G7 K H (.ref a) (.type "list")
 |tup {a:Addr} {xs:Oq} (e:H a=some (.tup xs)):G7 K H (.ref a) (.type "tuple")
 |dK {a:Addr} {kvs:tS} (e:H a=some (.dK kvs)):G7 K H (.ref a) (.type "dict")
 |dT {a:Addr} {kvs:aH} (e:H a=some (.dT kvs)):G7 K H (.ref a) (.type "dict")
 |ins {a C dx:Addr} {fs:ZP} (e:H a=some (.ins C dx fs)) (cl:Cls K C) (ha:ca K (.ref C) "__class__"=some (some<|.builtin "object.__class__"))
   (hn:xc K (.builtin "object.__class__") "__get__"=some (some<|.builtin "getset_descriptor.__get__")) (htk:Gr K (.builtin "object.__class__")=some true)
   (hm:Js K C (.type "object")=some true):G7 K H (.ref a) (.ref C)
end
structure Room(k:Nat)(A:dk):Prop where
 hd:A.handled=none
 dp:A.depth+3*k+5<recursionLimit
 un:A.units+16*k+200<cLine
def Room.mono(r:Room k A)(h:j<=k):Room j A:={r.hd,by have:=r.dp;lia,by have:=r.un;lia}
def Room.deeper(r:Room (k+1) A)(env:Env):Room k (A.deeper env) :=
 {r.hd,by have:=r.dp;show A.depth+1+3*k+5<_;lia,by have:=r.un;show A.units+3+16*k+200<_;lia}
def Ql{A:dk}:(A.under<|.builtin "type.__call__" {.ref C::us,kw}).depth=A.depth+1:=by
 first|rfl|simp[guardIds]
def Qm{A:dk}:(A.under<|.builtin "type.__call__" {.ref C::us,kw}).units=A.units+1:=by
 first|rfl|simp[Code.isFrame]
abbrev _root_.aI:=List (Str × Value)
def Room.make(r:Room (k+1) A)(C:Addr)(us:sV)(kw:aI):Room k (A.under<|.builtin "type.__call__" {.ref C::us,kw}) :=
 {r.hd,by have:=r.dp;rw[Ql];lia,by have:=r.un;rw[Qm];lia}
def Room.depth(r:Room k A):A.depth<recursionLimit:=by have:=r.dp;lia
def Room.units(r:Room k A):A.units+64<cLine:=by have:=r.un;lia
def BE:TA:=λ_ H Q=>Q [] H
def DB(ta:TE)(tr:TA):TA:=λσ H Q=>ta σ H λx H1=>tr σ H1 λxs H2=>Q (x::xs) H2
section
variable{X:Cx}{e:Expr}{es:wW}{te:TE}{t:TA}{pos:Pos}
def R0:PA X [] BE:=λz z z z H Q I h=>xf<|x2 [] H {I,.nil,h}
def L4(ha:PE X e te)(hr:PA X es t)(hs:ay (e::es) X.env=(false,eval e X.env)::ay es X.env:=by rfl):PA X (e::es) (DB te t):=by
 intro pos AA s σ H Q I h;rw[hs];exact rq (AS (ha _ s σ H _ I h) (by rintro u s1 ⟨x,H1,I1,r1,q1⟩;exact(AS (hr _ _ s1 σ H1 _ I1 q1) (by rintro us s2 ⟨xs,H2,I2,r2,q2⟩;exact x2 _ H2 {I2,.cons r1 r2,q2}))))
def CK(t:TA):TE:=λσ H Q=>t σ H λxs H1=>xs.length<=sizeLine/\∀ p,H1 p=none->Q (.ref p) (upd H1 p<|.tup xs)
def BS(t:TA):TE:=λσ H Q=>t σ H λxs H1=>xs.length<=sizeLine/\∀ p,H1 p=none->Q (.ref p) (upd H1 p<|.lst xs)
def Qp{x1}(h:PA X es t):PE X (.Tuple es x1 pos) (CK t):=λAA s σ H Q I hq=>wpAny_Tuple_spliced (AS (h _ _ s σ H _ I hq) λus s1 ⟨xs,H1,I1,r,z,q⟩=>{by rw[<-r.length];exact z,(x2 (.ref _) (upd H1 _<|.tup xs) {I1.laid  (λb u e=>ο _ e) (υ _) ({z,us,r,{_,aw _ rfl,rfl,_,rfl}}),rfl,q _<|I1.hok.fresh<|υ _})})
def Qq(h:PA X es t):PE X (.List es pos) (BS t):=λAA s σ H Q I hq=>wpAny_List_spliced (AS (h _ _ s σ H _ I hq) λus s1 ⟨xs,H1,I1,r,z,q⟩=>{by rw[<-r.length];exact z,(x2 (.ref _) (upd H1 _<|.lst xs) {I1.laid  (λb u e=>ο _ e) (υ _) ({z,x2 us 0 {r,aw _ rfl}}),rfl,q _<|I1.hok.fresh<|υ _})})
end
abbrev Sp:=Oq->Hp->VK->XK->Prop
abbrev HN:=zY->Hp->ξ->XK->Value->ξ->Prop
structure Env0(P:bw)(w:World)(K:ι)(mg:UN)(base:Heap)(A:dk)(outer:zY)(s:ξ)(H:Hp):Prop where
 frames:A.frames=some outer
 mod:Mod K mg base
 bs:∀ b o,base.get? b=some o->s.heap.get? b=some o/\H b=none
 bsz:base.objs.size<=s.heap.objs.size
 funs:s.heap.FunFrames base outer
 frf:∀ b∈D0 outer,H b=none
 hok:HOk P w H s.heap
 bare:tm s.gens
def CE(outer:zY)(P:bw)(w:World)(H:Hp)(s:ξ)(Q:VK)(u:Value)(s':ξ):Prop :=
 ∃ v H',s'.os=s.os/\tm s'.gens/\Un (D0 outer) [] H H' s.heap s'.heap/\HOk P w H' s'.heap/\RelV v u/\Q v H'
def CR(CX:HN)(outer:zY)(P:bw)(w:World)(H:Hp)(s:ξ)(Q:VK)(E:XK)(r:Result)(s':ξ):Prop :=
 match r with
 |.ok (.ret u)=>CE outer P w H s Q u s'
 |.ok _=>False
 |.error e=>CX outer H s E e s'
structure FnOk(P:bw)(w:World)(K:ι)(mg:UN)(base:Heap)(CX:HN)(k:Nat)(f:Addr)(fd:gq)(ps:tY)(sp:Sp):Prop where
 len:∀ vs H Q E,sp vs H Q E->vs.length=ps.length
 run:∀ (A:dk) (outer:zY) (s:ξ) (H:Hp) (args:Args) (us:sV) (vs:Oq) (Q:VK) (E:XK),Room k A->Env0 P w K mg base A outer s H->xg s fd args (ps.zip us)->Vals vs us->sp vs H Q E ->
  uw (model P w) A (.call (.ref f) args) (CR CX outer P w H s Q E) s
def FnOk.imp{P:bw}{w:World}{K:ι}{mg:UN}{base:Heap}{CX:HN}{k:Nat}{f:Addr}{fd:gq}{ps:tY}{sp sp':Sp}(F:FnOk P w K mg base CX k f fd ps sp)
  (h:∀ vs H Q E,sp' vs H Q E->sp vs H Q E):FnOk P w K mg base CX k f fd ps sp' :=
 {λvs H Q E q=>F.len vs H Q E<|h _ _ _ _ q,λA outer s H args us vs Q E hr he hb hv hs=>F.run A _ s H _ us vs Q E hr he hb hv<|h _ _ _ _ hs}
def Env0.make{P:bw}{w:World}{K:ι}{mg:UN}{base:Heap}{A:dk}{outer:zY}{s:ξ}{H:Hp}(e:Env0 P w K mg base A outer s H)(C:Addr)(us:sV)(kw:aI) :
  Env0 P w K mg base (A.under<|.builtin "type.__call__" {.ref C::us,kw}) outer s H:={by first|exact e.frames|(exact e.frames),e.mod,e.bs,e.bsz,e.funs,e.frf,e.hok,e.bare}
section
variable{X:Cx}{AA:tI}{σ:St}{H:Hp}{s s':ξ}
def Inv.env0(I:Inv X AA σ H s):Env0 X.prog X.w X.K X.mg X.base X.A X.stack s H :=
 {I.ok.frames,I.ok.mod,I.bs,ω I.ok.bsz I.sz,I.stack,I.stkFree,I.hok,I.bare}
def Inv.after(I:Inv X AA σ H s)(h:CE X.stack X.prog X.w H s Q u s'):EP X AA σ Q u s':=by
 revert h;apply u2;rintro v H' ⟨os,bare,un,hok,r,q⟩;obtain⟨hh,g,d,t,os'⟩:=s';obtain rfl:os'=s.os:=os;exact x2 v H' {I.call      un hok bare (λb z=>absurd z (by simp)),r,q}
end
def L5(sp:Sp)(EF:Oq)(E:St->XK)(t:TA):TE:=λσ H Q=>t σ H λvs H1=>sp (vs++EF) H1 Q (E σ)
def IN(C:Addr)(m:Str)(sp:Sp)(EF:Oq)(E:St->XK)(ta:TE)(t:TA):TE:=λσ H Q=>ta σ H λx H1=>∃ a dx fs,x=.ref a/\H1 a=some (.ins C dx fs)/\fs.lookup m=none /\
 t σ H1 λvs H2=>sp (x::(vs++EF)) H2 Q (E σ)
def NA(C:Addr)(sp:Sp)(EF:Oq)(E:St->XK)(t:TA):TE:=λσ H Q=>t σ H λvs H1=>∀ x dx,H1 x=none->H1 dx=none->dx≠x ->
 sp (.ref x::(vs++EF)) (upd (upd H1 dx<|.own x) x (.ins C dx [])) (λv H2=>v=.non/\Q (.ref x) H2) (E σ)
def Binds(K:ι)(fd:gq)(ps:tY)(ds:sV):Prop :=
 ∀ (s:ξ) (us:sV),K.In s.heap->(us++ds).length=ps.length->xg s fd {us,[]} (ps.zip<|us++ds)
def Binds.all{K:ι}{fd:gq}{ps:tY}(h:∀ us:sV,us.length=ps.length->bindArgs fd {us,[]}=pure (ps.zip us)):Binds K fd ps []:=λs us z hl=>by
 rw[il]at hl ⊢;exact .of_eq<|h us hl
def G8(CX:HN)(X:Cx)(E:St->XK):Prop:=∀ (AA:tI) (σ:St) (H:Hp) (s:ξ) (e:Value) (s':ξ),Inv X AA σ H s->CX X.stack H s (E σ) e s'->X.xe e s'
section
variable{X:Cx}{CX:HN}{k:Nat}{f C:Addr}{fd:gq}{ps:tY}{sp:Sp}{EF:Oq}{ds:sV}{E:St->XK}{x m:Str}{p pos C1:Pos}{e o:Expr}{es:wW}{ta:TE}{t:TA}
def VL(F:FnOk X.prog X.w X.K X.mg X.base CX k f fd ps sp)(hr:Room k X.A)(hb:Binds X.K fd ps ds)(hd:Vals EF ds)(hx:G8 CX X E)
  (I:Inv X AA σ H s) (r:Vals vs us) (h:sp (vs++EF) H Q (E σ)):wpAny (model X.prog X.w) X.A (call (.ref f) us) (EP X AA σ Q) X.xe s:=by
 have r2:=r.append hd;refine yi (lm (F.run _ _ s H _ _ _ Q _ hr I.env0 (hb s us I.kIn (by rw[<-r2.length];exact F.len _ _ _ _ h)) r2 h) λr s' hq=>?_);cases r with
 |error e=>exact hx _ σ H s e s' I hq
 |ok fl =>
  cases fl with
  |ret u=>exact I.after hq
  |next=>exact jq hq
  |brk=>exact jq hq
  |cont=>exact jq hq
def Qv(F:FnOk X.prog X.w X.K X.mg X.base CX k f fd ps sp)(hr:Room k X.A)(hg:Gl X x)(hm:X.mg x=some (.ref f))(hk:pi X.K (.ref f)=true)(hb:Binds X.K fd ps ds)(hd:Vals EF ds)(hx:G8 CX X E)
  (ha:PA X (e::es) t) (hdb:(x ==("__debug__":Str))=false:=by decide) (he:ay (e::es) X.env=(false,eval e X.env)::ay es X.env:=by rfl) (BV:(ja pos<|ay es X.env).any (·.1)=false:=by rfl) :
  PE X (.Call (.Name x p) (e::es) [] pos) (L5 sp EF E t):=λAA s σ H Q I h=>r_ (OQ I hg hm (Dn  I.ok.mod.kin hk (AS (ha _ _ s σ H _ I h) (by rintro us s1 ⟨vs,H1,I1,r,q⟩;exact{I1.kIn,(VL F hr hb hd hx I1 r q)})) he BV) hdb)
def Qw(he:PE X o ta)(c:Cls X.K C)(hm:RY X.K C m f)(F:FnOk X.prog X.w X.K X.mg X.base CX k f fd ps sp)(hr:Room k X.A)(hb:Binds X.K fd ps ds)(hd:Vals EF ds)(hx:G8 CX X E)(ha:PA X (e::es) t)
  (hst:ay (e::es) X.env=(false,eval e X.env)::ay es X.env:=by rfl) (BV:(ja pos<|ay es X.env).any (·.1)=false:=by rfl)
  (ht:eval (.Call (.Attribute o m C1) (e::es) [] pos) X.env=(do
   let ov ← eval o X.env
   yg C1.atName
   let (f,first) ← tq [ov] (ul ov m pl)
   zn pos f first (ja pos<|ay (e::es) X.env) (u_ pos<|k_ [] X.env)):=by rfl) :
  PE X (.Call (.Attribute o m C1) (e::es) [] pos) (IN C m sp EF E ta t):=by
 refine λAA s σ H Q I h=>Ix  (AS (he _ s σ H _ I h) λu s1 hzz=>?_) ht;obtain⟨x,H1,I1,rx,a,dx,fs,rfl,ea,l,q⟩:=hzz;obtain rfl:u=fk a:=rx;exact kC I1 ea c hm l (Dn   I.ok.mod.kin hm.kp (AS (ha _ _ s1 σ H1 _ I1 q) (by rintro us s2 ⟨vs,H2,I2,r,q2⟩;exact{I2.kIn,(VL  (vs:=.ref a::vs) F hr hb hd hx I2 (.cons rfl r) q2)})) hst BV)
def Qx(he:PE X o ta)(c:Cls X.K C)(hm:RY X.K C m f)(F:FnOk X.prog X.w X.K X.mg X.base CX k f fd ps sp)(hr:Room k X.A)(hb:Binds X.K fd ps ds)(hd:Vals EF ds)(hx:G8 CX X E)
  (ht:eval (.Call (.Attribute o m C1) [] [] pos) X.env=(do
   let ov ← eval o X.env
   yg C1.atName
   let (f,first) ← tq [ov] (ul ov m pl)
   zn pos f first (ja pos<|ay [] X.env) (u_ pos<|k_ [] X.env)):=by rfl) :
  PE X (.Call (.Attribute o m C1) [] [] pos) (IN C m sp EF E ta BE):=by
 refine λAA s σ H Q I h=>Ix  (AS (he _ s σ H _ I h) λu s1 hzz=>?_) ht;obtain⟨x,H1,I1,rx,a,dx,fs,rfl,ea,l,q⟩:=hzz;obtain rfl:u=fk a:=rx;exact kC I1 ea c hm l<|W.callWith_K0  I1.kIn hm.kp (VL  (vs:=[.ref a]) F hr hb hd hx I1 (.cons rfl .nil) q)
structure Mk(K:ι)(C f:Addr):Prop where
 makes:Go K C=true
 init:ca K (.ref C) "__init__"=some (some<|.ref f)
 fn:Kn K (.ref f)=true
 kp:pi K (.ref C)=true
def Qy(M:Mk X.K C f)(F:FnOk X.prog X.w X.K X.mg X.base CX k f fd ps sp)(hr:Room (k+1) X.A)(hb:Binds X.K fd ps ds)(hd:Vals EF ds)
  (hx:G8 CX X E) (I:Inv X AA σ H s) (r:Vals vs us)
  (h:∀ x dx,H x=none->H dx=none->dx≠x->sp (.ref x::(vs++EF)) (upd (upd H dx<|.own x) x (.ins C dx [])) (λv H2=>v=.non/\Q (.ref x) H2) (E σ)) :
  wpAny (model X.prog X.w) X.A (call (.ref C) us) (EP X AA σ Q) X.xe s:=by
 have hq:=h _ _ (I.hok.fresh<|jm _) (I.hok.fresh<|υ _) (bd<|fj _)
 have I2:=Inv.made (C:=C) I
 have r2:Vals (V.ref (s.heap.objs.size+1)::(vs++EF)) _:=.cons rfl<|r.append hd
 have hl:(fk (s.heap.objs.size+1)::us++ds).length=ps.length:=by
  have e:=r2.length;rw[F.len _ _ _ _ hq]at e;exact e.symm
 refine yi (Qc  I.kIn M.makes M.init (beq_iff_eq.mp M.fn) (lm (F.run _ _ _ _ _ _ _ _ _ (hr.make C us [])
  (I2.env0.make C us []) (hb _ _ I2.kIn hl) r2 hq) λr s' hq'=>?_))
 cases r with
 |error e=>exact hx _ σ _ _ e s' I2 hq'
 |ok fl =>
  cases fl with
  |ret u =>
   refine u2 ?_<|I2.after hq';rintro v H' ⟨I3,rv,rfl,q3⟩;exact{rv,x2 (V.ref _) H' ⟨I3,rfl,q3⟩}
  |next=>exact jq hq'
  |brk=>exact jq hq'
  |cont=>exact jq hq'
def Qz(M:Mk X.K C f)(F:FnOk X.prog X.w X.K X.mg X.base CX k f fd ps sp)(hr:Room (k+1) X.A)(hg:Gl X x)(hm:X.mg x=some (.ref C))(hb:Binds X.K fd ps ds)(hd:Vals EF ds)(hx:G8 CX X E)
  (ha:PA X (e::es) t) (hdb:(x ==("__debug__":Str))=false:=by decide) (he:ay (e::es) X.env=(false,eval e X.env)::ay es X.env:=by rfl) (BV:(ja pos<|ay es X.env).any (·.1)=false:=by rfl) :
  PE X (.Call (.Name x p) (e::es) [] pos) (NA C sp EF E t):=λAA s σ H Q I h=>r_ (OQ I hg hm (Dn  I.ok.mod.kin M.kp (AS (ha _ _ s σ H _ I h) (by rintro us s1 ⟨vs,H1,I1,r,q⟩;exact{I1.kIn,(Qy M F hr hb hd hx I1 r q)})) he BV) hdb)
end
section
variable{X:Cx}{CX:HN}{k:Nat}{f C:Addr}{fd:gq}{ps ks:tY}{sp:Sp}{E:St->XK}{x m:Str}{p pos C1 kpos:Pos}{e o:Expr}{es:wW}{kws:List At}{te ta:TE}{t tk:TA}{nm:Option Str}
structure z06(K:ι)(fd:gq)(ps ks:tY)(g:sV->sV->sV)(gV:Oq->Oq->Oq):Prop where
 to:∀ (s:ξ) (us ws:sV),K.In s.heap->(g us ws).length=ps.length->xg s fd {us,ks.zip ws} (ps.zip<|g us ws)
 rel:∀ {vs:Oq} {us:sV} {zs:Oq} {ws:sV},Vals vs us->Vals zs ws->Vals (gV vs zs) (g us ws)
variable{g:sV->sV->sV}{gV:Oq->Oq->Oq}
end
structure FnScope(N P:tY)(sc:Scope):Prop where
 kind:sc.kind=.function
 co:sc.isCoroutine=false
 gen:sc.isGenerator=false
 nd:N.Nodup
 pre:N.take P.length=P
 par:∀ x∈P,sc.names.lookup x=some .local\/sc.names.lookup x=some .cell
 nofree:∀ y∈sc.names,y.2≠.free
theorem kF{kindOf:Str->Option xz}:∀ {binds:aI} {m:UN},(∀ v,(x,v)∉binds)->bindL kindOf binds m x=m x
 | [],_,_=>rfl
 |(n,v)::r,m,h=>by
  unfold bindL;rw[kF λw hw=>h w<|ρ _ hw];split
  have:x≠n:=by rintro rfl;exact h v χ
  simp[this]
  rfl
theorem kG{kindOf:Str->Option xz}:∀ {binds:aI} {m:UN},(∀ v,(x,v)∉binds)->bindC kindOf binds m x=m x
 | [],_,_=>rfl
 |(n,v)::r,m,h=>by
  unfold bindC;rw[kG λw hw=>h w<|ρ _ hw];split
  rfl
  have:x≠n:=by rintro rfl;exact h v χ
  simp[this]
theorem kH{kindOf:Str->Option xz}:∀ {P:tY} {vs:sV} {i:Nat} {m:UN},P.Nodup->P[i]? =some x->vs[i]? =some v->kindOf x=some .local ->
  bindL kindOf (P.zip vs) m x=some v
 | [],_,_,_,_,h,_,_=>by simp at h
 |_::_,[],_,_,_,_,h,_=>by simp at h
 |p::P,w::vs,0,m,nd,h1,h2,hk=>by
  simp at h1 h2;subst h1 h2
  show bindL _ ((p,w)::P.zip vs) m p=_;unfold bindL;rw[kF λv hv=>(gz.mp nd).1 (yy hv).1,if_pos hk];simp
 |p::P,w::vs,i+1,m,nd,h1,h2,hk=>by
  unfold bindL;exact kH  (gz.mp nd).2 (h1) (h2) hk
theorem kI{kindOf:Str->Option xz}:∀ {P:tY} {vs:sV} {i:Nat} {m:UN},P.Nodup->P[i]? =some x->vs[i]? =some v->kindOf x≠some .local ->
  bindC kindOf (P.zip vs) m x=some v
 | [],_,_,_,_,h,_,_=>by simp at h
 |_::_,[],_,_,_,_,h,_=>by simp at h
 |p::P,w::vs,0,m,nd,h1,h2,hk=>by
  simp at h1 h2;subst h1 h2
  show bindC _ ((p,w)::P.zip vs) m p=_;unfold bindC;rw[kG λv hv=>(gz.mp nd).1 (yy hv).1,if_neg hk];simp
 |p::P,w::vs,i+1,m,nd,h1,h2,hk=>by
  unfold bindC;exact kI  (gz.mp nd).2 (h1) (h2) hk
def AW(N:tY)(vs:Oq):St:=vs.map some++bc (N.length-vs.length) none
def IP(CX:HN)(P:bw)(w:World)(K:ι)(mg:UN)(base:Heap)(N:tY)(qual:Str)(scope:Scope)(f:Addr)(cd:Value)(A:dk)(outer:zY)(s:ξ)(H:Hp)(E:XK):Cx where
 prog:=P
 w:=w
 K:=K
 mg:=mg
 base:=base
 A:=A.deeper<|xp qual scope s.heap.objs.size f cd
 N:=N
 s₀:=s
 H₀:=H
 env:=xp qual scope s.heap.objs.size f cd
 outer:=outer
 stack:=xp qual scope s.heap.objs.size f cd::outer
 ex:=[]
 calm:=true
 fn:=λ_=>true
 pn:=[]
 xe:=λe s'=>wpAny (model P w) (A.deeper<|xp qual scope s.heap.objs.size f cd) (leaving (xp qual scope s.heap.objs.size f cd) e) (λ_ s''=>CX outer H s E e s'') (λe' s''=>CX outer H s E e' s'') s'
def kJ{sc:Scope}(h:sc.names.lookup x=some .cell):∃ c,(Ms n sc.names []).lookup x=some c:=cz.mp<|Gs _ n [] (.inl h)
def Rb{CX:HN}{P:bw}{w:World}{K:ι}{mg:UN}{base:Heap}{N ps:tY}{qual:Str}{scope:Scope}{f:Addr}{cd:Value}{A:dk}{outer:zY}{s s1:ξ}{H:Hp}{E:XK}{us:sV}{vs:Oq}
  (S:FnScope N ps scope) (hd:A.handled=none) (e0:Env0 P w K mg base A outer s H) (hl:vs.length=ps.length) (r:Vals vs us)
  (x:InCallC s s.heap.objs.size (bindL (xp qual scope s.heap.objs.size f cd).kindOf (ps.zip us) λ_=>none) (Ms (s.heap.objs.size+1) scope.names []) (bindC (xp qual scope s.heap.objs.size f cd).kindOf (ps.zip us) λ_=>none) s1) :
  Inv (IP CX P w K mg base N qual scope f cd A outer s H E) [] (AW N vs) H s1:=by
 have BV:ps.length<=N.length:=by have:=congrArg nj S.pre;rw[ce]at this;lia
 refine u2 ?_ x.done;rintro h1 tk ⟨rfl,hk⟩
 have noA:∀ b:Addr,b∉(IP CX P w K mg base N qual scope f cd A outer s H E).ex:=λb z=>absurd (show b∈([])from z) (by simp);refine⟨{e0.mod,S.kind,rfl,rfl,υ _,λy z c h1 h2=>(name_of_addr x.apart (PySem.mem_of_lookup h1) (PySem.mem_of_lookup h2)),λy hy=>?_,λy c t h=>(li<|x.above y c<|PySem.mem_of_lookup h),λt=>hd,Around.frames_deeper e0.frames,.inr ⟨rfl,rfl⟩,λb z=>absurd z<|noA b,e0.bs,e0.bsz,λb t t=>noA b,λb z=>absurd z<|noA b,e0.funs,e0.frf},
  rfl,e0.bare,Un.kept hk,{_,x.toInCall.ns,λi y v h1 h2 h3=>?_},λy c h=>{_,x.cell y c h},e0.hok.fresh<|υ _,λy c h=>(e0.hok.fresh<|li<|x.above y c<|PySem.mem_of_lookup h),λp hp=>absurd (show p∈([])from hp) (by simp),e0.hok.kept hk,?_⟩
 rcases hy with hy|hy
 exact kJ hy;exact absurd rfl<|S.nofree _<|PySem.mem_of_lookup hy
 have hi:i<vs.length:=by
  unfold AW at h2;by_cases hi:i<vs.length;exact hi;rw[cf (by simpa using hi),x_]at h2;split at h2<;>cases h2
 have ha:vs[i]? =some v:=by
  unfold AW at h2;rw[ba (by simpa using hi),τ]at h2;cases e:vs[i]? with
  |none=>rw[e]at h2;cases h2
  |some a=>rw[e]at h2;cases h2;rfl
 have hp:ps[i]? =some y:=by
  rw[<-S.pre,List.getElem?_take_of_lt<|hl ▸ hi];exact h1
 have ndP:ps.Nodup:=by rw[<-S.pre];exact S.nd.sublist<|Do _ _
 obtain⟨u,hu,rv⟩:=r.get ha;refine{u,rv,?_};rcases S.par y (θ hp)with k|k
 exact .inl {k,kH ndP hp hu k};obtain⟨c,e⟩:=kJ  k;refine .inr {.inl k,c,e,?_}
 have q:=x.cell y c e;rw[kI ndP hp hu (by show scope.names.lookup y≠_;rw[k];decide)]at q;exact q;unfold AW
 show _=N.length;rw[af,ζ,ug]
 lia
def Rc{CX:HN}{P:bw}{w:World}{K:ι}{mg:UN}{base:Heap}{k:Nat}{f:Addr}{name qual:Str}{params:Arguments}{body:List Stmt}{scope:Scope}{dV kV doc pm CF ct oc:Value}{an od:Option Addr}
  {osl:Array (Option Value)} {N ps:tY} {sp:Sp} (lk:K.lookup f=some {oc,od,.func<|xq name qual params body scope dV kV doc pm an CF ct,osl}) (GO:zo K CF qual=true) (S:FnScope N ps scope)
  (len:∀ vs H Q E,sp vs H Q E->vs.length=ps.length)
  (jT:∀ (A:dk) (outer:zY) (s:ξ) (H:Hp) (vs:Oq) (Q:VK) (E:XK),Room k (A.deeper<|xp qual scope s.heap.objs.size f CF)->sp vs H Q E ->
   ∃ t,E9 (IP CX P w K mg base N qual scope f CF A outer s H E) body t/\t { nx:=λz H'=>Q .non H',rt:=Q } (AW N vs) H) :
  FnOk P w K mg base CX (k+1) f (xq name qual params body scope dV kV doc pm an CF ct) ps sp:=by
 refine{len,λA outer s H args us vs Q E hr e0 hb r hsp=>?_}
 have KX:=e0.mod.kin.keeps λb o e=>(e0.bs b o e).1
 have hkind:∀ y∈ps.zip us,scope.names.lookup y.1=some _\/(scope.names.lookup y.1=some _/\((Ms (s.heap.objs.size+1) _ []).lookup y.1).isSome=true):=λ⟨n,v⟩ hy=>by
  rcases S.par n (yy hy).1 with q|q
  exact .inl q;exact .inr {q,Gs _ _ _<|.inl q}
 refine codeAny_call_function hr.depth (KX _ _ lk) rfl S.co S.gen rfl (W.codeRec_of KX GO) (hb _ _ _ _<|wpAny_newFunctionEnv_cells S.kind hkind λenv he s1 x=>?_);subst he;obtain⟨t,ht,hq⟩:=jT A _ s H vs Q E (hr.deeper _) hsp;refine{(e0.mod.nolimit.keeps λb o e=>(e0.bs b o e).1).keeps x.toInCall.keep,codeAny_func<|lj (ht [] s1 _ H _ (Rb S hr.hd e0 (len _ _ _ _ hsp) r x) hq) (λfl s' hs=>?_) λe s' hs=>hs}
 have fin:∀ {σ':St} {H':Hp} {v:V} {u:Value},Inv (IP CX P w K mg base N qual scope f CF A _ s H E) [] σ' H' s'->RelV v u->Q v H'->CE outer P w H s Q u s' :=
  λ{σ' H' v u} J rv q=>x2 v H' ⟨J.os,J.bare,J.base,J.hok,rv,q⟩
 cases fl with
 |ret u =>
  revert hs;apply u3;rintro v σ' H' ⟨J,rv,q⟩;exact fin J rv q
 |next =>
  revert hs;apply u2;rintro σ' H' ⟨J,q⟩;exact fin (v:=V.non)  J rfl q
 |brk =>
  revert hs;apply u2;rintro z z ⟨z,q⟩;exact jq q
 |cont =>
  revert hs;apply u2;rintro z z ⟨z,q⟩;exact jq q
section
variable{X:Cx}{x:Str}{p pos:Pos}{e:Expr}{es:wW}{t:TA}{id T:String}{r:Oq->Hp->VK->Prop}
def CL(r:Oq->Hp->VK->Prop)(t:TA):TE:=λσ H Q=>t σ H λvs H1=>r vs H1 Q
def NB(hc:EB X (.builtin id) r)(hg:Gl X x)(hm:X.mg x=none)(hv:nz x=some (.builtin id))(ha:PA X (e::es) t)(hn:x≠"__name__":=by decide)(hdb:(x ==("__debug__":Str))=false:=by decide)
  (he:ay (e::es) X.env=(false,eval e X.env)::ay es X.env:=by rfl) (BV:(ja pos<|ay es X.env).any (·.1)=false:=by rfl):PE X (.Call (.Name x p) (e::es) [] pos) (CL r t):=λAA s σ H Q I h=>r_ (M8 I hg hm hv (PyProof.Rows.callWith_builtin1 (AS (ha _ _ s σ H _ I h) (by rintro us s1 ⟨vs,H1,I1,r1,q1⟩;exact hc _ s1 σ H1 vs us Q I1 r1 q1)) he BV) hn hdb)
def O0(hc:EB X (.type T) r)(hg:Gl X x)(hm:X.mg x=none)(hv:nz x=some (.type T))(ha:PA X (e::es) t)(hn:x≠"__name__":=by decide)(hdb:(x ==("__debug__":Str))=false:=by decide)
  (he:ay (e::es) X.env=(false,eval e X.env)::ay es X.env:=by rfl) (BV:(ja pos<|ay es X.env).any (·.1)=false:=by rfl):PE X (.Call (.Name x p) (e::es) [] pos) (CL r t):=λAA s σ H Q I h=>r_<|M8 I hg hm hv (ji (AS (ha _ _ s σ H _ I h) λus s1 ⟨vs,H1,I1,r1,q1⟩=>hc _ s1 σ H1 vs us Q I1 r1 q1) he BV) hn hdb
end
end L2
namespace HT
open PySem PyProof.Rows
section
open PySem.SeqAt
open PySem.AutoSeq1 (wpAny_loadPart')
open PySem.MeetsSeq PySem.MeetsSeq2 PySem.MeetsSeq3
end
section
variable{prog:bw}{w:World}{A:dk}{E:tQ}{s:ξ}
def cat_tup(ht:IsTup s.heap t vs.toArray)(hb:IsTup s.heap b ws.toArray)(hv:vs≠[])
  (h1:ws=[]->Q (.ref t) s) (h2:ws≠[]->Q (.ref s.heap.objs.size) { s with heap:=s.heap.push { cls:=.type "tuple",data:=.seq (vs++ws).toArray } })
  (hsz:vs.length+ws.length<=sizeLine):wpAny (model prog w) A (iq .Add (.ref t) (.ref b)) Q E s:=by
 obtain⟨⟨cls,dd,data,sl⟩,ho,hc,n,hd⟩:=id ht;obtain⟨⟨cls2,dd2,data2,sl2⟩,ho2,hc2,n2,hd2⟩:=id hb;subst hc hd hc2 hd2
 have e:vs.toArray++ws.toArray=(vs++ws).toArray:=by simp
 by_cases hw:ws=[];exact Dr ⟨_,ho,rfl⟩ ⟨_,ho2,rfl⟩ ya Br PySem.F.slot_tuple_add PySem.F.entry_tuple_add (PySem.F.args_tuple_add_2 _ _)
  (tuple_addW1 t b _ _ n n2 dd _ sl _ (by simpa using hv) (by simp[hw])) {ho,ho2,h1 hw}
 refine Dr ⟨_,ho,rfl⟩ ⟨_,ho2,rfl⟩ ya Br PySem.F.slot_tuple_add PySem.F.entry_tuple_add (PySem.F.args_tuple_add_2 _ _)
  (tuple_addW2 t b _ _ n n2 dd _ sl _ (by simpa using hv) (by simpa using hw) (by exact hsz)) {ho,ho2,?_}
 rw[e];exact h2 hw
def sIx(n d:Nat):Option Int->Nat
 |none=>d
 |some v=>if v<0 then(v+(n:Int)).toNat else min v.toNat n
def sIx_none(n d:Nat):sIx n d none=d:=rfl
def kK(v:Int)(n d:Nat):(if v<0 then max (v+(n:Int)) 0 else min v (n:Int))=((sIx n d (some v):Nat):Int):=by
 show(if v<0 then max _ 0 else min v n)=(((if v<0 then(v+n).toNat else min _ n)));by_cases hv:v<0;simp only[if_pos hv];lia;simp only[if_neg hv];lia
def Rg(lo hi:Option Int)(n:Nat):wu lo hi 1 (n:Int)=(((sIx n 0 lo:Nat):Int),((sIx n n hi:Nat):Int)):=by
 refine Prod.ext ?_ ?_;cases lo with
 |none=>rfl
 |some v=>exact kK v n 0
 cases hi with
 |none=>rfl
 |some v=>exact kK v n n
def Rh(i j:Nat):oz (i:Int) (j:Int) 1=j-i:=by
 unfold oz;split<;>omega
def kL(p:zp v o)(h:Q o s):wpAny (model prog w) A (Iy v) Q E s:=by
 cases p with
 |none=>exact slicePart_none h
 |int i t=>exact slicePart_int h
def Rj{sl:Addr}{vl vu:Value}{lo hi:Option Int}{n:Nat}{Q:Int × Int × Nat->ξ->Prop}(hs:s.heap.IsSliceOf sl vl vu .none)(pl:zp vl lo)(pu:zp vu hi)
  (h:Q (((sIx n 0 lo:Nat):Int),1,sIx n n hi-sIx n 0 lo) s):wpAny (model prog w) A (Ko (.ref sl) (pure (n:Int))) Q E s:=by
 obtain⟨os,hos,hcs,hds⟩:=id hs;refine δ<|δ<|jb hos hds  rfl (δ<|jb hos hds  rfl (δ<|jb hos hds  rfl (π<|δ<|slicePart_none<|δ<|kL pl<|δ<|kL pu<|δ<|π ?_)))
 show wpAny _ _ (match wu lo hi 1 n with|(lo,hi)=>pure (lo,(1:Int),oz lo hi 1)) _ _ s;rw[Rg lo hi n]
 show wpAny _ _ (pure _) _ _ s;rw[Rh];exact π h
def Rk(xs:Array Value)(i k:Nat):((ν k).filterMap λ(m:Nat)=>xs[((i:Int)+(m:Int)*1).toNat]?).toArray=((xs.toList.drop i).take k).toArray:=by
 have e:(λ(m:Nat)=>xs[(i+(m:Int)*1).toNat]?)=λm=>xs[i+m]? :=by
  funext m
  have:(i+(m:Int)*1).toNat=i+m:=by lia
  rw[this]
 have:=pick_run xs i k;rw[e];rw[List.filterMap_map]at this
 have e2:((λx=>xs[x]?) ∘ λx=>i+x)=λm=>xs[i+m]? :=rfl;rw[e2]at this;rw[this]
def getItem_tuple_cut{t sl:Addr}{BW:Array Value}{vl vu:Value}{lo hi:Option Int}{Q:tQ}(ht:IsTup s.heap t BW)(hs:s.heap.IsSliceOf sl vl vu .none)(pl:zp vl lo)(pu:zp vu hi)
  (hw:¬ (sIx BW.size 0 lo=0/\sIx BW.size BW.size hi=BW.size))
  (h:Q (.ref s.heap.objs.size) { s with heap:=s.heap.push { cls:=.type "tuple",data:=.seq ((BW.toList.drop<|sIx BW.size 0 lo).take (sIx BW.size BW.size hi-sIx BW.size 0 lo)).toArray } })
  (hsz:BW.size<=sizeLine):wpAny (model prog w) A (yj (.ref t) (.ref sl)) Q E s:=by
 obtain⟨os,hos,hcs,hds⟩:=id hs
 have htake:sizeOk (.seq ((BW.toList.drop<|sIx BW.size 0 lo).take (sIx BW.size BW.size hi-sIx BW.size 0 lo)).toArray):=by
  show((BW.toList.drop _).take _).toArray.size<=sizeLine;rw[az,ce,jn,cy];omega
 unfold yj
 try with_reducible refine fm ?_
 refine δ (wpAny_sequenceKey ht.typeIs (by decide) ?_);refine δ (fe  ht.typeIs jg
  (fq jg ht.typeIs entry_tuple_getitem ?_<|args_tuple_getitem _ _))
 show wpAny _ _ (Kr _>>=_) _ _ s;refine δ<|tupleItemsOf_ ht<|δ<|yk ⟨os,hos,hcs⟩ (δ<|Rj hs pl pu ?_)
 have hno:¬ ((((sIx BW.size 0 lo):Int)==0&&(1:Int)==1&&(sIx BW.size BW.size hi-sIx BW.size 0 lo)==BW.size)=true):=by
  intro q;rw[cb,cb]at q
  have q1:=eq_of_beq q.1.1
  have q2:=eq_of_beq q.2;exact hw {cg q1,by omega}
 show wpAny _ _ (if(((sIx _ 0 lo):Int)==0&&1==1&&(sIx _ _ hi-sIx _ 0 lo)==BW.size)=true then _ else _) _ _ s;rw[if_neg hno,Rk]
 first
  |exact δ  _
  |exact δ  (fz (δ<|π<|π {_,rfl,π h}) htake)
  |exact δ _
  |exact δ _
end
end HT
namespace L2
abbrev TO:=St->Hp->(Option Int->Hp->Prop)->Prop
def PO(X:Cx)(e:Option Expr)(t:TO):Prop :=
 ∀ (AA:tI) (s:ξ) (σ:St) (H:Hp) (Q:Option Int->Hp->Prop),Inv X AA σ H s->t σ H Q ->
  wpAny (model X.prog X.w) X.A (evalPart e X.env) (λu s'=>∃ o H',Inv X AA σ H' s'/\zp u o/\Q o H') X.xe s
def IQ:TO:=λ_ H Q=>Q none H
def O1(t:TE):TO:=λσ H Q=>t σ H λx H1=>∃ i,x=.int i/\Q (some i) H1
section
variable{X:Cx}{e:Expr}{te:TE}{lo hi:Option Expr}{tl th:TO}{pos p2:Pos}
def Rl:PO X none IQ:=λAA s σ H Q I h=>π<|x2 _ H {I,.none,h}
def Rm(h:PE X e te):PO X (some e) (O1 te):=by
 refine λAA s σ H Q I hw=>AS (h _ s σ H _ I hw) λu s1 hzz=>?_;obtain⟨x,H1,I1,r1,⟨i,rfl,q⟩⟩:=hzz;obtain⟨t,rfl⟩:=r1;exact x2 _ H1 {I1,.int i t,q}
def SlR(X:Cx)(r:V->Option Int->Option Int->Hp->VK->Prop):Prop :=
 ∀ (AA:tI) (s:ξ) (σ:St) (H:Hp) (x:V) (v vl vu:Value) (lo hi:Option Int) (sl:Addr) (Q:VK),Inv X AA σ H s->RelV x v->s.heap.IsSliceOf sl vl vu .none->zp vl lo->zp vu hi->r x lo hi H Q ->
  ∃ T id,Ks (.type T) "__getitem__"=pure (some<|.builtin id)/\s.TypeIs v T/\wpAny (model X.prog X.w) X.A (yj v<|.ref sl) (EP X AA σ Q) X.xe s
def SlR.or(h:SlR X r)(h':SlR X r'):SlR X (λx lo hi H Q=>r x lo hi H Q\/r' x lo hi H Q):=by
 intro AA s σ H x v vl vu lo hi sl Q I rx hs pl pu q;rcases q with q|q
 exact h _ s σ H x v vl vu lo hi sl Q I rx hs pl pu q;exact h' _ s σ H x v vl vu lo hi sl Q I rx hs pl pu q
def IR(r:V->Option Int->Option Int->Hp->VK->Prop)(te:TE)(tl th:TO):TE:=λσ H Q=>te σ H λx H1=>tl σ H1 λl H2=>th σ H2 λu H3=>r x l u H3 Q
def Rp(hr:SlR X r)(he:PE X e te)(hl:PO X lo tl)(hu:PO X hi th):PE X (.Subscript e (.Slice lo hi none p2) pos) (IR r te tl th):=by
 refine λAA s σ H Q I h=>Kt<|AS (he _ s σ H _ I h) λv s1 ⟨x,H1,I1,r1,q1⟩=>(wpAny_Slice<|AS (hl _ s1 σ H1 _ I1 q1) λvl s2 ⟨l,H2,I2,pl,q2⟩=>AS (hu _ s2 σ H2 _ I2 q2) λvu s3 hzz=>?_);obtain⟨u,H3,I3,pu,q3⟩:=hzz
 have I4:Inv X _ σ H3 { s3 with heap:=s3.heap.push { cls:=.type "slice",data:=.fields #[vl,vu,.none] } }:=I3.kept  λb ob q=>ο _ q;refine π<|u2 ?_<|hr _ _ σ H3 x v vl vu l u _ Q I4 r1 (Ob ..) pl pu q3;rintro T id ⟨hT,ht,hg⟩;exact tail_any  ht hT hg (by with_unfolding_all rfl)
def FX(xs:Oq)(lo hi:Option Int):Oq:=(xs.drop<|HT.sIx xs.length 0 lo).take (HT.sIx xs.length xs.length hi-HT.sIx xs.length 0 lo)
def kM(xs:Oq)(lo hi:Option Int):(FX xs lo hi).length<=xs.length:=by
 unfold FX;rw[ce,jn]
 lia
def kN(K:ι):V->Option Int->Option Int->Hp->VK->Prop:=λx lo hi H Q=>∃ a xs,x=.ref a/\SqT K H a xs /\
 ¬ (HT.sIx xs.length 0 lo=0/\HT.sIx xs.length xs.length hi=xs.length)/\∀ p,H p=none->Q (.ref p) (upd H p<|.tup<|FX xs lo hi)
def Rq:SlR X (kN X.K):=by
 intro AA s σ H x v vl vu lo hi sl Q I rx hs pl pu h;revert h;apply u2;rintro a xs ⟨rfl,hx,hw,q⟩;subst rx;obtain⟨AJ,r,ht,hz⟩:=I.tuple hx
 have CG:AJ.toArray.size=xs.length:=r.length.symm;refine x2 _ _ {jg.lookup,ht.typeIs,(HT.getItem_tuple_cut ht hs pl pu (by rw[CG];exact hw) ?_ (by rw[CG];exact hz))};rw[CG];exact x2 (.ref _) _ {I.laid  (o:=.tup _) (λb ob q=>ο _ q) (υ _) {ω (kM xs lo hi) hz,_,(r.drop _).take _,Mt _ _},rfl,q _<|I.hok.fresh<|υ _}
def VM(K:ι):R2:=λx y H Q=>∃ a b xs ys,x=.ref a/\y=.ref b/\SqT K H a xs/\SqT K H b ys/\xs≠[]/\xs.length+ys.length<=sizeLine /\
 (ys=[]->Q (.ref a) H)/\(ys≠[]->∀ p,H p=none->Q (.ref p) (upd H p<|.tup<|xs++ys))
def Vals.nil_iff(r:Vals xs us):us=[]↔xs=[]:=by
 cases r with
 |nil=>simp
 |cons _ _=>simp
def Rv:B9 X (iq .Add) (VM X.K):=by
 intro AA s σ H x y v u Q I rx ry h;revert h;apply u4;rintro a b xs ys ⟨rfl,rfl,ha,hb,hx,hz,q1,q2⟩;subst rx;obtain⟨AJ,r1,p1,t⟩:=I.tuple ha;subst ry;obtain⟨LW,r2,p2,t⟩:=I.tuple hb;exact HT.cat_tup p1 p2 (λz=>hx<|r1.nil_iff.mp z) (λz=>x2 (.ref a) H {I,rfl,q1<|r2.nil_iff.mp z}) (λz=>(x2 (.ref _) _ {I.laid  (o:=.tup _) (λb ob q=>ο _ q) (υ _) {by rw[af];exact hz,_,r1.append r2,Mt _ _},rfl,q2 (λw=>z<|r2.nil_iff.mpr w) _ (I.hok.fresh<|υ _)})) (by rw[<-r1.length,<-r2.length];exact hz)
end
def HP(n:Nat)(i:Int):Option Nat:=if 0<=i then(if i<n then some i.toNat else none)else if -(n:Int)<=i then some (i+n).toNat else none
def L6{α :Type}(xs:List α)(i:Int):Option α :=(HP xs.length i).bind λj=>xs[j]?
def kO(h:HP n i=some j):seqIndex? i n=some j/\j<n/\ -(n:Int)<=i/\i<n:=by
 unfold HP at h;by_cases h0:0<=i;rw[if_pos h0]at h;by_cases h1:i<n;rw[if_pos h1]at h
 have e:=μ h;exact{by rw[Ir h0 h1,e],by omega,by omega,h1};rw[if_neg h1]at h;cases h;rw[if_neg h0]at h;by_cases h1: -n<=i;rw[if_pos h1]at h
 have e:=μ h;exact{by rw[Ds (by omega) h1,e],by omega,h1,by omega};rw[if_neg h1]at h;cases h
def VN{α :Type}{xs:List α}{i:Int}{v: α}(h:L6 xs i=some v):∃ j,seqIndex? i xs.length=some j/\xs[j]? =some v/\j<xs.length/\ -(xs.length:Int)<=i/\i<xs.length:=by
 unfold L6 at h;cases e:HP _ i with
 |none=>rw[e]at h;cases h
 |some j =>
  rw[e]at h;obtain⟨h1,h2,h3,h4⟩:=kO e;exact⟨j,h1,h,h2,h3,h4⟩
def VO{α :Type}{xs:List α}{j:Nat}{v: α}(h:xs[j]? =some v):L6 xs (j:Int)=some v:=by
 have e:HP xs.length j=some j:=by
  unfold HP;rw[if_pos (i0),if_pos<|dn.mpr<|(ε.mp h).1];simp
 unfold L6;rw[e];exact h
def Rw(b:Expr):Prop:=∀ o i,zq b false o i=operate [o,i] (yj o i)
def IxR(X:Cx)(r:R2):Prop :=
 ∀ (value slice:Expr) (AA:tI) (s:ξ) (σ:St) (H:Hp) (x y:V) (v u:Value) (Q:VK),Inv X AA σ H s->RelV x v->RelV y u->r x y H Q ->
  zq slice false v u=operate [v,u] (yj v u)->wpAny (model X.prog X.w) X.A (subscriptTail value slice v u) (EP X AA σ Q) X.xe s
def kP(X:Cx)(id:String)(r:V->Oq->Hp->VK->Prop):Prop :=
 ∀ (AA:tI) (s:ξ) (σ:St) (H:Hp) (x:V) (xs:Oq) (v:Value) (us:sV) (Q:VK),Inv X AA σ H s->RelV x v->Vals xs us->r x xs H Q ->
  wpAny (model X.prog X.w) X.A (call (.builtin id) (v::us)) (EP X AA σ Q) X.xe s
section
variable{X:Cx}{a b:Expr}{ta tb:TE}{pos:Pos}
def IxR.or(h:IxR X r)(h':IxR X r'):IxR X (λx y H Q=>r x y H Q\/r' x y H Q):=by
 intro value slice AA s σ H x y v u Q I rx ry q hs;rcases q with q|q
 exact h _ _ _ s σ H x y v u Q I rx ry q hs;exact h' _ _ _ s σ H x y v u Q I rx ry q hs
def kQ(hr:IxR X r)(ha:PE X a ta)(hb:PE X b tb)(hs:Rw b):PE X (.Subscript a b pos) (AD r ta tb):=λAA s σ H Q I h=>Kt<|VE ha hb I h λv u s2 x y H2 I2 rx ry q=>hr a b _ s2 σ H2 x y v u Q I2 rx ry q<|hs _ _
def kR(K:ι):R2:=λx y H Q=>∃ p xs i v,x=.ref p/\y=.int i/\SqL K H p xs/\L6 xs i=some v/\Q v H
def kS(K:ι):R2:=λx y H Q=>∃ p xs i v,x=.ref p/\y=.int i/\SqT K H p xs/\L6 xs i=some v/\Q v H
def kT:R2:=λx y H Q=>∃ z i c,x=.str z/\y=.int i/\z.length<=sizeLine/\L6 z.cps.toList i=some c/\Q (.str {#[c]}) H
def Rx:IxR X (kR X.K):=by
 intro value slice AA s σ H x y v u Q I rx ry h hs;revert h;apply u4;rintro p xs i z ⟨rfl,rfl,hq,he,q⟩;subst rx;obtain⟨AJ,r,pl,hz⟩:=I.list hq;obtain⟨j,h1,h2,h3,h4,h5⟩:=VN he;obtain⟨t,rfl⟩:=ry;obtain⟨w,ew,rw'⟩:=r.get h2
 have hl:=r.length
 have hn:=OV
 have fin:EP X _ σ Q w s:=x2 z H ⟨I,rw',q⟩;by_cases h0:0<=i
 have hj:i.toNat=j:=by
  rw[Ir h0 h5]at h1;exact μ h1
 exact item_listR pl.isList h0 (by lia) (by rw[hj];simpa using ew) fin hs
 have hj:(i+AJ.toArray.size).toNat=j:=by
  rw[Ds (by omega) h4]at h1;rw[az,<-hl];exact μ h1
 exact yl  pl.isList.typeIs Dt.lookup
  (wpAny_getItem_list_neg  pl.isList (by omega) (by rw[az]<;>exact hl ▸ h4) (by lia) (by rw[hj];simpa using ew) ⟨rfl,fin⟩) hs
def Ry:IxR X (kS X.K):=by
 intro value slice AA s σ H x y v u Q I rx ry h hs;revert h;apply u4;rintro p xs i z ⟨rfl,rfl,hq,he,q⟩;subst rx;obtain⟨AJ,r,pl,hz⟩:=I.tuple hq;obtain⟨j,h1,h2,h3,h4,h5⟩:=VN he;obtain⟨t,rfl⟩:=ry;obtain⟨w,ew,rw'⟩:=r.get h2
 have hn:=OV;exact yl  pl.typeIs jg.lookup
  (getItem_tuple   pl (by lia) (by lia) (by rw[az,<-r.length];exact h1) (by simpa using ew) {rfl,(x2 z H ⟨I,rw',q⟩)}) hs
def Rz:IxR X kT:=by
 intro value slice AA s σ H x y v u Q I rx ry h hs;revert h;apply u3;rintro z i c ⟨rfl,rfl,hz,he,q⟩;obtain⟨t,rfl⟩:=rx;obtain⟨t',rfl⟩:=ry;obtain⟨j,h1,h2,h3,h4,h5⟩:=VN he
 have hl:z.cps.toList.length=z.length:=by simp[Cf]
 rw[hl]at h1 h4 h5
 have hn:=OV;exact tail_any (Ku s z t) slot_str_getitem.lookup (getItem_str  (by
  rw[(decide_eq_false (by omega)),(decide_eq_false (by omega)),pq]) (by rw[h1];simpa using h2) (x2 (.str _) H {I.tok _,⟨_,rfl⟩,q})) hs
def kU(K:ι):R2:=λx y H Q=>kR K x y H Q\/kS K x y H Q\/kT x y H Q
def Sb:IxR X (kU X.K):=Rx.or<|Ry.or Rz
def Sc(AJ:sV)(n j:Nat)(u:Value):lq (·.setIfInBounds j u) { cls:=.type "list",data:=.seq AJ.toArray n }={ cls:=.type "list",data:=.seq (AJ.set j u).toArray n }:=by
 simp[lq]
def Inv.lst{AA:tI}{σ:St}{H:Hp}{s:ξ}{p:Addr}{xs:Oq}(I:Inv X AA σ H s)(h:H p=some (.lst xs)) :
  ∃ (AJ:sV) (n:Nat),Vals xs AJ/\s.heap.get? p=some { cls:=.type "list",data:=.seq AJ.toArray n }/\xs.length<=sizeLine:=by
 obtain⟨z,AJ,n,r,e⟩:=I.hok p _ h;exact x2 _ n ⟨r,e,z⟩
def Inv.lstUpd{s:ξ}{xs ys:Oq}{AJ its':sV}{f:Obj->Obj}(I:Inv X AA σ H s)(h:H p=some (.lst xs))
  (ho:s.heap.get? p=some { cls:=.type "list",data:=.seq AJ.toArray n }) (hf:f { cls:=.type "list",data:=.seq AJ.toArray n }={ cls:=.type "list",data:=.seq its'.toArray n' }) (r:Vals ys its') (hz:ys.length<=sizeLine) (t:Nat) :
  Inv X AA σ (upd H p<|.lst ys) { s with heap:=s.heap.update p f,toks:=t }:=by
 have e:(s.heap.update p f).get? p=some { cls:=.type "list",data:=.seq its'.toArray n' }:=by
  rw[df f ho (by rw[hf]<;>rfl),hf]
 exact I.write   (by rw[h];trivial) (.inl rfl) (λb u hb q=>(c_ _ _<|eh hb).trans q) ⟨_,e⟩ ({hz,x2 _ n' ⟨r,e⟩})
def kW:V->V->V->Hp->(Hp->Prop)->Prop:=λo i v H Q=>∃ p xs k j,o=.ref p/\i=.int k/\H p=some (.lst xs)/\HP xs.length k=some j/\Q (upd H p<|.lst<|xs.set j v)
def Sd:VD X kW:=by
 intro AA s σ H o i v ov iv u Q I ro ri rv h;revert h;apply u4;rintro p xs k j ⟨rfl,rfl,hp,hj,q⟩;subst ro;obtain⟨t,rfl⟩:=ri;refine u2 ?_<|I.lst hp;rintro AJ n ⟨r,ho,hz⟩;obtain⟨h1,h2,h3,h4⟩:=kO hj
 have hl:=r.length
 have hn:=OV
 have I':Inv X _ σ _ _ :=
  I.lstUpd hp ho (Sc _ n j u) (r.set rv j) (by rw[jd];exact hz) s.toks
 by_cases h0:0<=k
 have hk:k.toNat=j:=by
  rw[Ir h0 h4]at h1;exact μ h1
 exact W.ki_setAt ho h0 (by lia) (by rw[az,<-hl];exact h4) (by rw[hk];exact⟨_,I',q⟩)
 have hk:(k+AJ.toArray.size).toNat=j:=by
  rw[Ds (by omega) h3]at h1;rw[az,<-hl];exact μ h1
 exact W.ki_setBack ho (by omega) (by rw[az,<-hl];exact h3) (by lia) (by rw[hk];exact⟨_,I',q⟩)
def Sg(lo hi:Option Int)(n:Nat):(s_ lo hi none n).1=((HT.sIx n 0 lo:Nat):Int)/\(s_ lo hi none n).2.1=((HT.sIx n n hi:Nat):Int)/\(s_ lo hi none n).2.2=1:=by
 refine{?_,?_,rfl};cases lo with
 |none=>simp[s_,HT.sIx]
 |some i =>
  simp only[s_,HT.sIx,Gu];by_cases h:i<0;simp only[h,if_true]<;>omega;simp only[h,if_false]<;>omega
 cases hi with
 |none=>simp[s_,HT.sIx]
 |some i =>
  simp only[s_,HT.sIx,Gu];by_cases h:i<0;simp only[h,if_true]<;>omega;simp only[h,if_false]<;>omega
def Sh(AJ:sV)(lo hi:Option Int):slicePick AJ.toArray lo hi none=((AJ.drop<|HT.sIx AJ.length 0 lo).take (HT.sIx AJ.length AJ.length hi-HT.sIx AJ.length 0 lo)).toArray:=by
 obtain⟨h1,h2,h3⟩:=Sg lo hi _;unfold slicePick;rw[h1,h2,h3];simp only[sliceRange_one,pick_run]<;>rfl
def kX(K:ι):V->Option Int->Option Int->Hp->VK->Prop:=λx lo hi H Q=>∃ a xs,x=.ref a/\SqL K H a xs/\∀ p,H p=none->Q (.ref p) (upd H p<|.lst<|FX xs lo hi)
def Sj:SlR X (kX X.K):=by
 intro AA s σ H x v vl vu lo hi sl Q I rx hs pl pu h;revert h;apply u2;rintro a xs ⟨rfl,hx,q⟩;subst rx;obtain⟨AJ,r,ht,hz⟩:=I.list hx
 have CG:=r.length;refine x2 _ _ {Dt.lookup,ht.isList.typeIs,(wpAny_getItem_list_slice ht.isList hs pl pu .none (by simp) ?_ (by rw[az]<;>exact CG ▸ hz))};rw[Sh,<-CG];exact x2 (.ref _) _ {I.laid  (o:=.lst _) (λb ob q=>ο _ q) (υ _) ({ω (kM xs lo hi) hz,x2 _ 0 {(r.drop _).take _,aw _ rfl}}),rfl,q _<|I.hok.fresh<|υ _}
def HQ:V->Bool
 |.non=>true
 |.bl _=>true
 |.int _=>true
 |.str _=>true
 |_=>false
def G9:V->V->Bool
 |.non,.non=>true
 |.bl a,.bl b=>a==b
 |.bl a,.int b=>(if a then 1 else 0)==b
 |.int a,.bl b=>a ==(if b then 1 else 0)
 |.int a,.int b=>a==b
 |.str a,.str b=>a==b
 |_,_=>false
def Sk(ry:RelV y u)(rx:RelV x v)(fy:HQ y=true)(fx:HQ x=true):Oc A s u v (G9 y x):=by
 cases y with
 |non =>
  cases ry;cases x with
  |non=>subst rx;exact SeqAt.EqAt.same _
  |bl b=>subst rx;exact SeqAt.EqAt.none_bool b
  |int b=>obtain⟨t,rfl⟩:=rx;exact SeqAt.EqAt.none_int b t
  |str b=>obtain⟨t,rfl⟩:=rx;exact SeqAt.EqAt.none_str b t
  |_=>exact absurd (fx) ax
 |bl a =>
  subst ry;cases x with
  |non=>subst rx;exact SeqAt.EqAt.bool_none a
  |bl b=>subst rx;exact SeqAt.EqAt.bool_bool a b
  |int b=>obtain⟨t,rfl⟩:=rx;exact SeqAt.EqAt.bool_int a b t
  |str b=>obtain⟨t,rfl⟩:=rx;exact SeqAt.EqAt.bool_str a b t
  |_=>exact absurd (show false=true from fx) ax
 |int a =>
  obtain⟨t',rfl⟩:=ry;cases x with
  |non=>cases rx;exact SeqAt.EqAt.int_none a t'
  |bl b=>cases rx;exact SeqAt.EqAt.int_bool a t' b
  |int b=>obtain⟨t,rfl⟩:=rx;exact SeqAt.EqAt.int_int a t' b t
  |str b=>obtain⟨t,rfl⟩:=rx;exact B_ a t' b t
  |_=>exact absurd (show false=true from fx) ax
 |str a =>
  obtain⟨t',rfl⟩:=ry;cases x with
  |non=>cases rx;exact SeqAt.EqAt.str_none a t'
  |bl b=>cases rx;exact SeqAt.EqAt.str_bool a t' b
  |int b=>obtain⟨t,rfl⟩:=rx;exact Ca a t' b t
  |str b=>obtain⟨t,rfl⟩:=rx;exact SeqAt.EqAt.str_str a t' b t
  |_=>exact absurd (show false=true from fx) ax
 |_=>exact absurd (show false=true from fy) ax
def O2(x:V)(u:Value):Bool:=match u with
 |.none=>G9 .non x
 |.bool b=>G9 (.bl b) x
 |.int i _=>G9 (.int i) x
 |.str z _=>G9 (.str z) x
 |_=>false
def kY(r:RelV y u)(f:HQ y=true):O2 x u=G9 y x:=by
 cases y with
 |non=>subst r;rfl
 |bl b=>subst r;rfl
 |int i=>obtain⟨t,rfl⟩:=r;rfl
 |str z=>obtain⟨t,rfl⟩:=r;rfl
 |_=>exact absurd (f) ax
theorem VP:∀ {xs:Oq} {us:sV},Vals xs us->xs.all HQ=true->us.any (O2 x)=xs.any λy=>G9 y x
 |_,_,.nil,_=>rfl
 |y::xs,u::us,.cons r t,f=>by
  rw[uy,cb]at f;rw[pr,pr,kY r f.1,VP t f.2]
theorem VQ(rx:RelV x v)(fx:HQ x=true):∀ {xs:Oq} {us:sV},Vals xs us->xs.all HQ=true->∀ u∈us,Oc A s u v (O2 x u)
 |_,_,.nil,_=>λu hu=>by cases hu
 |y::xs,u::us,.cons r t,f=>λu' hu=>by
  rw[uy,cb]at f;rcases aj.mp hu with rfl|hu
  rw[kY r f.1];exact Sk r rx f.1 fx;exact VQ rx fx t f.2 u' hu
def NC(x:V)(xs:Oq):Bool:=xs.any λy=>G9 y x
def kZ(K:ι)(neg:Bool):R2:=λx y H Q=>∃ p xs,y=.ref p/\(SqL K H p xs\/SqT K H p xs)/\HQ x=true/\xs.all HQ=true/\Q (.bl<|if neg then !NC x xs else NC x xs) H
def Sl:B9 X (du .In) (kZ X.K false):=by
 intro AA s σ H x y v u Q I rx ry h;revert h;apply u2;rintro p xs ⟨rfl,hq,fx,fs,q⟩;subst ry;rcases hq with hq|hq
 obtain⟨AJ,r,pl,hz⟩:=I.list hq;refine SeqAt.in_listAt _ pl.isList (λw hw=>VQ rx fx r fs w (by simpa using hw)) (x2 (.bl _) H {I,rfl,?_});rw[show AJ.toArray.any _=AJ.any (O2 x) by simp,VP r fs];exact q;obtain⟨AJ,r,pl,hz⟩:=I.tuple hq;refine G_ _ pl (λw hw=>VQ rx fx r fs w (by simpa using hw)) (x2 (.bl _) H {I,rfl,?_});rw[show AJ.toArray.any _=AJ.any (O2 x) by simp,VP r fs];exact q
def Sm:EB X (.type "list") (λxs H Q=>∃ p ys,xs=[.ref p]/\(SqL X.K H p ys\/SqT X.K H p ys)/\∀ l,H l=none->Q (.ref l) (upd H l<|.lst ys)):=by
 intro AA s σ H xs us Q I r h;revert h;apply u2;rintro p ys ⟨rfl,hq,q⟩
 have fin:∀ (AJ:List _),Vals ys _->ys.length<=sizeLine->∀ (h':Heap) (c':Nat),(∀ b o',s.heap.get? b=some o'->h'.get? b=some o') ->
   h'.get? _=some _->EP X _ σ Q _ { s with heap:=h' }:=λAJ r' hz h' c' kp e =>
  {.ref _,_,I.laid  kp (υ _) (show ObjOk _ _ _ h' _ (.lst ys)from{hz,x2 AJ c' ⟨r',e⟩}),rfl,q _<|I.hok.fresh<|υ _}
 obtain⟨u,rfl,rfl⟩:=GQ r;rcases hq with hq|hq
 obtain⟨AJ,r',pl,hz⟩:=I.list hq;obtain⟨o,ho,hc,n,hd⟩:=pl.isList;exact call_list_seq p (.inl rfl) ho hc hd (λh' c' kp e=>fin _ r' hz h' c' kp e) (by simp only[az]<;>exact r'.length ▸ hz);obtain⟨AJ,r',⟨o,ho,hc,n,hd⟩,hz⟩:=I.tuple hq;exact call_list_seq p (.inr rfl) ho hc hd (λh' c' kp e=>fin _ r' hz h' c' kp e) (by simp only[az]<;>exact r'.length ▸ hz)
def Sq:EB X (.type "tuple") (λxs H Q=>∃ p ys,xs=[.ref p]/\((SqL X.K H p ys/\∀ l,H l=none->Q (.ref l) (upd H l<|.tup ys))\/(SqT X.K H p ys/\Q (.ref p) H))):=by
 intro AA s σ H xs us Q I r h;revert h;apply u2;rintro p ys ⟨rfl,h⟩;obtain⟨u,rfl,rfl⟩:=GQ r;rcases h with⟨hq,q⟩|⟨hq,q⟩
 obtain⟨AJ,r',pl,hz⟩:=I.list hq;refine call_tuple_list pl.isList (λh' kp=>?_) (by simp only[az]<;>exact r'.length ▸ hz)
 have I1:Inv X _ σ H { s with heap:=h' }:=I.kept  kp
 have I2:Inv X _ σ (upd H _<|.tup ys) { s with heap:=h'.push _ } :=
  I1.laid  (λb o e=>ο _ e) (υ _) ({hz,_,r',Mt _ _})
 exact x2 (.ref _) _ {I2,rfl,q _<|I1.hok.fresh<|υ _};obtain⟨AJ,r',pl,hz⟩:=I.tuple hq;exact call_tuple_same pl<|x2 (.ref p) H ⟨I,rfl,q⟩
def VR(K:ι)(T:String)(x:V)(H:Hp):Prop:=match x with
 |.str _=>T="str"
 |.int _=>T="int"
 |.ref p=>(T="list"/\∃ xs,SqL K H p xs)\/(T="tuple"/\∃ o,K.lookup p=some o/\o.cls=.type "tuple"/\o.dict=none) ∨
   (T="dict"/\((∃ kvs,H p=some (.dK kvs))\/∃ kvs,H p=some (.dT kvs)))\/(T="set"/\∃ S n,H p=some (.set S n))
 |_=>False
def Sv(I:Inv X AA σ H s)(r:RelV x v)(ty:VR X.K T x H) :
  s.TypeIs v T/\∀ a,v=.ref a->∃ ob,s.heap.get? a=some ob/\ob.dict=none:=by
 cases x with
 |str z =>
  obtain⟨t,rfl⟩:=r;cases (ty);exact{Ku s z t,λ_ e=>nomatch e}
 |int i =>
  obtain⟨t,rfl⟩:=r;cases (ty);exact{ym s i t,λ_ e=>nomatch e}
 |ref p =>
  subst r;rcases ty with⟨rfl,xs,hq⟩|⟨rfl,o,hk,hc,hd⟩|⟨rfl,hk⟩|⟨rfl,S,n,hk⟩
  obtain⟨AJ,_,pl,_⟩:=I.list hq;refine{pl.isList.typeIs,λa e=>?_};cases e;revert pl;apply u2;rintro o n ⟨e,c,hd,_⟩;exact⟨o,e,hd⟩;refine{{o,I.kIn p o hk,hc},λa e=>?_};cases e;exact{o,I.kIn _ o hk,hd}
  have z:∃ o,s.heap.get? p=some o/\o.ExactDict:=by
   rcases hk with⟨kvs,hk⟩|⟨kvs,hk⟩
   obtain⟨_,_,_,_,o,_,_,e,ex,_⟩:=I.hok p _ hk;exact⟨o,e,ex⟩;obtain⟨_,_,_,_,o,_,_,e,ex,_⟩:=I.hok p _ hk;exact⟨o,e,ex⟩
  obtain⟨o,e,ex⟩:=z;refine{⟨o,e,ex.1⟩,λa e2=>?_};cases e2;exact⟨o,e,ex.2.1⟩;refine u4 ?_<|I.hok p _ hk;rintro o _ _ _ ⟨e,ex,_⟩;refine{⟨o,e,ex.1⟩,λa e2=>?_};cases e2;exact⟨o,e,ex.2.1⟩
 |_=>exact jq ty
def DY(K:ι)(T:String)(r:V->Oq->Hp->VK->Prop)(to:TE)(t:TA):TE:=λσ H Q=>to σ H λx H1=>VR K T x H1/\t σ H1 λxs H2=>r x xs H2 Q
variable{o e:Expr}{es:wW}{to:TE}{t:TA}{name:Str}{C1 DP:Pos}{T id:String}{r:V->Oq->Hp->VK->Prop}
def R1(pa:PlainAttrs T)(slot:Slot T name id)(hty:typeOf (.builtin id)=pure (.type "method_descriptor"))(hm:kP X id r)(ho:PE X o to)(ha:PA X (e::es) t)
  (hbase:ux o name X.env (eval o X.env)=eval o X.env:=by rfl)
  (hfew:((ja DP<|ay (e::es) X.env).all (λx=> !x.1)&&(u_ DP<|k_ [] X.env).all (λx=>x.1.isSome)
   && decide ((e::es).length+([]:List At).length+(if([]:List At).isEmpty then 0 else 1)<30))=true:=by rfl)
  (hline:(C1.endLine==DP.line)=true:=by rfl) (hs:ay (e::es) X.env=(false,eval e X.env)::ay es X.env:=by rfl) (hplain:(ja DP<|ay es X.env).any (·.1)=false:=by rfl) :
  PE X (.Call (.Attribute o name C1) (e::es) [] DP) (DY X.K T r to t):=by
 refine λAA s σ H Q I h=>wpAny_Call_method_late hbase hfew hline rfl<|AS (ho _ s σ H _ I h) λv s1 hzz=>?_;obtain⟨x,H1,I1,r1,ty,q1⟩:=hzz;obtain⟨h1,h2⟩:=Sv I1 r1 ty
 have hA:=ha DP _ s1 σ H1 _ I1 q1;refine x2 T id {pa,slot,hty,h1,h2,?_};rw[hs]at hA ⊢;exact tz (by show(false||(ja _ _).any _)=false;rw[hplain]<;>rfl) (nq (AS hA (by rintro us s2 ⟨vs,H2,I2,r2,q2⟩;exact hm _ s2 σ H2 x vs v us Q I2 r1 r2 q2)))
end
def R3(X:Cx)(id:String)(r:V->Oq->Hp->VK->Prop):Prop :=
 ∀ (AA:tI) (s:ξ) (σ:St) (H:Hp) (x:V) (xs:Oq) (v:Value) (us:sV) (Q:VK),Inv X AA σ H s->RelV x v->Vals xs us->r x xs H Q ->
  wpAny (model X.prog X.w) X.A (call (.builtin id) (v::us)) (EP X AA σ Q) X.xe s
def Vals.one:∀ {x:V} {us:sV},Vals [x] us->∃ u,us=[u]/\RelV x u:=λh=>by
 obtain⟨u,m,rfl,r,h⟩:=RM h;rw[U9 h];exact⟨_,rfl,r⟩
def Vals.two:∀ {x y:V} {us:sV},Vals [x,y] us->∃ u v,us=[u,v]/\RelV x u/\RelV y v:=λh=>by
 obtain⟨u,m,rfl,r,h⟩:=RM h;obtain⟨v,m,rfl,q,h⟩:=RM h;rw[U9 h];exact y2 ⟨rfl,r,q⟩
theorem Vals.eraseIdx:∀ {xs:Oq} {us:sV} (i:Nat),Vals xs us->Vals (xs.eraseIdx i) (us.eraseIdx i)
 |_,_,_,.nil=>.nil
 |_,_,0,.cons _ t=>t
 |_,_,i+1,.cons r t=>.cons r<|Vals.eraseIdx i t
theorem Vals.rep(h:Vals xs us):∀ k:Nat,Vals (bc k xs).flatten (bc k us).flatten
 |0=>.nil
 |k+1=>Vals.append h<|Vals.rep h k
theorem R4(AJ:sV):∀ (k:Nat) (BP:sV),
  yn (λx1 x2=>x1++x2) BP.toArray (bc k AJ.toArray)=(BP++(bc k AJ).flatten).toArray
 |0,BP=>by simp
 |k+1,BP=>by
  have e:BP.toArray++AJ.toArray=(BP++AJ).toArray:=by simp
  have e2:(BP++AJ)++(bc k AJ).flatten=BP++(bc (k+1) AJ).flatten:=by
   rw[ku,ic,dw]
  rw[<-e2,<-R4 _ k _,<-e,ku,gb]
section
variable{X:Cx}{AA:tI}{σ:St}{H:Hp}{s:ξ}{l b:Addr}{xs ys zs:Oq}
def Inv.lset{AJ its':sV}{n:Nat}{f:Array Value->Array Value}{t':Nat}(I:Inv X AA σ H s)(hH:H l=some (.lst xs))
  (e:s.heap.get? l=some { cls:=.type "list",data:=.seq AJ.toArray n }) (hf:f AJ.toArray=its'.toArray) (hv:Vals ys its') (hz:ys.length<=sizeLine) :
  Inv X AA σ (upd H l<|.lst ys) { s with heap:=s.heap.update l<|lq f,toks:=t' }:=by
 have q:=PySem.IsL.update e f;rw[hf]at q;exact I.write   (by rw[hH];exact trivial) (.inl rfl) (λb' u hb hu=>(c_ _ _<|eh hb).trans hu) ⟨_,q⟩ ({hz,x2 _ _ ⟨hv,q⟩})
def Inv.lnew(I:Inv X AA σ H s)(hv:Vals ys AJ)(hz:ys.length<=sizeLine) :
  Inv X AA σ (upd H s.heap.objs.size<|.lst ys) { s with heap:=s.heap.push { cls:=.type "list",data:=.seq AJ.toArray },toks:=t' } :=
 I.laid (λz z q=>ο _ q) (υ _) {hz,x2 _ 0 {hv,aw _ rfl}}
def Inv.fresh(I:Inv X AA σ H s):H s.heap.objs.size=none:=I.hok.fresh<|υ _
def Inv.lstM(I:Inv X AA σ H s)(hH:H l=some (.lst xs)):xs.length<=sizeLine/\∃ (AJ:sV) (n:Nat),Vals xs AJ/\xs.length=AJ.length/\s.heap.get? l=some { cls:=.type "list",data:=.seq AJ.toArray n }:=by
 obtain⟨z,AJ,n,r,e⟩:=I.hok l _ hH;exact{z,x2 _ n ⟨r,r.length,e⟩}
def k7{n:Nat}(h:n<=sizeLine):kg n=false:=decide_eq_false<|Nat.not_lt.mpr h
end
section
variable{X:Cx}
def k8:V->Oq->Hp->VK->Prop:=λx vs H Q=>∃ l xs y,x=.ref l/\vs=[y]/\H l=some (.lst xs)/\xs.length<sizeLine/\Q .non (upd H l<|.lst<|xs++[y])
def Sw:R3 X "list.append" k8:=by
 intro AA s σ H x vs v us Q I rx rv h;revert h;apply u3;rintro l xs y ⟨rfl,rfl,hH,hz,q⟩;subst rx;obtain⟨u,rfl,ru⟩:=rv.one;obtain⟨z,AJ,n,r,hl,e⟩:=I.lstM hH;refine si Ci ⟨_,e,rfl⟩ A_ (zr _ _) (PySem.list_append l _ n u<|oB (cm (bh hl.symm) hz) rfl) {e,(x2 (.non) _ {I.lset  hH e (by simp) (r.append<|.cons ru .nil) ?_,rfl,q})};rw[af];exact hz
def VS:R2:=λx y H Q=>∃ l b xs zs,x=.ref l/\y=.ref b/\H l=some (.lst xs)/\H b=some (.lst zs)/\xs.length+zs.length<=sizeLine/\∀ p,H p=none->Q (.ref p) (upd H p<|.lst<|xs++zs)
def Sx:B9 X (iq .Add) VS:=by
 intro AA s σ H x y v u Q I rx ry h;revert h;apply u4;rintro l b xs zs ⟨rfl,rfl,hH,hB,hz,q⟩;subst rx;obtain⟨z,AJ,n,r,hl,e⟩:=I.lstM hH;subst ry;obtain⟨z2,LW,n2,r2,C9,e2⟩:=I.lstM hB
 have ea:AJ.toArray++LW.toArray=(AJ++LW).toArray:=by simp
 refine PySem.P.add_list e e2 ?_ (by rw[az,az];exact hl ▸ C9 ▸ hz);rw[ea];exact x2 (.ref _) _ {I.lnew  (r.append r2) (by rw[af];exact hz),rfl,q _ I.fresh}
def VT:R2:=λx y H Q=>∃ l k xs,x=.ref l/\y=.int k/\H l=some (.lst xs)/\ -(2^63)<=k/\k<2^63/\xs.length*k.toNat<=sizeLine /\
 ∀ p,H p=none->Q (.ref p) (upd H p<|.lst (bc k.toNat xs).flatten)
def k9{α :Type}(xs:List α)(k:Nat):(bc k xs).flatten.length=k*xs.length:=by
 induction k with
 |zero=>simp
 |succ k ih=>rw[ku,ic,af,ih,t9,t_]
def Sy:B9 X (iq .Mult) VT:=by
 intro AA s σ H x y v u Q I rx ry h;revert h;apply u3;rintro l k xs ⟨rfl,rfl,hH,h1,h2,hz,q⟩;subst rx;obtain⟨t,rfl⟩:=ry;obtain⟨z,AJ,n,r,hl,e⟩:=I.lstM hH
 have CG:AJ.toArray.size*k.toNat<=sizeLine:=by rw[az,<-hl];exact hz
 have hcap:¬ AJ.toArray.size*k.toNat >(2^63-1)/8:=by
  have:sizeLine<=(2^63-1)/8:=by decide
  lia
 have hfit:¬ (!Builtin.List.listFitsIndex k)=true:=by
  rw[fitsIndex_both h1 h2];exact ax
 have hlong:¬ kg (AJ.toArray.size*k.toNat)=true:=by
  rw[k7 CG];exact ax
 have hnew:yn (λx1 x2=>x1++x2) #[] (bc (if AJ.toArray.isEmpty=true then 0 else k.toNat) AJ.toArray)=(bc k.toNat AJ).flatten.toArray:=by
  have f0:=λm=>by
   have:=R4 AJ m [];rw[qy]at this;exact this
  rw[f0];cases AJ with
  |nil=>simp
  |cons a r'=>rw[if_neg (by simp)]
 refine wv   (by decide) ⟨_,e,rfl⟩ (λs'=>ym s' k t) noFill_list_mul Iz vg repeat_list Ha.lookup
  (si vg (ym s k t) He (Du _ _) (int___rmul___int_list k t l _ n)
   {e,rfl,⟨_,e,rfl⟩,si F.slot_list_mul ⟨_,e,rfl⟩ F.entry_list_mul (F.args_list_mul_2 _ _) (AutoListH.list___mul___list_int_3 l _ n k t hfit hcap hlong) {e,?_}})
 rw[hnew];exact x2 (.ref _) _ {I.lnew  (r.rep _) (by rw[k9,da];exact hz),rfl,q _ I.fresh}
end
section
variable{prog:bw}{w:World}{A:dk}{E:tQ}{s:ξ}
set_option maxRecDepth 100000 in
end
section
variable{X:Cx}
end
section
variable{κ :Type}[DecidableEq κ]
def BF(kvs:List (κ × V))(k: κ):Option V:=(kvs.find? λkv=>decide<|kv.1=k).map (·.2)
def CA(kvs:List (κ × V))(k: κ)(v:V):List (κ × V) :=
 if(kvs.any λkv=>decide<|kv.1=k)=true then kvs.map (λkv=>if kv.1=k then(kv.1,v)else kv)else kvs++[(k,v)]
def VU:BF ([]:List (κ × V)) k=none:=rfl
def HR{p: κ × V}{r:List (κ × V)}{k: κ}(e:p.1=k):BF (p::r) k=some p.2:=by simp[BF,e]
def HS{p: κ × V}{r:List (κ × V)}{k: κ}(e:¬ p.1=k):BF (p::r) k=BF r k:=by simp[BF,e]
theorem L7(k: κ):∀ kvs:List (κ × V),(kvs.any λkv=>decide<|kv.1=k)=(BF kvs k).isSome
 | []=>rfl
 |p::r=>by
  rw[pr];by_cases e:p.1=k;simp only[HR e,decide_eq_true e,n_,Option.isSome_some];rw[HS e,decide_eq_false e];exact L7 k r
theorem lA(k j: κ)(y:V):∀ kvs:List (κ × V),BF (kvs.map λkv=>if kv.1=k then(kv.1,y)else kv) j=(BF kvs j).map λx=>if j=k then y else x
 | []=>rfl
 |p::r=>by
  have ih:=lA k j y r;rw[dg];by_cases h:p.1=k;rw[if_pos h];by_cases e:p.1=j;rw[HR (p:=(p.1,y)) e,HR e,mf,if_pos<|e.symm.trans h];rw[HS (p:=(p.1,y)) e,HS e,ih];rw[if_neg h];by_cases e:p.1=j;rw[HR  e,HR e,mf,if_neg<|λz=>h<|e.trans z];rw[HS  e,HS e,ih]
theorem lB(k j: κ)(y:V):∀ kvs:List (κ × V),BF kvs k=none->BF (kvs++[(k,y)]) j=if j=k then some y else BF kvs j
 | [],_=>by
  by_cases e:k=j;rw[if_pos e.symm];exact HR  e;rw[if_neg (λz=>e z.symm)];exact HS  e
 |p::r,hn=>by
  have hk:¬ p.1=k:=λz=>by rw[HR z]at hn;cases hn
  rw[um];rw[HS hk]at hn;by_cases e:p.1=j;rw[HR e,HR e,if_neg<|λz=>hk<|e.trans z];rw[HS e,HS e,(lB k j y r hn)]
def HU(kvs:List (κ × V))(k j: κ)(y:V):BF (CA kvs k y) j=if j=k then some y else BF kvs j:=by
 unfold CA;by_cases a:(kvs.any λkv=>decide<|kv.1=k)=true;rw[if_pos a,lA];rw[L7]at a;by_cases e:j=k;obtain⟨x,hx⟩:=cz.mp a;rw[if_pos e,e,hx,mf,if_pos rfl];rw[if_neg e];cases BF _ j with
 |none=>rfl
 |some x=>rw[mf,if_neg e]
 rw[if_neg a];refine lB k j y _ ?_;rw[L7]at a;cases q:BF _ k with
 |none=>rfl
 |some x=>rw[q]at a;exact(a rfl).elim
def IS(kvs:List (κ × V))(k: κ)(v:V):(CA kvs k v).length<=kvs.length+1:=by
 unfold CA;split;rw[ζ];exact jm _;rw[af,de];exact fj _
def lC{kvs:List (κ × V)}{k: κ}(v:V)(h:BF kvs k=none):CA kvs k v=kvs++[(k,v)]:=by
 unfold CA;rw[L7,h];exact if_neg (by decide)
def RelO.isSome_eq(r:RelO o u):o.isSome=u.isSome:=by
 cases o with
 |none=>cases u with
  |none=>rfl
  |some _=>exact(r).elim
 |some _=>cases u with
  |none=>exact(r).elim
  |some _=>rfl
theorem RelO.getD(r:RelO o u)(rd:RelV d d'):RelV (o.getD d) (u.getD d'):=by
 cases o with
 |none=>cases u with
  |none=>exact rd
  |some _=>exact(r).elim
 |some _=>cases u with
  |none=>exact(r).elim
  |some _=>exact r
def KV.val{kvs:List (κ × V)}{vs:List (κ × Value)}(r:KV kvs vs)(k: κ):RelO (BF kvs k) (D_ vs k):=by
 induction r with
 |nil=>exact rn
 |@cons p q ps qs h t ih =>
  obtain⟨h1,h2⟩:=h;by_cases e:p.1=k
  have b:D_ (q::qs) k=some q.2:=by simp[D_,(h1.symm.trans e)]
  rw[HR e,b];exact h2
  have e':¬ q.1=k:=λz=>e<|h1.trans z
  have b:D_ (q::qs) k=D_ qs k:=by simp[D_,e']
  rw[HS e,b];exact ih
theorem KV.any{kvs:List (κ × V)}{vs:List (κ × Value)}(r:KV kvs vs)(k: κ):(kvs.any λkv=>decide<|kv.1=k)=vs.any λkv=>decide (kv.1=k):=by
 induction r with
 |nil=>rfl
 |cons h t ih=>rw[pr,pr,ih,h.1]
def KV.repl(r:KV kvs vs)(k: κ)(ry:RelV y u) :
  KV (kvs.map λkv=>if kv.1=k then(kv.1,y)else kv) (vs.map λkv=>if kv.1=k then(kv.1,u)else kv):=by
 induction r with
 |nil=>exact .nil
 |@cons p q ps qs h t ih =>
  rw[dg,dg];refine .cons ?_ ih;obtain⟨h1,h2⟩:=h;by_cases e:p.1=k;rw[if_pos e,if_pos<|h1.symm.trans e];exact⟨h1,ry⟩;rw[if_neg e,if_neg<|λz=>e<|h1.trans z];exact⟨h1,h2⟩
def KV.put(r:KV kvs vs)(k: κ)(ry:RelV y u):KV (CA kvs k y) (stored vs k u):=by
 unfold CA stored;rw[r.any k];by_cases e:(vs.any λkv=>decide<|kv.1=k)=true;rw[if_pos e,if_pos e];exact r.repl k ry;rw[if_neg e,if_neg e];exact Paired.snoc r ⟨rfl,ry⟩
def KV.length{kvs:List (κ × V)}{vs:List (κ × Value)}(r:KV kvs vs):kvs.length=vs.length:=Paired.length r
end
def L8(r:RelV (kV k) u):(EH P w).is k u=true:=by
 cases k with
 |inl i=>obtain⟨t,rfl⟩:=(r);exact Kb P w i t
 |inr x=>obtain⟨t,rfl⟩:=(r);exact Kc P w x t
theorem lD:∀ {ks:List AO} {us:sV},Vals (ks.map kV) us->ItemsAre (EH P w) ks us
 | [],_,r=>by cases r;exact .nil
 |k::ks,_,r=>by
  cases r with
  |cons h t=>exact .cons (L8 h) (lD t)
abbrev KT(H:Hp):aH->tE->Prop:=Paired λp q=>p.1=q.1/\H q.2.1=some (.tup<|p.1.map kV)/\RelV p.2 q.2.2
def KT.val{H:Hp}{kvs:aH}{xs:tE}(r:KT H kvs xs)(k:List AO):RelO (BF kvs k) ((atKey xs k).map (·.2)):=by
 induction r with
 |nil=>exact rn
 |@cons p q ps qs h t ih =>
  obtain⟨h1,y,h2⟩:=h;by_cases e:p.1=k
  have b:atKey (q::qs) k=some q.2:=by simp[atKey,(h1.symm.trans e)]
  rw[HR e,b];exact h2
  have e':¬ q.1=k:=λz=>e<|h1.trans z
  have b:atKey (q::qs) k=atKey qs k:=by simp[atKey,e']
  rw[HS e,b];exact ih
def KT.repl(r:KT H kvs xs)(k:List AO)(ry:RelV y u) :
  KT H (kvs.map λkv=>if kv.1=k then(kv.1,y)else kv) (xs.map<|putAt k u):=by
 induction r with
 |nil=>exact .nil
 |@cons p q ps qs h t ih =>
  rw[dg];obtain⟨h1,h2,h3⟩:=h;refine .cons ?_ ih;unfold putAt;by_cases e:p.1=k;rw[if_pos e,if_pos<|h1.symm.trans e];exact⟨h1,h2,ry⟩;rw[if_neg e,if_neg<|λz=>e<|h1.trans z];exact⟨h1,h2,h3⟩
def KT.put(r:KT H kvs xs)(k:List AO)(hb:H b=some (.tup<|k.map kV))(ry:RelV y u) :
  KT H (CA kvs k y) (xh xs k b u):=by
 have e:(kvs.any λkv=>decide<|kv.1=k)=(atKey xs k).isSome:=by
  rw[L7,(r.val k).isSome_eq,ua]
 unfold CA xh;rw[e];by_cases q:(atKey xs k).isSome=true;rw[if_pos q,if_pos q];exact r.repl k ry;rw[if_neg q,if_neg q];exact Paired.snoc r ⟨rfl,hb,ry⟩
def KT.keeps(r:KT H kvs xs)(ht:∀ b ys,H b=some (.tup ys)->H' b=some (.tup ys)):KT H' kvs xs :=
 Paired.mapP r λy y z=>{z.1,ht _ _ z.2.1,z.2.2}
section
variable{P:bw}{w:World}{H:Hp}{h:Heap}{a:Addr}
def lE(ok:HOk P w H h)(e:Rd H a u):ObjOk P w H h a u:=e.ok ok
def JU(ok:HOk P w H h)(e:Rd H a (.dK kvs)):kvs.length<=sizeLine/\(a==iw)=false/\∃ vs,KV kvs vs/\h.DictOf (EH P w) a vs :=
 lE ok e
def Sz(ok:HOk P w H h)(e:H a=some (.dK kvs)):kvs.length<=sizeLine/\(a==iw)=false/\∃ vs,KV kvs vs/\h.DictOf (EH P w) a vs:=JU ok<|.inl e
def KY(ok:HOk P w H h)(e:H a=some (.tup<|ks.map kV)):(nw<|EH P w).is h ks a:=by
 obtain⟨z,AJ,r,o,h1,h2,n,h3⟩:=(ok a _ e)
 exact x3 o _ n {h1,h2,h3,lD r}
def KZ(ok:HOk P w H h)(e:Rd H a (.dT kvs)):kvs.length<=sizeLine/\(a == iw)=false /\
  ∃ xs,KT H kvs xs/\h.DictOfH (nw<|EH P w) a xs:=by
 obtain⟨z,y,xs,r,o,es,ep,h1,h2,h3,h4,h5⟩:=(lE ok e)
 refine{z,y,xs,r,x3 o es ep {h1,h2,h3,h4,λx hx=>?_,h5}}
 have all:∀ {l:List _} {m:List _},KT H l m->∀ x∈m,(nw<|EH P w).is h x.1 x.2.1:=by
  intro l m q
  induction q with
  |nil=>intro x hx;exact nomatch hx
  |@cons p q ps qs hq t ih =>
   intro x hx;rcases aj.mp hx with e|hx
   subst e;exact KY ok (by rw[<-hq.1];exact hq.2.1);exact ih x hx
 exact all r x hx
def R5(ok:HOk P w H h)(e:H a=some (.dT kvs)):kvs.length<=sizeLine/\(a==iw)=false /\
  ∃ xs,KT H kvs xs/\h.DictOfH (nw<|EH P w) a xs:=KZ ok<|.inl e
end
def DGet(H:Hp)(a:Addr)(y:V)(r:Option V):Prop :=
 (∃ kvs k,Rd H a (.dK kvs)/\y=kV k/\r=BF kvs k)\/∃ kvs k b,Rd H a (.dT kvs)/\y=.ref b/\H b=some (.tup<|k.map kV)/\r=BF kvs k
def DPut(H:Hp)(a:Addr)(y v:V)(H':Hp):Prop :=
 (∃ kvs k,H a=some (.dK kvs)/\y=kV k/\kvs.length<sizeLine/\H'=upd H a (.dK<|CA kvs k v)) ∨
 ∃ kvs k b,H a=some (.dT kvs)/\y=.ref b/\H b=some (.tup<|k.map kV)/\kvs.length<sizeLine/\H'=upd H a (.dT<|CA kvs k v)
def DGet.k{H:Hp}{a:Addr}{kvs:tS}{k:AO}(e:H a=some (.dK kvs)):DGet H a (kV k) (BF kvs k):=.inl<|x2 _ k {.inl e,rfl,rfl}
def DGet.t{H:Hp}{a b:Addr}{kvs:aH}{k:List AO}(e:H a=some (.dT kvs))(eb:H b=some (.tup<|k.map kV)):DGet H a (.ref b) (BF kvs k):=.inr<|x3 _ k b {.inl e,rfl,eb,rfl}
def DPut.k{H:Hp}{a:Addr}{kvs:tS}{k:AO}{v:V}(e:H a=some (.dK kvs))(hl:kvs.length<sizeLine):DPut H a (kV k) v (upd H a<|.dK<|CA kvs k v):=.inl<|x2 _ k ⟨e,rfl,hl,rfl⟩
def DPut.t{H:Hp}{a b:Addr}{kvs:aH}{k:List AO}{v:V}(e:H a=some (.dT kvs))(eb:H b=some (.tup<|k.map kV))(hl:kvs.length<sizeLine) :
  DPut H a (.ref b) v (upd H a<|.dT<|CA kvs k v):=.inr<|x3 _ k b ⟨e,rfl,eb,hl,rfl⟩
section
variable{X:Cx}{AA:tI}{σ:St}{H:Hp}{s:ξ}{a:Addr}{y v:V}{u r:Value}{o:Option V}{A:dk}{E:tQ}
def Inv.big(I:Inv X AA σ H s):iw<s.heap.objs.size:=yo (by decide) ((I.mod.glob.keeps I.bk).lt)
def Tb(hu:A.units+1<cLine)(I:Inv X AA σ H s)(g:DGet H a y (some v))(ry:RelV y u)(h:∀ w' s',Inv X AA σ H s'->RelV v w'->Q w' s') :
  wpAny (model X.prog X.w) A (yj (.ref a) u) Q E s:=by
 rcases g with⟨kvs,k,e,ey,l⟩|⟨kvs,k,b,e,ey,eb,l⟩
 obtain⟨z,hd,vs,rel,dd⟩:=JU I.hok e;obtain⟨w',hw,rw'⟩:=RelO.some_of   (by rw[l];exact rel.val k);subst ey;exact wpAny_getItem_of (L8 ry) dd.mapOf hw (h w' _ (I.tok _) rw');subst ey;obtain⟨z,hd,xs,rel,dd⟩:=KZ I.hok e;obtain⟨w',hw,rw'⟩:=RelO.some_of   (by rw[l];exact rel.val k);cases (ry);obtain⟨p,hp,JP⟩:=aa.mp hw;refine wpAny_getItem_heap (iy hu) (KY I.hok eb) dd hp ?_;rw[JP];exact h w' _ (I.tok _) rw'
def Tc(hu:A.units+1<cLine)(I:Inv X AA σ H s)(g:DGet H a y o)(ry:RelV y u)(h:∀ s',Inv X AA σ H s'->Q (.bool o.isSome) s') :
  wpAny (model X.prog X.w) A (du .In u<|.ref a) Q E s:=by
 rcases g with⟨kvs,k,e,ey,l⟩|⟨kvs,k,b,e,ey,eb,l⟩
 subst ey;obtain⟨z,hd,vs,rel,dd⟩:=JU I.hok e;refine wpAny_in_of (L8 ry) hd dd.mapOf ?_;rw[<-(rel.val k).isSome_eq,<-l];exact h _<|I.tok _;subst ey;obtain⟨z,hd,xs,rel,dd⟩:=KZ I.hok e;cases (ry)
 have q:=(rel.val k).isSome_eq;refine wpAny_in_heap (iy hu) (KY I.hok eb) hd dd ?_;rw[ua]at q;rw[<-q,<-l];exact h _<|I.tok _
def Td(hu:A.units+1<cLine)(I:Inv X AA σ H s)(g:DGet H a y o)(ry:RelV y u)(h:∀ s',Inv X AA σ H s'->Q (.bool<|!o.isSome) s') :
  wpAny (model X.prog X.w) A (du .NotIn u<|.ref a) Q E s:=by
 rcases g with⟨kvs,k,e,ey,l⟩|⟨kvs,k,b,e,ey,eb,l⟩
 subst ey;obtain⟨z,hd,vs,rel,dd⟩:=JU I.hok e;refine wpAny_notIn_of (L8 ry) hd dd.mapOf ?_;rw[<-(rel.val k).isSome_eq,<-l];exact h _<|I.tok _;subst ey;obtain⟨z,hd,xs,rel,dd⟩:=KZ I.hok e;cases (ry)
 have q:=(rel.val k).isSome_eq;refine wpAny_notIn_heap (iy hu) (KY I.hok eb) hd dd ?_;rw[ua]at q;rw[<-q,<-l];exact h _<|I.tok _
def R6(I:Inv X AA σ H s)(mu:OP (H a))(hs:gj a s.heap h')(he:∃ q,h'.get? a=some q)(new:ObjOk X.prog X.w (upd H a ob) h' a ob) :
  Inv X AA σ (upd H a ob) { s with heap:=h',toks:=t' } :=
 I.write   mu (.inl rfl) (λb q hb z=>(hs.2 b hb).trans z) he new
def lF(z:kvs.length<=sizeLine)(hd:(a==iw)=false)(rel:KV kvs vs)(dd:h'.DictOf (EH P w) a vs) :
  ObjOk P w H' h' a (.dK kvs):=⟨z,hd,vs,rel,dd⟩
def Tg(hu:A.units+1<cLine)(I:Inv X AA σ H s)(g:DPut H a y v H')(ry:RelV y u)(rv:RelV v r)(h:∀ s',Inv X AA σ H' s'->Q () s') :
  wpAny (model X.prog X.w) A (Nn (.ref a) u r) Q E s:=by
 rcases g with⟨kvs,k,e,ey,l,eH⟩|⟨kvs,k,b,e,ey,eb,l,eH⟩
 obtain⟨z,hd,vs,rel,dd⟩:=Sz I.hok e;subst ey eH;exact wpAny_setItem_pairs (hsz:=(by rw[<-rel.length];exact z)) (L8 ry) dd λh' dd' hs=>h _ (R6 I (by rw[e];exact rn) hs (let ⟨q,_,_,hq,_⟩:=dd';⟨q,hq⟩) (lF (ω (IS _ k v) l) hd (rel.put k rv) dd'));subst ey eH;obtain⟨z,hd,xs,rel,dd⟩:=R5 I.hok e;cases (ry);refine wpAny_setItem_heap (hsz:=(by rw[<-Paired.length rel];exact z)) (iy hu) (KY I.hok eb) dd λh' dd' hs=>h _ ?_;revert dd';apply u3;rintro q es ep ⟨hq,h2,h3,h4,_,h5⟩;refine R6 I (by rw[e];exact rn) hs ⟨q,hq⟩ {(ω (IS _ k v) l),hd,_,(rel.put k eb rv).keeps λc ys ec=>?_,x3 q es ep ⟨hq,h2,h3,h4,h5⟩};rw[AI (BH ec e (λz=>nomatch z))];exact ec
end
section
variable{X:Cx}{AA:tI}{σ:St}{H:Hp}{s:ξ}{a:Addr}{kvs:tS}{k:AO}{u:Value}{A:dk}{E:tQ}
end
def lG(i:Expr):Prop:=∀ ov iv,zq i false ov iv=operate [ov,iv] (yj ov iv)
def Th{prog:bw}{w:World}{A:dk}{E:tQ}{s:ξ}{env:Env}{value slice:Expr}{pos:Pos}{T id:String}{Q:tQ}
  (hl:Ks (.type T) "__getitem__"=pure (some<|.builtin id)) (hs:lG slice)
  (h:wpAny (model prog w) A (eval value env) (λo s₁=>wpAny (model prog w) A (eval slice env) (λi s₂=>s₂.TypeIs o T/\wpAny (model prog w) A (yj o i) Q E s₂) E s₁) E s) :
  wpAny (model prog w) A (eval (.Subscript value slice pos) env) Q E s:=by
 refine Kt<|lj h (λo s₁ h₁=>lj h₁ (λi s₂ h₂=>?_) λz z x=>x) λz z x=>x;obtain⟨hT,h₂⟩:=h₂
 have fin:wpAny (model prog w) A (zq slice false o i) (λr s₃=>wpAny (model prog w) A (letTemporaryGo value o r>>=λz=>pure r) Q E s₃) E s₂:=by
  rw[hs o i];exact wpAny_operating<|lj h₂ (λr s₃ h₃=>δ<|wpAny_letTemporaryGo<|π h₃) λz z x=>x
 refine δ<|δ<|vh hT hl ?_
 first
  |exact π<|δ fin
  |exact δ _
  |exact δ _
def Tj(I:Inv X AA σ H s)(g:DGet H a y o):s.TypeIs (.ref a) "dict":=by
 rcases g with⟨kvs,k,e,_,_⟩|⟨kvs,k,b,e,_,_,_⟩
 obtain⟨z,z,vs,z,dd⟩:=JU I.hok e;exact dd.typeIs;obtain⟨z,z,xs,z,dd⟩:=KZ I.hok e;exact dd.typeIs
def O3(td ty:TE):TE:=λσ H Q=>td σ H λx H1=>ty σ H1 λy H2=>∃ a v,x=.ref a/\DGet H2 a y (some v)/\Q v H2
def O4(ty td:TE):TE:=λσ H Q=>ty σ H λy H1=>td σ H1 λx H2=>∃ a o,x=.ref a/\DGet H2 a y o/\Q (.bl o.isSome) H2
def O5(ty td:TE):TE:=λσ H Q=>ty σ H λy H1=>td σ H1 λx H2=>∃ a o,x=.ref a/\DGet H2 a y o/\Q (.bl<|!o.isSome) H2
def O6(td ty tv:TE):TS:=λD σ H=>tv σ H λv H1=>td σ H1 λx H2=>ty σ H2 λy H3=>∃ a H4,x=.ref a/\DPut H3 a y v H4/\D.nx σ H4
section
variable{X:Cx}{o i e value:Expr}{pos pos' tpos:Pos}{td ty tv:TE}
def Tk(hu:X.A.units+1<cLine)(ho:PE X o td)(hi:PE X i ty)(hs:lG i):PE X (.Subscript o i pos) (O3 td ty):=by
 refine λAA s σ H Q I h=>Th PySem.F.slot_dict_getitem.lookup hs<|AS (ho _ s σ H _ I h) λu s1 ⟨x,H1,I1,rx,q1⟩=>AS (hi _ s1 σ H1 _ I1 q1) λiv s2 hzz=>?_;obtain⟨y,H2,I2,ry,a,v,rfl,g,q2⟩:=hzz;obtain rfl:u=fk a:=rx;exact{Tj I2 g,Tb hu I2 g ry λw' s3 I3 rw'=>x2 v H2 ⟨I3,rw',q2⟩}
def Tl(hu:X.A.units+1<cLine)(hi:PE X i ty)(ho:PE X o td):PC X .In i o (O4 ty td):=by
 refine λAA s σ H Q I h=>AS (hi _ s σ H _ I h) λiv s1 ⟨y,H1,I1,ry,q1⟩=>AS (ho _ s1 σ H1 _ I1 q1) λu s2 hzz=>?_;obtain⟨x,H2,I2,rx,a,ov,rfl,g,q2⟩:=hzz;obtain rfl:u=fk a:=rx;exact Tc hu I2 g ry λs3 I3=>x2 (.bl _) H2 ⟨I3,rfl,q2⟩
def Tm(hu:X.A.units+1<cLine)(hi:PE X i ty)(ho:PE X o td):PC X .NotIn i o (O5 ty td):=by
 refine λAA s σ H Q I h=>AS (hi _ s σ H _ I h) λiv s1 ⟨y,H1,I1,ry,q1⟩=>AS (ho _ s1 σ H1 _ I1 q1) λu s2 hzz=>?_;obtain⟨x,H2,I2,rx,a,ov,rfl,g,q2⟩:=hzz;obtain rfl:u=fk a:=rx;exact Td hu I2 g ry λs3 I3=>x2 (.bl _) H2 ⟨I3,rfl,q2⟩
def Tp(hu:X.A.units+1<cLine)(ho:PE X o td)(hi:PE X i ty)(hv:PE X value tv)(hs:v_ value (some<|.Subscript o i pos') pos.line X.env=pure false) :
  PS X (.Assign [.Subscript o i pos'] value pos) (O6 td ty tv):=by
 refine λAA s σ H D I h=>wpAny_Assign_Subscript (AS (hv _ s σ H _ I h) λr s1 ⟨v,H1,I1,rv,q1⟩=>AS (ho _ s1 σ H1 _ I1 q1) λu s2 ⟨x,H2,I2,rx,q2⟩=>AS (hi _ s2 σ H2 _ I2 q2) λiv s3 hzz=>?_) hs;obtain⟨y,H3,I3,ry,a,H4,rfl,g,q3⟩:=hzz;obtain rfl:u=fk a:=rx;exact Tg hu I3 g ry rv λs4 I4=>x2 σ H4 ⟨I4,q3⟩
end
def Tq(h:Heap)(hb:iw<h.objs.size):ObjOk P w H (h.push { cls:=.type "dict",data:=.dict #[] }) h.objs.size (.dK []) :=
 {bv _,beq_eq_false_iff_ne.mpr<|eh<|bd hb,[],.nil,Heap.DictOf.new h}
def lH(h:Heap)(hb:iw<h.objs.size):ObjOk P w H (h.push { cls:=.type "dict",data:=.dict #[] }) h.objs.size (.dT []) :=
 {bv _,beq_eq_false_iff_ne.mpr<|eh<|bd hb,[],.nil,_,_,0,aw _ rfl,⟨rfl,rfl,rfl⟩,rfl,rfl,jr}
def JV:TE:=λ_ H Q=>∀ p,H p=none->Q (.ref p) (upd H p<|.dK [])
def O7:TE:=λ_ H Q=>∀ p,H p=none->Q (.ref p) (upd H p<|.dT [])
section
variable{X:Cx}{pos:Pos}
def Tv:PE X (.Dict [] [] pos) JV:=λAA s σ H Q I h =>
 Hf (x2 (.ref _) _ {I.laid    (λz z q=>ο _ q) (υ _) (Tq _ I.big),rfl,h _<|I.hok.fresh<|υ _})
def Tw:PE X (.Dict [] [] pos) O7:=λAA s σ H Q I h =>
 Hf (x2 (.ref _) _ {I.laid    (λz z q=>ο _ q) (υ _) (lH _ I.big),rfl,h _<|I.hok.fresh<|υ _})
end
def L9:List (TE × TE)->St->Hp->(List (V × V)->Hp->Prop)->Prop
 | [],_,H,Q=>Q [] H
 |(tk,tv)::r,σ,H,Q=>tk σ H λx H1=>tv σ H1 λy H2=>L9 r σ H2 λps H3=>Q ((x,y)::ps) H3
abbrev VV:List (V × V)->List (Value × Value)->Prop:=Paired λp q=>RelV p.1 q.1/\RelV p.2 q.2
def R7(X:Cx)(pos:Pos)(keys:List (Option Expr))(values:wW)(trs:List (TE × TE)):Prop :=
 ∀ (AA:tI) (s:ξ) (σ:St) (H:Hp) (Q:List (V × V)->Hp->Prop),Inv X AA σ H s->L9 trs σ H Q ->
  wpAny (model X.prog X.w) X.A (evalPairs<|pairTrees keys values X.env pos) (λvs s'=>∃ ps H',Inv X AA σ H' s'/\VV ps vs/\Q ps H') X.xe s
def Tx:R7 X pos [] [] []:=λAA s σ H Q I h=>pairTrees_nil_walk<|x2 [] H {I,.nil,h}
def Ty(hk:PE X k tk)(hv:PE X v tv)(hr:R7 X pos ks vs trs) :
  R7 X pos (some k::ks) (v::vs) ((tk,tv)::trs):=λAA s σ H Q I h =>
 pairTrees_cons_walk (AS (hk _ s σ H _ I h) (by rintro u s1 ⟨x,H1,I1,rx,q1⟩;exact AS (hv _ s1 σ H1 _ I1 q1) (by rintro w2 s2 ⟨y,H2,I2,ry,q2⟩;exact AS (hr _ s2 σ H2 _ I2 q2) (by rintro ws s3 ⟨ps,H3,I3,rel,q3⟩;exact x2 _ H3 {I3,.cons ⟨rx,ry⟩ rel,q3}))))
structure M1(X:Cx)(o:Expr)(m:Str)(C1:Pos)(e:Expr)(DP:Pos):Prop where
 base:ux o m X.env (eval o X.env)=eval o X.env
 few:((ja DP<|ay [e] X.env).all (λx=> !x.1)&&(u_ DP<|k_ [] X.env).all (λx=>x.1.isSome)
  && decide (([e]:wW).length+([]:List At).length+(if([]:List At).isEmpty then 0 else 1)<30))=true
 line:(C1.endLine==DP.line)=true
 trees:ja DP (ay [e] X.env)=[(false,eval e X.env)]
structure M2(X:Cx)(o:Expr)(m:Str)(C1:Pos)(e f:Expr)(DP:Pos):Prop where
 base:ux o m X.env (eval o X.env)=eval o X.env
 few:((ja DP<|ay [e,f] X.env).all (λx=> !x.1)&&(u_ DP<|k_ [] X.env).all (λx=>x.1.isSome)
  && decide (([e,f]:wW).length+([]:List At).length+(if([]:List At).isEmpty then 0 else 1)<30))=true
 line:(C1.endLine==DP.line)=true
 trees:ja DP (ay [e,f] X.env)=[(false,eval e X.env),(false,eval f X.env)]
def ND(H:Hp)(a:Addr):Prop:=(∃ kvs,Rd H a<|.dK kvs)\/∃ kvs,Rd H a<|.dT kvs
def lI(I:Inv X AA σ H s)(d:ND H a) :
  s.TypeIs (.ref a) "dict"/\(∀ b,fk a=.ref b->∃ ob,s.heap.get? b=some ob/\ob.dict=none)/\(a==iw)=false:=by
 rcases d with⟨kvs,e⟩|⟨kvs,e⟩
 obtain⟨z,hd,vs,z,dd⟩:=JU I.hok e;refine{dd.typeIs,λb q=>?_,hd};cases q;revert dd;apply u3;rintro ob z z ⟨h1,h2,z⟩;exact⟨ob,h1,h2.2.1⟩;obtain⟨z,hd,xs,z,dd⟩:=KZ I.hok e;refine{dd.typeIs,λb q=>?_,hd};cases q;revert dd;apply u3;rintro ob z z ⟨h1,h2,z⟩;exact⟨ob,h1,h2.2.1⟩
section
variable{X:Cx}{AA:tI}{σ:St}{H:Hp}{s:ξ}{a:Addr}{y d:V}{u r:Value}{o:Option V}{A:dk}{E:tQ}
def Tz(hu:A.units+1<cLine)(I:Inv X AA σ H s)(g:DGet H a y o)(ry:RelV y u)(h:∀ w' s',Inv X AA σ H s'->RelV (o.getD .non) w'->Q w' s') :
  wpAny (model X.prog X.w) A (call (.builtin "dict.get") [.ref a,u]) Q E s:=by
 rcases g with⟨kvs,k,e,ey,l⟩|⟨kvs,k,b,e,ey,eb,l⟩
 subst ey;obtain⟨z,hd,vs,rel,dd⟩:=JU I.hok e;refine vq PySem.F.slot_dict_get dd.typeIs PySem.F.entry_dict_get (PySem.F.args_dict_get_2 _ _) (meets_dict_get _ a (L8 ry) hd) {_,dd.mapOf,h _ _ (I.tok _) ?_};rw[l];exact(rel.val k).getD rfl;subst ey;obtain⟨z,hd,xs,rel,dd⟩:=KZ I.hok e;cases (ry);refine vq PySem.F.slot_dict_get dd.typeIs PySem.F.entry_dict_get (PySem.F.args_dict_get_2 _ _) (meetsH_dict_get _ a b hd) {iy hu,x2 k xs {KY I.hok eb,dd,h _ _ (I.tok _) ?_}};rw[l];exact(rel.val k).getD rfl
def Ub(hu:A.units+1<cLine)(I:Inv X AA σ H s)(g:DGet H a y o)(ry:RelV y u)(rd:RelV d r)(h:∀ w' s',Inv X AA σ H s'->RelV (o.getD d) w'->Q w' s') :
  wpAny (model X.prog X.w) A (call (.builtin "dict.get") [.ref a,u,r]) Q E s:=by
 rcases g with⟨kvs,k,e,ey,l⟩|⟨kvs,k,b,e,ey,eb,l⟩
 subst ey;obtain⟨z,hd,vs,rel,dd⟩:=JU I.hok e;refine vq PySem.F.slot_dict_get dd.typeIs PySem.F.entry_dict_get (PySem.F.args_dict_get_3 _ _ _) (meets_dict_get_default _ a (L8 ry) hd r) {_,dd.mapOf,h _ _ (I.tok _) ?_};rw[l];exact(rel.val k).getD rd;subst ey;obtain⟨z,hd,xs,rel,dd⟩:=KZ I.hok e;cases (ry);refine vq PySem.F.slot_dict_get dd.typeIs PySem.F.entry_dict_get (PySem.F.args_dict_get_3 _ _ _) (meetsH_dict_get_default _ a b hd r) {iy hu,x2 k xs {KY I.hok eb,dd,h _ _ (I.tok _) ?_}};rw[l];exact(rel.val k).getD rd
end
def R8(td ty:TE):TE:=λσ H Q=>td σ H λx H1=>∃ a,x=.ref a/\ND H1 a/\ty σ H1 λy H2=>∃ o,DGet H2 a y o/\Q (o.getD .non) H2
def VW(td ty tx:TE):TE:=λσ H Q=>td σ H λx H1=>∃ a,x=.ref a/\ND H1 a/\ty σ H1 λy H2=>tx σ H2 λz H3=>∃ o,DGet H3 a y o/\Q (o.getD z) H3
section
variable{X:Cx}{o e f:Expr}{C1 DP:Pos}{td ty tx:TE}
def Uc(hu:X.A.units+1<cLine)(ho:PE X o td)(he:PE X e ty)(m:M1 X o "get" C1 e DP):PE X (.Call (.Attribute o "get" C1) [e] [] DP) (R8 td ty):=by
 refine λAA s σ H Q I h=>Ea m.base m.few m.line PySem.F.plainAttrs_dict PySem.F.slot_dict_get PySem.F.type_dict_get<|AS (ho _ s σ H _ I h) λu s1 hzz=>?_;obtain⟨x,H1,I1,rx,a,rfl,d,q1⟩:=hzz;obtain rfl:u=fk a:=rx;obtain⟨t1,t2,z⟩:=lI I1 d;refine{t1,t2,?_};rw[m.trees];exact tz rfl (nq (rq (AS (he _ s1 σ H1 _ I1 q1) (by rintro iv s2 ⟨y,H2,I2,ry,ov,g,q2⟩;exact xf<|Tz hu I2 g ry λw' s3 I3 rw'=>x2 _ H2 ⟨I3,rw',q2⟩))))
def Ud(hu:X.A.units+1<cLine)(ho:PE X o td)(he:PE X e ty)(hf:PE X f tx)(m:M2 X o "get" C1 e f DP):PE X (.Call (.Attribute o "get" C1) [e,f] [] DP) (VW td ty tx):=by
 refine λAA s σ H Q I h=>Ea m.base m.few m.line PySem.F.plainAttrs_dict PySem.F.slot_dict_get PySem.F.type_dict_get<|AS (ho _ s σ H _ I h) λu s1 hzz=>?_;obtain⟨x,H1,I1,rx,a,rfl,d,q1⟩:=hzz;obtain rfl:u=fk a:=rx;obtain⟨t1,t2,v⟩:=lI I1 d;refine{t1,t2,?_};rw[m.trees];exact tz rfl (nq (rq (AS (he _ s1 σ H1 _ I1 q1) (by rintro iv s2 ⟨y,H2,I2,ry,q2⟩;exact rq (AS (hf _ s2 σ H2 _ I2 q2) (by rintro fv s3 ⟨z,H3,I3,rz,ov,g,q3⟩;exact xf<|Ub hu I3 g ry rz λw' s4 I4 rw'=>x2 _ H3 ⟨I4,rw',q3⟩))))))
end
section
variable{X:Cx}{AA:tI}{σ:St}{H:Hp}{s:ξ}{a:Addr}{kvs:tS}{A:dk}{E:tQ}
def Ug(I:Inv X AA σ H s)(e:Rd H a (.dK kvs))(h:∀ p s',H p=none->Inv X AA σ (upd H p<|.dK kvs) s'->Q (.ref p) s'):wpAny (model X.prog X.w) A (call (.type "dict") [.ref a]) Q E s:=by
 obtain⟨z,hd,vs,rel,dd⟩:=JU I.hok e;exact kt_call_dict hd dd (by rw[<-rel.length];exact z) λh' dd' hs=>(h _ _ (I.hok.fresh<|υ _) (I.laid    (λb q hq=>((hs.2 b<|bd<|au hq).trans (ο _ hq))) (υ _) (lF z (beq_eq_false_iff_ne.mpr<|eh<|bd I.big) rel dd')))
end
section
variable{X:Cx}{AA:tI}{σ:St}{H:Hp}{s:ξ}{a:Addr}{y:V}{u:Value}{A:dk}{E:tQ}
end
end L2
namespace Att
open PySem PySem.W PySem.Calls PyProof.Rows
abbrev _root_.sZ:=List Int
def Uh:∀ (ns:sZ) (vs:sV),WellAll P h vs (ns.map WData.int)->qz vs ns:=by
 intro ns
 induction ns with
 |nil =>
  intro vs w;cases w;exact .nil
 |cons n ns ih =>
  intro vs w;cases w with
  |cons a b =>
   cases a;exact .cons _ _<|ih _ b
def Uj{l:OpenLaw}(hn:l.most=some n){h:Heap}
  (hpre:l.row.toRowW.claim.pre args=true) (hwl:WellAll P h vals args) :
  ∃ a vs ns,vals=[fk a]/\args=[WData.list (ns.map WData.int)]/\h.get? a=some { cls:=.type "list",data:=.seq vs.toArray }/\qz vs ns/\ns.length<=n:=by
 have hc:l.pre.holds [] _=true:=(pre_splitW hpre).2;obtain⟨d,r,rfl,h1,h2⟩:=hasAllW_cons<|(pre_splitW hpre).1;obtain rfl:=hasAllW_nil h2;obtain⟨xs,rfl,h3⟩:=hasW_list h1;obtain⟨ns,rfl⟩:=items_int h3
 have CG:ns.length<=n:=by
  have h4:(WTm.not<|.lt (.lit<|.int n) (.len<|.arg 0)).holds [] { args:=[.list (ns.map .int)] }=true:=by
   have h4:=(holds_andW hc).1;rw[hn]at h4;exact h4
  have h5:=condW_of h4<|w_not<|w_lt w_lit<|w_len_list<|w_arg rfl
  first
   |(exact absurd h5 (by decide))
   |(simp at h5;omega)
 cases hwl with
 |cons w1 w2 =>
  cases w2;cases w1 with
  |list ho hall=>exact{_,_,ns,rfl,rfl,ho,Uh ns _ hall,CG}
def Uk(l:OpenLaw)(args:List WData):l.row.toRowW.claim.post args (.bool true) args=true :=
 postW_of
  (show WShape.has [] _ _=true by first|rfl|decide|simp[WShape.armsAll])
  (w_eq_bool (w_res rfl) w_lit) rfl
def attach_call{l:OpenLaw}{XP:(Str->Option Value)->Heap->Prop}{YP:World->Heap->Prop}{d:DefRec}
  (hn:l.most=some n) (hdf:d.params.defaults=[])
  (call:∀ (w:World) (s₀ s₁:ξ) (mg mb:UN) (fa:Addr) (o:Obj) (pm cd doc:Value) (a:Addr) (vs:sV) (ns:sZ),
   Ground q loose [] XP w s₀ mg mb s₁.heap->YP w s₁.heap ->
   s₁.heap.get? fa=some o->o.data=.func (docDef d.name d.params d.body d.scope pm cd doc)->s₁.heap.CodeRec cd d.name->mg d.name=some (.ref fa) ->
   s₁.heap.get? a=some { cls:=.type "list",data:=.seq vs.toArray }->qz vs ns->ns.length<=n->s₁.gens= #[] →
   uw (model l.prog w) Jt (.call (.ref fa) {[.ref a],[]}) (λr s'=>r=.ok (.ret<|.bool true)/\OldK s₁.heap s'.heap/\s'.os=s₁.os/\tm s'.gens) s₁) :
  WalkO q loose XP YP l.row.toRowW d [] (λf vs=>PySem.call f vs):=by
 intro w s₀ s₁ mg mb G Y fa o pm cd doc dV kV ho hd GO hD hmg hg args vals as hpre hlay hrd hwl hlo;obtain rfl:dV=.none:=Dflts.none hD hdf;obtain rfl:kV=.none:=Dflts.noKw hD;obtain⟨a,vs,ns,rfl,rfl,hobj,hints,CG⟩:=Uj hn hpre hwl;refine enter_call<|lm (call w _ _ mg mb fa o pm cd _ a vs ns G Y ho (fd_plain hd) GO hmg hobj hints CG hg) λr s' hq=>?_;obtain⟨rfl,h2,h3,h4⟩:=hq;exact{.inl {_,_,[],rfl,λ_=>rfl,.bool _,Uk l _,λ_=>{Ee,λ_ hm=>(nomatch hm)}},h2,h3,h4}
section
variable{prog:bw}{w:World}{A:dk}{E:tQ}{s:ξ}{K:Frag}
end
end Att
namespace L2
theorem VX:∀ {vs:sV} {ns:sZ},qz vs ns->Vals (ns.map V.int) vs
 |_,_,.nil=>.nil
 |_,_,.cons n t h=>.cons ⟨t,rfl⟩ (VX h)
def VY(H:Hp):Prop:=∀ b,H b=none\/∃ o xs,H b=some (.frz o<|.lst xs)
def Ul{K:ι}{mg mb:UN}{sp:Sp}{s₁:ξ}{vs:sV}{ns:sZ}
  (KX:K.In s₁.heap) (hns:s₁.heap.Ns bq mg) (hb:s₁.heap.Ns Ka mb) (hbb:∀ x:Str,x≠"__name__"->mb x=nz x) (hlim:s₁.heap.NoLimit) (hg:s₁.gens= #[])
  (ha:s₁.heap.get? a=some { cls:=.type "list",data:=.seq vs.toArray }) (hi:qz vs ns) (hl:ns.length<=sizeLine) (hr:Room k Jt)
  (F:∀ base:Heap,K.In base->base.Ns bq mg->FnOk P w K mg base CX k fa fd [x] sp) (hbind:∀ (s:ξ) (u:Value),xg s fd {[u],[]} [(x,u)])
  (hsp:∀ H:Hp,VY H->SqL K H a (ns.map V.int)->sp [.ref a] H (λv y=>v=.bl true) λy y y=>False)
  (hCX:∀ H e s',CX [] H s₁ (λy y y=>False) e s'->False) :
  uw (model P w) Jt (.call (.ref fa) {[.ref a],[]}) (λr s'=>r=.ok (.ret<|.bool true)/\OldK s₁.heap s'.heap/\s'.os=s₁.os/\tm s'.gens) s₁:=by
 have core:∀ H:Hp,VY H->SqL K H a (ns.map V.int)->HOk P w H s₁.heap->(∀ b,H b≠none->b=a)->(H a≠none->K.lookup a=none) ->
   uw (model P w) Jt (.call (.ref fa) {[.ref a],[]}) (λr s'=>r=.ok (.ret<|.bool true)/\OldK s₁.heap s'.heap/\s'.os=s₁.os/\tm s'.gens) s₁:=by
  intro H hO hS hok hA hK
  have noA:∀ {b:Addr} {o:Obj} {es:Array _} {ep:Nat},s₁.heap.get? b=some o->o.data=.dict es ep->H b=none:=λ{b o es ep} e d=>by
   cases q:H b with
   |none=>rfl
   |some u =>
    have e':=hA b (by rw[q];simp);subst e';rw[ha]at e;obtain rfl:=μ e;cases d
  have base_of:∀ {b:Addr} {o:Obj},s₁.heap.get? b=some o->H b=none->(M6 _ H).get? b=some o:=λe n=>Kh e n
  have nsK:∀ {b:Addr} {m:Str->Option _},s₁.heap.Ns b m->(M6 _ H).Ns b m:=λ{b m} ⟨o,es,ep,e,d,r⟩=>x3 o es ep {base_of e<|noA e d,d,r}
  have hKb:=λb o e=>base_of (KX b o e) (by
   cases q:H b with
   |none=>rfl
   |some u =>
    have e':=hA b (by rw[q];simp);subst e';rw[hK (by rw[q];simp)]at e;cases e)
  refine lm ((F _ hKb<|nsK hns).run _ [] _ H _ [.ref a] [.ref a] _ _ hr ({rfl,({hKb,nsK hns,{mb,nsK hb,hbb},let ⟨mc,h1,h2⟩:=hlim;{mc,nsK h1,h2}}),λb o e=>Kj e,bh<|Kg _ _,trivial,λb hb=>absurd (show b∈([])from hb) (by simp),hok,.of_eq hg}) (hbind _ _) (.cons rfl .nil) (hsp H hO hS)) λr s' h=>?_;cases r with
  |error e=>exact(hCX H e s' h).elim
  | ok fl =>
   cases fl with
   |next=>exact jq h
   |brk=>exact jq h
   |cont=>exact jq h
   |ret u =>
    revert h;apply u2;rintro v H' ⟨os,bare,un,hok',r',rfl⟩;obtain rfl:u=J_ _:=r';refine{rfl,OldK.of_keep λb o e=>?_,os,bare};cases q:H b with
    |none=>exact un.keep b o e q (by intro z;exact absurd (show b∈([])from z) (by simp)) (by simp)
    |some u =>
     rcases hO b with z|⟨ob,xs,z⟩
     rw[q]at z;cases z;obtain⟨e2,y⟩:=hok' b _<|un.frzs b ob _ z;obtain⟨e1,y⟩:=hok b _ z;rw[e]at e1;obtain rfl:=μ e1;exact e2
 have rv:=VX hi;cases hk:K.lookup a with
 |some o =>
  have e:=KX a o hk;rw[ha]at e;obtain rfl:=μ e;refine core (λy=>none) (λy=>.inl rfl) (.inr (x3 _ _ _ {hk,rfl,rfl,rfl,by rw[az,hi.length];exact hl,rv})) (λb u z=>by cases z) (λb z=>absurd rfl z) λz=>absurd rfl z
 |none =>
  refine core (λb=>if b=a then some _ else none) (λb=>?_) (.inl<|.inr {{ cls:=.type "list",data:=.seq vs.toArray },if_pos rfl}) (λb u z=>?_) (λb z=>?_) λy=>hk;by_cases hb:b=a;exact .inr<|x2 _ _<|if_pos hb;exact .inl<|if_neg hb;by_cases hb:b=a
  have z':=(if_pos hb).symm.trans z;cases z';subst hb;exact{ha,by rw[ζ];exact hl,x2 vs _ ⟨rv,ha⟩};cases ((if_neg hb).symm.trans z);by_cases hb:b=a;exact hb;exact absurd (if_neg hb) z
def walk_of{l:W.OpenLaw}{XP:(Str->Option Value)->Heap->Prop}{YP:World->Heap->Prop}{d:DefRec}{K:Params->ι}{CX:World->HN}{sp:World->Sp}
  (hn:l.most=some n) (hn2:n<=sizeLine) (hdf:d.params.defaults=[]) (hr:Room k Jt)
  (hY:∀ (w:World) (h:Heap),YP w h->(K w.params).In h)
  (F:∀ (w:World) (mg:UN) (fa:Addr) (h:Heap),(K w.params).In h->h.Ns bq mg->mg d.name=some (.ref fa) ->
   ∃ fd:gq,(∀ (s:ξ) (u:Value),xg s fd {[u],[]} [(x,u)]) /\
    ∀ base:Heap,(K w.params).In base->base.Ns bq mg->FnOk l.prog w (K w.params) mg base (CX w) k fa fd [x] (sp w))
  (hsp:∀ (w:World) (H:Hp) (a:Addr) (ns:sZ),ns.length<=n->VY H->SqL (K w.params) H a (ns.map V.int)->sp w [.ref a] H (λv _=>v=.bl true) λ_ _ _=>False)
  (hCX:∀ (w:World) (H:Hp) (s:ξ) (e:Value) (s':ξ),CX w [] H s (λ_ _ _=>False) e s'->False) :
  W.WalkO q loose XP YP l.row.toRowW d [] (λf vs=>PySem.call f vs):=by
 refine Att.attach_call hn hdf λw s₀ s₁ mg mb fa o pm cd doc a vs ns G Y ho hd GO hmg hobj hints CG hg=>?_
 have KX:=hY w _ Y;obtain⟨fd,hb,hF⟩:=F w mg fa _ KX G.T.g hmg;exact Ul KX G.T.g G.T.b G.T.builtins G.T.nolimit hg hobj hints (ω CG hn2) hr hF hb (λH hO hS=>hsp w H a ns CG hO hS) λH e s'=>hCX w H _ e s'
def BN(s:Stmt)(j:Nat):Stmt:=match s with
 |.ClassDef _ _ _ body _ _ _ _ _ _ _=>body.getD j<|.Pass {0,0,0,0}
 |_=>.Pass {0,0,0,0}
def JW(s:Stmt):Arguments:=match s with
 |.FunctionDef _ a _ _ _ _ _ _ _ _=>a
 |_=>{ posonlyargs:=[],args:=[],vararg:=none,kwonlyargs:=[],kw_defaults:=[],kwarg:=none,defaults:=[] }
def HA(s:Stmt):List Stmt:=match s with
 |.FunctionDef _ _ b _ _ _ _ _ _ _=>b
 |_=>[]
def AT(s:Stmt):Scope:=match s with
 |.FunctionDef _ _ _ _ _ _ sc _ _ _=>sc
 |_=>{ kind:=.function,names:=[],isGenerator:=false,isCoroutine:=false }
abbrev E0:XK:=λ_ _ _=>False
structure Fun(K:ι)(x qual:Str)(st:Stmt)(f:Addr)(fd:gq):Prop where
 ex:∃ (oc:Value) (od:Option Addr) (kV doc pm:Value) (an:Option Addr) (CF ct:Value) (osl:Array (Option Value)),
  fd=xq x qual (JW st) (HA st) (AT st) .none kV doc pm an CF ct/\K.lookup f=some {oc,od,.func fd,osl}/\zo K CF qual=true
 kp:pi K (.ref f)=true
section
variable{P:bw}{w:World}{K:ι}{mg:UN}{base:Heap}
def Fun.binds{x qual:Str}{st:Stmt}{f:Addr}{fd:gq}{ps:tY}(F:Fun K x qual st f fd)
  (h:∀ (kV doc pm:Value) (an:Option Addr) (CF ct:Value) (us:sV),us.length=ps.length->bindArgs (xq x qual (JW st) (HA st) (AT st) .none kV doc pm an CF ct) {us,[]}=pure (ps.zip us)):Binds K fd ps []:=by
 refine u9 ?_ F.ex;rintro oc od kV doc pm an CF ct osl ⟨rfl,lk,GO⟩;exact .all<|h kV _ pm an _ ct
def lJ{x qual:Str}{st:Stmt}{f:Addr}{oc:Value}{od an:Option Addr}{osl:Array (Option Value)}{kV doc pm CF ct:Value}(l:K.lookup f=some {oc,od,.func<|xq x qual (JW st) (HA st) (AT st) .none kV doc pm an CF ct,osl})
  (c:zo K CF qual=true) (k:pi K (.ref f)=true):Fun K x qual st f (xq x qual (JW st) (HA st) (AT st) .none kV doc pm an CF ct):={x9 oc od kV _ pm an _ ct _ ⟨rfl,l,c⟩,k}
end
def K0(hr:Room k A):A.units+1<cLine:=cm (Nat.add_le_add_left (by decide) _) hr.units
section
variable{X:Cx}
def pv(i:Nat)(hN:X.N[i]? =some x:=by rfl)(hv:RN X.env.scope x:=by first|exact Hi rfl|exact zt (Hi rfl)|exact zt<|zt rfl)(hd:(x ==("__debug__":Str))=false:=by decide)
  (GO:(x ==("__classdict__":Str))=false:=by decide):PE X (.Name x pos) (RP i):=jV hN hv hd GO
end
def Same(H H':Hp):Prop:=∀ b o,H b=some o->H' b=some o
def Same.refl(H:Hp):Same H H:=λz z h=>h
def Same.trans{H H1 H2:Hp}(a:Same H H1)(b:Same H1 H2):Same H H2:=λc o h=>b c o<|a c o h
def Same.free{H H':Hp}(e:Same H H'){l:Addr}(h:H' l=xi):H l=xi:=by
 cases q:H l with
 |none=>rfl
 |some o =>
  rw[e l o q]at h;cases h
def Same.seq{K:ι}{H H':Hp}{a:Addr}{xs:Oq}(e:Same H H')(h:SqL K H a xs):SqL K H' a xs:=by
 rcases h with(h|⟨o,h⟩)|h
 exact .inl<|.inl<|e _ _ h;exact .inl<|.inr {o,e _ _ h};exact .inr h
section
variable{κ :Type}[DecidableEq κ]
def Um{kvs:List (κ × V)}(h:BF kvs k=none):¬ k∈kvs.map (·.1):=by
 intro m;obtain⟨p,hp,e⟩:=av.mp m
 have q:(kvs.any λkv=>decide<|kv.1=k)=true:=dq.mpr {p,hp,decide_eq_true e};rw[L7,h]at q;exact absurd q (by simp)
theorem lK:∀ {l:List κ} {k: κ},l.Nodup->¬ k∈l->(l++[k]).Nodup
 | [],k,_,_=>by simp
 |a::r,k,h,hk=>by
  obtain⟨h1,h2⟩:=gz.mp h;refine gz.mpr {λm=>?_,lK h2 λm=>hk<|aj.mpr<|zt m};rcases a_.mp m with q|q
  exact h1 q;exact hk<|aj.mpr<|Hi (ae.mp q).symm
def Up{kvs:List (κ × V)}(v:V)(hn:(kvs.map (·.1)).Nodup)(h:BF kvs k=none):((CA kvs k v).map (·.1)).Nodup:=by
 rw[lC v h,ai];exact lK hn<|Um h
end
theorem VZ:∀ (names:List (Str × xz)) (cs:List (Str × Addr)),
  (∀ x∈names,x.2=.free->∃ c,env.cells.lookup x.1=some c)->(∀ x c,cs.lookup x=some c->env.cells.lookup x=some c) ->
  ∃ cl,(forIn names cs λx r=>(if(x.2==gg)=true then do let a ← cellOf env x.1;pure (je ((x.1,a)::r))else pure (je r):Sem (ForInStep<|List<|Str × Addr)))=pure cl /\
   (∀ x c,cl.lookup x=some c->env.cells.lookup x=some c)/\(∀ x,(cs.lookup x).isSome=true->(cl.lookup x).isSome=true) /\
   ∀ x∈names,x.2=.free->(cl.lookup x.1).isSome=true
 | [],cs,_,h=>{cs,rfl,h,λ_ z=>z,λ_ z=>nomatch z}
 |(n,k)::r,cs,hf,h=>by
  by_cases hk:k=.free;subst hk;obtain⟨c,hc⟩:=hf _ χ rfl;obtain⟨cl,e,h1,h2,h3⟩:=VZ r ((n,c)::cs) (λx hx=>hf x<|ρ _ hx) (λx c' hx=>by
   by_cases hxn:x=n;subst hxn;simp only[ao,beq_self_eq_true]at hx;obtain rfl:=μ hx;exact hc
   have  :=beq_eq_false_iff_ne.mpr hxn;simp only[ao,this]at hx;exact h x c' hx)
  refine{cl,?_,h1,λx hx=>h2 x ?_,λx hx hxf=>?_};rw[yz]
  show(((match env.cells.lookup n with|some a=>pure a|none=>_)>>=_)>>=_)=_;rw[hc];exact e;by_cases hxn:x=n;subst hxn;simp
  have  :=beq_eq_false_iff_ne.mpr hxn;simp only[ao,this];exact hx;rcases aj.mp hx with rfl|hx
  exact h2 n (by simp);exact h3 x hx hxf;obtain⟨cl,e,h1,h2,h3⟩:=VZ r cs (λx hx=>hf x<|ρ _ hx) h;refine{cl,?_,h1,h2,λx hx hxf=>?_};rw[yz,if_neg (by simp[(hk)])];exact e;rcases aj.mp hx with rfl|hx
  exact absurd hxf hk;exact h3 x hx hxf
def lL(hf:∀ x∈scope.names,x.2=.free->∃ c,env.cells.lookup x.1=some c) :
  ∃ cl,closureFor scope env=pure cl/\(∀ x c,cl.lookup x=some c->env.cells.lookup x=some c)/\∀ x∈scope.names,x.2=.free->(cl.lookup x.1).isSome=true:=by
 obtain⟨cl,e,h1,z,h3⟩:=VZ  _ [] hf (λx c h=>by simp at h);refine{cl,?_,h1,h3}
 have:(forIn scope.names ([]) λx r=>(if(x.2==gg)=true then do let a ← cellOf env x.1;pure (je ((x.1,a)::r))else pure (je r))) >>=(λr=>(pure r))=(pure cl:Sem _):=by rw[e];rfl
 exact this
theorem lM{env:Env}:∀ {names:List (Str × xz)} {x:Str},names.lookup x=some .free ->
  (names.map λ(n,k)=>if(k==gg&&env.scope.kind == .function&&env.kindOf n==some .cell)then(n,gi)else(n,k)).lookup x=some .cell ∨
  (names.map λ(n,k)=>if(k==gg&&env.scope.kind == .function&&env.kindOf n==some .cell)then(n,gi)else(n,k)).lookup x=some .free
 | [],_,h=>by simp at h
 |(n,k)::r,x,h=>by
  by_cases hx:x=n;subst hx;simp only[ao,beq_self_eq_true]at h;obtain rfl:=μ h
  show gx x ((if _ then(x,gi)else(x,gg))::_)=_\/gx x ((if _ then(x,gi)else(x,gg))::_)=_;split;exact .inl (by simp);exact .inr (by simp)
  have hb:=beq_eq_false_iff_ne.mpr hx;simp only[ao,hb]at h
  show gx x ((if _ then(n,gi)else(n,k))::_)=_\/gx x ((if _ then(n,gi)else(n,k))::_)=_;split<;>(simp only[ao,hb];exact(lM  h))
theorem lN{env:Env}:∀ {names:List (Str × xz)} {x:Str},
  ((names.map λ(n,k)=>if(k==gg&&env.scope.kind == .function&&env.kindOf n==some .cell)then(n,gi)else(n,k)).lookup x=some .cell ∨
  (names.map λ(n,k)=>if(k==gg&&env.scope.kind == .function&&env.kindOf n==some .cell)then(n,gi)else(n,k)).lookup x=some .free)->(x,gg)∈names\/(x,gi)∈names
 | [],_,h=>by simp at h
 |(n,k)::r,x,h=>by
  by_cases hx:x=n;subst hx
  have h:gx x ((if(k==gg&&env.scope.kind == .function&&env.kindOf x==some _)=true then(x,gi)else(x,k))::_)=some _\/gx x ((if(k==gg&&env.scope.kind == .function&&env.kindOf x==some _)=true then(x,gi)else(x,k))::_)=some _:=h;split at h;rename_i hc;rw[cb,cb]at hc
  have:k=.free:=by simpa using hc.1.1
  subst this;exact .inl χ;simp only[ao,beq_self_eq_true]at h;rcases h with h|h
  cases h;exact .inr χ;cases h;exact .inl χ
  have h:gx x ((if(k==gg&&env.scope.kind == .function&&env.kindOf n==some _)=true then(n,gi)else(n,k))::_)=some _\/gx x ((if(k==gg&&env.scope.kind == .function&&env.kindOf n==some _)=true then(n,gi)else(n,k))::_)=some _:=h
  have h':=h;split at h'
  all_goals
   simp only[ao,(beq_eq_false_iff_ne.mpr hx)]at h';exact(lN h').imp (ρ _) (ρ _)
def FA{a b:Addr}{n:Nat}(h:a<n)(h2:n<=b):a≠b:=bd<|ψ h h2
def Cx.block(X:Cx)(AA:tI)(s:ξ)(H:Hp)(Nc:tY)(scope:Scope)(cl:List (Str × Addr))(C:Addr)(fp:tW):Cx where
 prog:=X.prog
 w:=X.w
 K:=X.K
 mg:=X.mg
 base:=X.base
 A:=X.A
 N:=Nc
 s₀:=s
 H₀:=H
 env:=compEnvC scope cl C X.env
 outer:=X.stack
 stack:=X.stack
 ex:=fp
 fn:=λ_=>false
 calm:=X.calm
 pn:=X.pn++AA
 xe:=λ_ _=>False
abbrev _root_.t3:=List Nat
structure JX(X:Cx)(scope:Scope)(tn cn:tY)(A7:t3):Prop where
 kind:scope.kind=.function
 nocell:∀ y∈scope.names,y.2≠.cell
 names:∀ y∈scope.names,y.2=.local->scope.names.lookup y.1=some .local
 free:∀ y∈scope.names,y.2=.free->X.env.kindOf y.1=some .cell\/X.env.kindOf y.1=some .free
 drawn:∀ x∈cn,scope.names.lookup x=some .free
 caps:A7.map (λi=>X.N[i]?)=cn.map some
def K1(k:Nat)(A7:t3)(σ:St):St:=bc k none++A7.map λi=>(σ[i]?).join
def HOk.track(x:HOk P w H h)(hn:H a=none)(new:ObjOk P w (upd H a o) h a o):HOk P w (upd H a o) h:=λb u e=>by
 by_cases hb:b=a;subst hb;rw[AF]at e;obtain rfl:=μ e;exact new;rw[AI hb]at e;refine(x b u e).stay (λz z z q=>q) (λc q=>?_) λc xs q=>?_;rw[AI (BI q hn)];exact q;rw[AI (BI q hn)];exact q
section
variable{X:Cx}{AA:tI}{σ:St}{H:Hp}{s:ξ}
def Inv.pinlt(I:Inv X AA σ H s)(hp:p∈X.pn++AA):p.1<s.heap.objs.size:=au (I.pin p hp).1
def Inv.stkne(I:Inv X AA σ H s)(h1:b≠X.env.locals)(h2:b∉X.fs):b∉D0 X.stack:=λz=>(aj.mp<|I.stkSub b z).elim h1 h2
def Inv.stklt(I:Inv X AA σ H s)(h:b∈D0 X.stack):b<s.heap.objs.size:=by
 obtain⟨z,o,ho,z⟩:=I.stack.mem h;exact au ho
theorem Inv.block{scope:Scope}{tn cn:tY}{cl:List (Str × Addr)}{s1:ξ}(I:Inv X AA σ H s)(S:JX X scope tn cn A7)
  (BC:∀ x c,cl.lookup x=some c->X.env.cells.lookup x=some c) (FL:∀ x∈scope.names,x.2=.free->(cl.lookup x.1).isSome=true)
  (hf:∀ b∈fp,FpOk X AA H b) (hfl:∀ b∈fp,b<s.heap.objs.size) (hC:s.heap.objs.size<=C) (k:∀ b o,s.heap.get? b=some o->s1.heap.get? b=some o)
  (hos:s1.os=s.os) (hg:s1.gens=s.gens) (hns:∃ m,s1.heap.Ns C m)
  (hp:∀ p∈pins',s1.heap.get? p.1=some p.2/\H p.1=none/\p.1≠C/\p.1∉D0 X.stack/\∀ v,p.2.data≠.cell v) :
  Inv (X.block AA s H (tn++cn) scope cl C fp) pins' (K1 tn.length A7 σ) H s1:=by
 have ok:(X.block AA s H (tn++cn) scope cl C fp).Ok:=by
  refine{I.ok.mod,S.kind,I.ok.glob,I.ok.blt,hC,λx y c h1 h2=>I.ok.inj x y c (BC x c h1) (BC y c h2),λx hx=>?_,λx c z t=>(by cases z),I.ok.hd,I.ok.frames,.inl rfl,λb hb=>{(bd<|ψ (hfl b hb) hC),λx c e=>(hf b hb).2.2.2.2.1 x c (BC x c e)},I.bs,ω I.ok.bsz I.sz,λb o e hb=>?_,λb hb=>I.stkne (hf b hb).2.1 (hf b hb).2.2.1,I.stack,I.stkFree};rcases lN  hx with z|z
  exact cz.mp<|FL _ z rfl;exact absurd rfl<|S.nocell _ z;rcases(hf b hb).2.2.2.1 with z|z
  exact I.ok.noex b o e z;exact absurd (ψ (au e) (ω I.ok.bsz z)) (jk _)
 refine{ok,hos,by rw[hg];exact I.bare,Un.kept k,?_,λx c e=>?_,I.hok.fresh hC,λx c e=>I.freeC x c<|BC x c e,λp hp'=>?_,I.hok.kept k,?_};obtain⟨m,hm⟩:=hns;refine{m,hm,λi x v h1 h2 h3=>?_}
 have hi:tn.length<=i:=by
  rcases eq i _ with z|z
  unfold K1 at h2;rw[ba (by simpa using z),x_]at h2;split at h2<;>cases h2;exact z
 unfold K1 at h2;rw[cf (by simpa using hi),ug,τ]at h2
 have h1':cn[i-tn.length]? =some x:=by
  have:(tn++cn)[i]? =some x:=h1
  rwa [cf hi]at this
 cases hq:A7[i-tn.length]? with
 |none=>rw[hq]at h2;cases h2
 |some j =>
  rw[hq]at h2
  have hj:X.N[j]? =some x:=by
   have:=congrArg (λl=>l[i-tn.length]?) S.caps;simp only[τ,hq,h1']at this;exact μ this
  have hv:σ[j]? =some (some v):=by
   cases hs:σ[j]? with
   |none=>simp[hs]at h2
   |some y=>simp only[mf,hs]at h2;obtain rfl:=μ h2;rfl
  have hxf:=PySem.mem_of_lookup<|S.drawn x<|θ h1';obtain⟨m0,t,hl0⟩:=I.loc
  have hk:=S.free _ hxf rfl;obtain⟨u,r,q⟩:=hl0 j x v hj hv<|hk.elim (λz=>.inr<|.inl z) λz=>.inr<|.inr z;refine{u,r,.inr {lM<|S.drawn x<|θ h1',?_}};rcases q with⟨kl,_⟩|⟨_,c,hc,z⟩
  rcases hk with hk|hk<;>(rw[kl]at hk;cases hk)
  obtain⟨c',hc'⟩:=cz.mp<|FL _ hxf rfl
  have:=BC _ _ hc';rw[hc]at this;obtain rfl:=μ this;exact{c,hc',z.keeps k}
 obtain⟨v,z⟩:=I.cell x c<|BC x c e;exact{v,z.keeps k};rcases a_.mp hp' with z|z
 obtain⟨e,n,ne,nf,d⟩:=I.pin p z;exact{k _ _ e,n,bd<|ψ (au e) hC,I.stkne ne nf,d};exact hp p z;unfold K1
 have:=congrArg nj S.caps
 show _=(tn++cn).length;simp only[ζ]at this;simp[this]
end
def CP:TT:=λ_ H Q=>Q true H
def K2(X:Cx)(ET:wW)(t:TT):Prop :=
 ∀ (AA:tI) (s:ξ) (σ:St) (H:Hp) (Q:ZQ),Inv X AA σ H s->t σ H Q ->
  wpAny (model X.prog X.w) X.A (forIn ET true λc r=>if r=true then do let ok ← Na c X.env (eval c X.env);pure (je ok)else pure (je r)) (TP X AA σ Q) X.xe s
def Uq:K2 X [] CP:=λAA s σ H Q I h=>wpAny_tests_nil ⟨H,I,h⟩
def Uv(h:PT X c t):K2 X [c] t:=λAA s σ H Q I q=>wpAny_tests_one<|h _ s σ H Q I q
def Uw (Jn:Nat->ξ->Prop)
    (turn:∀ n s,Jn n s->wpAny (model prog w) A (zi it) (λr s₁=>match r with
      |none=>R (.ok .next) s₁
      | some v=>wpAny (model prog w) A (yx target it v) (λ_ s₂=>wpAny (model prog w) A (Ni target env v) (λ_ s₃ =>
          wpAny (model prog w) A (forIn ET true λc r=>if r=true then do let ok ← Na c env (eval c env);pure (je ok)else pure (je r)) (λok s₄ =>
            if ok=true then wpAny (model prog w) A (eval ES env) (λx s₅ =>
              wpAny (model prog w) A (call (.builtin "list.append") [BP,x]) (λ_ s₆=>∃ m,m<n/\Jn m s₆) (λ_ _=>False) s₅) (λ_ _=>False) s₄
            else ∃ m,m<n/\Jn m s₄) (λ_ _=>False) s₃) (λ_ _=>False) s₂) (λ_ _=>False) s₁) (λ_ _=>False) s)
    (n:Nat) (h:Jn n s):uw (model prog w) A (.compLoop (.ListComp ES [{target,iter,ET,0}] scope pos) 0 it BP env) R s:=by
  refine codeAny_loop rfl Jn (λn' s' hJ=>(wpAny_noted<|wpAny_noRaise<|δ<|Bn<|δ<|AS (turn n' s' hJ) λr s₁ h₁=>?_)) n h;cases r with
  |none=>exact π h₁
  |some v =>
    refine δ<|AS h₁ λ_ s₂ h₂=>(δ<|AS h₂ λ_ s₃ h₃=>δ<|AS h₃ λok s₄ h₄=>?_);cases ok with
    |false=>exact π ⟨rfl,h₄⟩
    |true=>exact δ<|δ<|AS h₄ λx' s₅ h₅=>δ<|AS h₅ λ_ s₆ h₆=>π<|π ⟨rfl,h₆⟩
def BT(wi:TI)(g:TG)(tt:TT)(te:TE)(k:Nat)(A7:t3):TE:=λσ H Q=>wi σ H λJ H1 =>
 ∃ W:Nat->Nat->St->Oq->Hp->Prop,(∃ m,W 0 m (K1 k A7 σ) [] H1)/\∀ i m σ' ys H,W i m σ' ys H ->
  (J.stop i H/\∀ p,H p=none->Q (.ref p) (upd H p<|.lst ys)) ∨
  (J.go i H/\ys.length<sizeLine/\∀ x H',J.yld i H x H'->g x σ' H' λσ2 H2=>tt σ2 H2 λb H3 =>
   if b=true then ∃ N:VK,(∀ y H4,N y H4->∃ m',m'<m/\W (i+1) m' σ2 (ys++[y]) H4)/\te σ2 H3 N else ∃ m',m'<m/\W (i+1) m' σ2 ys H3)
structure CompDone(X:Cx)(fp:tW)(H:Hp)(s:ξ)(Q:VK)(BP:Value)(C:Addr)(r:Result)(s':ξ):Prop where
 ok:r=.ok .next
 ex:∃ (D:Addr) (ys:Oq) (AJ:sV) (n:Nat) (H':Hp),BP=.ref D/\Vals ys AJ/\ys.length<=sizeLine/\s'.heap.get? D=some { cls:=.type "list",data:=.seq AJ.toArray n }/\s.heap.objs.size<=D/\D≠C/\H' D=none/\H' C=none ∧
  (∃ m,s'.heap.Ns C m)/\Un (D0 X.stack) fp H H' s.heap s'.heap/\HOk X.prog X.w H' s'.heap/\∀ p,H' p=none->Q (.ref p) (upd H' p<|.lst ys)
 ge:s.heap.objs.size<=C
 os:s'.os=s.os
 bare:tm s'.gens
section
variable{X:Cx}{AA:tI}{σ:St}{H:Hp}{s:ξ}
def lO {scope:Scope} {tt:TT} {te:TE} {tn cn:tY} {cl:List (Str × Addr)} {tn':Nat->Heap->Prop} {J:It} {Q:VK} {E:tQ}
    (I:Inv X AA σ H s) (S:JX X scope tn cn A7) (hc:X.calm=true)
    (BC:∀ x c,cl.lookup x=some c->X.env.cells.lookup x=some c) (FL:∀ x∈scope.names,x.2=.free->(cl.lookup x.1).isSome=true)
    (T:KS X.prog X.w X.K tg J fp it tn') (st:tn' 0 s.heap) (hf:∀ b∈fp,FpOk X AA H b)
    (hg:∀ C,PG (X.block AA s H (tn++cn) scope cl C fp) tg g) (ht:∀ C,K2 (X.block AA s H (tn++cn) scope cl C fp) ET tt) (he:∀ C,PE (X.block AA s H (tn++cn) scope cl C fp) ES te)
    (W:Nat->Nat->St->Oq->Hp->Prop) (w0:W 0 m0 (K1 tn.length A7 σ) [] H)
    (step:∀ i m σ' ys H,W i m σ' ys H ->
      (J.stop i H/\∀ p,H p=none->Q (.ref p) (upd H p<|.lst ys)) ∨
      (J.go i H/\ys.length<sizeLine/\∀ x H',J.yld i H x H'->g x σ' H' λσ2 H2=>tt σ2 H2 λb H3 =>
        if b=true then ∃ N:VK,(∀ y H4,N y H4->∃ m',m'<m/\W (i+1) m' σ2 (ys++[y]) H4)/\te σ2 H3 N else ∃ m',m'<m/\W (i+1) m' σ2 ys H3)) :
    wpAny (model X.prog X.w) X.A (newList []) (λBP s₃=>wpAny (model X.prog X.w) X.A (newFunctionEnv scope X.env.globals cl [] X.env.qual none .none (some X.env)) (λcenv s₄ =>
      uw (model X.prog X.w) X.A (.compStart (.ListComp ES [{tg,iter,ET,0}] scope pos) 0 (.ref it) BP { cenv with scope:=relabel scope X.env }) (CompDone X fp H s Q BP cenv.locals) s₄) E s₃) E s:=by
  refine fz (wpAny_newFunctionEnv S.nocell (by intro y hy;simp at hy) (λh₁ hns₁ hsb₁=>?_) S.kind);generalize hH2:s.heap.push _=H2 at hns₁ hsb₁ ⊢;generalize hCe:H2.objs.size=C at hns₁ hsb₁ ⊢
  have hC:=hCe.symm.trans (by rw[<-hH2,zm]);generalize hD:s.heap.objs.size=D at *
  have hDC:D≠C:=by rw[hC];exact bd<|fj _
  have old:∀ b o,s.heap.get? b=some o->h₁.get? b=some o:=λb o e=>by
    have hb:b<D:=by rw[<-hD];exact au e
    exact hsb₁.extBut b o (FA hb (by rw[hC];exact jm _)) (ο _<|hH2 ▸ ο _ e)
  have hDo:h₁.get? D=some { cls:=.type "list",data:=.seq ([]).toArray }:=by
    refine hsb₁.extBut _ _ hDC<|ο _ ?_;rw[<-hH2,<-hD];exact aw _ rfl
  have hDs:=λz=>FA (I.stklt z) (bh hD) rfl
  have hfl:∀ b∈fp,b<s.heap.objs.size:=λb hb=>by
    obtain⟨o,e,_⟩:=T.obj 0 _ st b hb;exact au e
  have I0:Inv _ [(D,{ cls:=.type _,data:=.seq _ 0 })] _ H { s with heap:=h₁,toks:=s.toks+([]:aI).length } :=
    I.block S BC FL hf hfl (by lia) old rfl rfl ⟨_,hns₁⟩ λp hp=>by
      rw[ae]at hp;subst hp;exact{hDo,(by rw[<-hD];exact I.hok.fresh<|υ _),hDC,hDs,λv z=>nomatch z}
  have st1:=T.keep _ _ _ st λb _ o e=>old b o e
  have fpok:∀ {H':Hp} {o:Obj},(∀ b∈fp,H' b=none)->∀ b∈fp,FpOk (X.block AA s H (tn++cn) scope cl C fp) [(D,o)] H' b:=λ{H' o} hn b hb=>by
    obtain⟨_,f1,f2,f3,f4,f5⟩:=hf b hb
    have hbl:=hfl b hb;refine{hn b hb,?_,I.stkne f1 f2,.inl hb,λx c e=>f4 x c<|BC x c e,λp hp=>?_}
    ·exact FA hbl (by rw[hD,hC];exact jm _)
    · rcases a_.mp hp with z|z
      ·exact f5 p z
      ·rw[ae]at z;subst z;exact eh<|FA hbl<|bh hD
  have loop:∀ s₃:ξ,s₃={ s with heap:=h₁,toks:=s.toks+([]:aI).length } ->
      uw (model X.prog X.w) X.A (.compLoop (.ListComp ES [{tg,iter,ET,0}] scope pos) 0 (.ref it) (.ref D) (compEnvC scope cl C X.env)) (CompDone X fp H s Q (.ref D) C) s₃:=by
    rintro s₃ rfl;refine Uw (λn s'=>∃ i σ' ys AJ nn H',Inv (X.block AA s H (tn++cn) scope cl C fp) [(D,{ cls:=.type "list",data:=.seq (AJ:sV).toArray nn })] σ' H' s'/\tn' i s'.heap/\(∀ b∈fp,H' b=none)/\Vals ys AJ/\ys.length<=sizeLine/\W i n σ' ys H') ?_ m0
      {0,_,[],[],0,H,I0,st1,λb hb=>(hf b hb).1,.nil,bv _,w0}
    rintro n s4 ⟨i,σ4,ys,AJ,nn,H4,I4,st4,fr4,r4,l4,w4⟩;rcases step i n σ4 ys H4 w4 with⟨stop,qn⟩|⟨go,A0,next⟩
    · refine AS (T.done (X.block AA s H (tn++cn) scope cl C fp) rfl rfl rfl hc i _ s4 σ4 H4 _ I4 (fpok fr4) st4 stop) λr s5 hzz=>?_
      obtain⟨hr,I5⟩:=hzz;subst hr
      have hp:=I5.pin (D,_) (ck _ χ);obtain⟨m5,hm5,_⟩:=I5.loc;exact{rfl,x5 D ys AJ nn H4 {rfl,r4,l4,hp.1,bh hD,hDC,hp.2.1,I5.free,⟨m5,hm5⟩,I5.base,I5.hok,qn},by lia,I5.os,I5.bare}
    · refine AS (T.item (X.block AA s H (tn++cn) scope cl C fp) rfl rfl rfl hc i _ s4 σ4 H4 _ I4 (fpok fr4) st4 go) λr s5 hzz=> ?_
      obtain⟨u,hr,h5⟩:=hzz;subst hr;refine AS h5 λ_ s6 hzz=>?_;obtain⟨x,H6,I6,r6,y6,st6,fr6⟩:=hzz
      have I6':=I6.pinned (fpok fr6) (T.obj _ _ st6);refine AS (hg C _ s6 σ4 H6 x u _ I6' r6<|next x H6 y6) λ_ s7 hzz=>?_;obtain⟨σ7,H7,I7,q7⟩:=hzz;refine AS (ht C _ s7 σ7 H7 _ I7 q7) λok s8 hzz=>?_;obtain⟨H8,I8,q8⟩:=hzz
      have keepst:∀ {σ9:St} {H9:Hp} {s9:ξ},Inv (X.block AA s H (tn++cn) scope cl C fp) ([(D,{ cls:=.type "list",data:=.seq AJ.toArray nn })]++RS fp s6.heap) σ9 H9 s9->(∀ b∈fp,∀ o,s6.heap.get? b=some o->s9.heap.get? b=some o)/\∀ b∈fp,H9 b=none:=λ{σ9 H9 s9} I9=>by
        refine{λb hb o e=>(I9.pin (b,o) (ck _<|ck _<|RU hb e)).1,λb hb=>?_};obtain⟨o,e,_⟩:=T.obj _ _ st6 b hb;exact(I9.pin (b,o) (ck _<|ck _<|RU hb e)).2.1
      cases ok with
      |false =>
        obtain⟨m',hm',w'⟩:=q8;obtain⟨k1,k2⟩:=keepst I8;exact{m',hm',x6 (i+1) σ7 ys AJ nn H8 {I8.unpinned,T.keep _ _ _ st6 k1,k2,r4,l4,w'}}
      | true =>
        obtain⟨Nw,hN,q8⟩:=q8;refine AS (he C _ s8 σ7 H8 Nw I8 q8) λv s9 hzz=>?_;obtain⟨y,H9,I9,r9,n9⟩:=hzz;obtain⟨m',hm',w'⟩:=hN y H9 n9;obtain⟨k1,k2⟩:=keepst I9
        have hp:=I9.pin (D,_) (ck _<|i_ _ χ)
        have e:=hp.1
        have CG:=r4.length;refine si Ci ⟨_,e,rfl⟩ A_ (zr _ _) (PySem.list_append D AJ.toArray nn v (by rw[az];exact oB (cm (bh CG.symm) A0) rfl)) {e,?_}
        have q:=PySem.IsL.update e<|λxs=>xs.push v
        have Ia:Inv (X.block AA s H (tn++cn) scope cl C fp) [] σ7 H9 s9:=I9.pins_of λp hp=>nomatch hp
        have Ib:=Ia.turned (h':=s9.heap.update D (lq (·.push v))) (t':=s9.toks) (it:=D) (λb o hb eb=>(c_ _ _<|eh hb).trans eb) hp.2.1 hDC (.inr (by show s.heap.objs.size<=D;exact bh hD))
          (λx c ec z=>by
            obtain⟨vv,zc⟩:=I.cell x c<|BC x c ec;exact FA zc.lt (bh hD) z)
          (λp hp'=>by
            rw[il]at hp';exact FA (I.pinlt hp') (bh hD))
        have q':(s9.heap.update D (lq (·.push v))).get? D=some { cls:=.type "list",data:=.seq (AJ++[v]).toArray (nn+1) }:=by
          rw[if_neg (by simp)]at q;rw[<-List.push_toArray];exact q
        refine{m',hm',x6 (i+1) σ7 (ys++[y]) (AJ++[v]) (nn+1) H9 {Ib.pins_of<|λp hp'=>?_,T.keep _ _ _ st6 λb hb o eb=>?_,k2,r4.append<|.cons r9 .nil,?_,w'}}
        · rw[ae]at hp'
          subst hp';exact{q',hp.2.1,hDC,hDs,λv' z=>nomatch z}
        · have hbl:=hfl b hb
          exact(c_ _ _<|eh<|FA hbl<|bh hD).trans (k1 b hb o eb)
        · rw[af,ir]
          exact A0
  exact codeAny_compStart_list (loop _ rfl) (T.self _ 0 _ _ _ st1<|loop _ rfl)
def CompDone.inv{Q:VK}{s':ξ}(I:Inv X AA σ H s)(hf:∀ b∈fp,FpOk X AA H b)(h:CompDone X fp H s Q BP C r s') :
  ∃ D H',BP=.ref D/\Inv X AA σ H' s'/\Q (.ref D) H'/\H' C=none/\∃ m,s'.heap.Ns C m:=by
 obtain⟨z,⟨D,ys,AJ,n,H',rfl,r4,l4,e,hD,hDC,hDn,hCn,hm,u,ok,q⟩,hC,os,bare⟩:=h
 have ltH:∀ b o,H b=some o->b≠D:=λb o eb=>FA (I.hok.lt eb) hD;refine x2 D (upd H' D<|.lst ys) {rfl,I.call'  os {u.keep,u.slot,λb o eb n' hx=>?_,u.there,λb xs eb=>?_,λb o x eb=>?_,λb ps eb=>?_} (ok.track hDn {l4,x2 _ n ⟨r4,e⟩}) bare (λb hb=>?_),q D hDn,?_,hm};rw[AI ((λb o eb=>FA (au eb) hD) b o eb)];exact u.free b o eb n' hx;rw[AI (ltH b _ eb)];exact u.tups b xs eb;rw[AI (ltH b _ eb)];exact u.frzs b o x eb;rw[AI (ltH b _ eb)];exact u.tbls b ps eb;obtain⟨z,f1,f2,f3,f4,f5⟩:=hf b hb;exact⟨f3,f1,f4,f5⟩;rw[AI (eh hDC)];exact hCn
def Inv.letgo{s1:ξ}(I:Inv X AA σ H s)(hC:s.heap.objs.size<=C)(I1:Inv X AA σ1 H1 s1)(hn:H1 C=none)(hs:gj C s1.heap h'):Inv X AA σ1 H1 { s1 with heap:=h' }:=by
 refine I1.turned   (λb o hb e=>(hs.2 b hb).trans e) hn (λz=>(FA I.lt hC z.symm)) (.inr<|ω I.sz hC) (λx c e z=>?_) λp hp z=>(FA (I.pinlt hp) hC z)
 obtain⟨v,zc⟩:=I.cell x c e;exact FA zc.lt hC z
variable{tg iter ES:Expr}{ET:wW}{scope:Scope}{pos:Pos}{wi:TI}{g:TG}{tt:TT}{te:TE}{tn cn:tY}{A7:t3}
def Ux(S:JX X scope tn cn A7)(hc:X.calm=true)(hi:PI X tg iter wi)
  (hg:∀ AA s H cl C fp,PG (X.block AA s H (tn++cn) scope cl C fp) tg g) (ht:∀ AA s H cl C fp,K2 (X.block AA s H (tn++cn) scope cl C fp) ET tt) (he:∀ AA s H cl C fp,PE (X.block AA s H (tn++cn) scope cl C fp) ES te)
  (hs:∀ x,mx iter X.env x=pure x:=by intro z;rfl):PE X (.ListComp ES [{tg,iter,ET,0}] scope pos) (BT wi g tt te tn.length A7):=by
 intro AA s σ H Q I h;obtain⟨cl,ecl,BC,FL⟩:=lL   λx hx hxf=>I.ok.has _<|S.free x hx hxf;refine xr  rfl hs ecl S.kind S.names (AS (hi _ s σ H _ I h) λv s1 h1=>AS h1 λitv s2 h2=>?_);revert h2;apply u5;rintro it fp tn' J H2 ⟨rfl,I2,T,st2,f2,W,⟨m0,w0⟩,turn⟩;refine AS (lO I2 S hc BC FL T st2 f2 (λC=>hg _ _ _ _ C _) (λC=>ht _ _ _ _ C _) (λC=>he _ _ _ _ C _) W w0 turn) λBP s3 h3=>AS h3 λcenv s4 h4=>lm h4 λr s5 h5=>?_
 have hr:=h5.ok;subst hr;refine u2 ?_<|h5.inv I2 f2;rintro D H' ⟨rfl,I5,q5,hCn,m,hm⟩;exact{m,hm,λh' hs'=>x2 (.ref D) H' {I2.letgo h5.ge I5 hCn hs',rfl,q5}}
def Uy{x:Str}{px spos:Pos}(S:JX X scope tn cn A7)(hc:X.calm=true)(hN:X.N.Nodup)(hi':X.N[i]? =some x)(hx:X.env.scope.names.lookup x=some .local)(hi:PI X tg iter wi)
  (hg:∀ AA s H cl C fp,PG (X.block AA s H (tn++cn) scope cl C fp) tg g) (ht:∀ AA s H cl C fp,K2 (X.block AA s H (tn++cn) scope cl C fp) ET tt) (he:∀ AA s H cl C fp,PE (X.block AA s H (tn++cn) scope cl C fp) ES te)
  (hsw:v_ (.ListComp ES [{tg,iter,ET,0}] scope pos) (some<|.Name x px) spos.line X.env=pure true:=by rfl)
  (hs:∀ x,mx iter X.env x=pure x:=by intro y;rfl):PS X (.Assign [.Name x px] (.ListComp ES [{tg,iter,ET,0}] scope pos) spos) (AQ (BT wi g tt te tn.length A7) (AE i)):=by
 intro AA s σ H D I h;obtain⟨cl,ecl,BC,FL⟩:=lL   λx hx hxf=>I.ok.has _<|S.free x hx hxf;rw[exec_Assign_Name_used _ _ _ _ hsw];refine δ<|Bn<|δ<|δ<|xr  rfl hs ecl S.kind S.names (AS (hi _ s σ H _ I h) λv s1 h1=>AS h1 λitv s2 h2=>?_);revert h2;apply u5;rintro it fp tn' J H2 ⟨rfl,I2,T,st2,f2,W,⟨m0,w0⟩,turn⟩;refine AS (lO (Q:=λx' H1=>AE i x' σ H1 _) I2 S hc BC FL T st2 f2 (λC=>hg _ _ _ _ C _) (λC=>ht _ _ _ _ C _) (λC=>he _ _ _ _ C _) W w0 turn) λBP s3 h3=>AS h3 λcenv s4 h4=>lm h4 λr s5 h5=>?_
 have hr:=h5.ok;subst hr;refine u2 ?_<|h5.inv I2 f2;rintro Da H' ⟨rfl,I5,q5,hCn,m,hm⟩;refine Di<|jU I5 hN hi' (.inl hx) (show RelV (.ref Da) _ from rfl) (λs6 I6 ⟨a,hsb,ha⟩=>{m,hm.sameBut hsb ?_,λh' hs'=>(π<|π<|x2 _ H' {I2.letgo h5.ge I6 hCn hs',q5})}) (.inr hx);rcases ha with z|z
 exact eh<|z ▸ FA I2.lt h5.ge;obtain⟨vv,zc⟩:=I2.cell x a z;exact eh<|FA zc.lt h5.ge
end
def ObjOk.there(x:ObjOk P w H h a o):∃ ob,h.get? a=some ob:=by
 cases o with
 |lst xs=>obtain⟨z,z,z,z,e⟩:=x;exact⟨_,e⟩
 |tup xs=>obtain⟨z,z,z,ob,e,z⟩:=x;exact⟨_,e⟩
 |dK kvs=>obtain⟨z,z,z,z,ob,z,z,e,z⟩:=x;exact⟨_,e⟩
 |dT kvs=>obtain⟨z,z,z,z,ob,z,z,e,z⟩:=x;exact⟨_,e⟩
 |set S n=>revert x;apply u4;rintro ob z z z ⟨e,z⟩;exact⟨_,e⟩
 |ins C dx fs=>obtain⟨z,z,z,e,z⟩:=x;exact⟨_,e⟩
 |own y=>exact x
 |xd fs=>obtain⟨z,⟨ob,z,z,e,z⟩,z⟩:=x;exact⟨_,e⟩
 |rng lo hi=>revert x;apply u3;rintro z z z e;exact⟨_,e⟩
 |frz ob u=>obtain⟨e,z⟩:=x;exact⟨_,e⟩
 |tbl ps=>exact⟨_,x⟩
 |met f y=>exact⟨_,x⟩
 |ext φ =>exact x.2.1
def HOk.nh(x:HOk P w H h)(e:h.get? a=none):H a=none:=by
 cases q:H a with
 |none=>rfl
 |some o =>
  obtain⟨ob,e'⟩:=(x a o q).there;rw[e]at e';cases e'
section
variable{X:Cx}{AA:tI}{σ:St}{H H':Hp}{s:ξ}{h':Heap}
def Inv.stepN{g':Array Df}{t':Nat}{d':Drawn}{ch:tW}(I:Inv X AA σ H s)
  (DJ:∀ b∈ch,(b∈X.ex\/X.s₀.heap.get? b=none)/\b≠X.env.locals/\(∀ x c,X.env.cells.lookup x=some c->c≠b)/\∀ p∈X.pn++AA,p.1≠b)
  (keep:∀ b o,b≠X.env.locals->b∉X.fs->b∉ch->s.heap.get? b=some o->H b=none->h'.get? b=some o)
  (slot:∀ b o,b≠X.env.locals->b∈X.fs->b∉ch->s.heap.get? b=some o->H b=none->∃ sl,h'.get? b=some { o with slots:=sl }) (free:∀ b o,b∉ch->s.heap.get? b=some o->H b=none->H' b=none)
  (there:∀ b o,b∉ch->s.heap.get? b=some o->∃ o',h'.get? b=some o')
  (tups:∀ b xs,H b=some (.tup xs)->H' b=some (.tup xs)) (frzs:∀ b o u,H b=some (.frz o u)->H' b=some (.frz o u)) (tbls:∀ b ps,H b=some (.tbl ps)->∃ more,H' b=some (.tbl<|ps++more))
  (ns:∀ m,s.heap.Ns X.env.locals m->h'.Ns X.env.locals m) (hok:HOk X.prog X.w H' h') (hg:tm g') :
  Inv X AA σ H' { s with heap:=h',gens:=g',drawn:=d',toks:=t' }:=by
 have neL:∀ b o,X.s₀.heap.get? b=some o->b≠X.env.locals:=λb o e=>bd<|ψ (au e) I.ok.above
 have neC:∀ b o,X.s₀.heap.get? b=some o->b∉X.ex->b∉ch:=λb o e hx hb=>by
  rcases(DJ b hb).1 with z|z
  exact hx z;rw[e]at z;cases z
 have cellK:∀ x c,X.env.cells.lookup x=some c->∀ v,s.heap.IsCell c v->h'.IsCell c v:=λx c e v ⟨o,ho,hd⟩=>by
  have nch:=λz=>(DJ c z).2.2.1 x c e rfl;by_cases hc:c∈X.fs;obtain⟨sl,q⟩:=slot c o (I.cne x c e) hc nch ho (I.freeC x c e);exact⟨_,q,hd⟩;exact{o,keep c o (I.cne x c e) hc nch ho (I.freeC x c e),hd}
 refine{I.ok,I.os,hg,{λb o e n hb hx=>(keep b o (neL b o e) hb (neC b o e hx) (I.base.keep b o e n hb hx) (I.base.free b o e n hx)),λb o e n hb hx=>?_,λb o e n hx=>?_,λb o e hx=>?_,λb xs e=>tups b xs<|I.base.tups b xs e,λb o xs e=>frzs b o xs<|I.base.frzs b o xs e,λb ps e=>?_},?_,λx c e=>?_,?_,λx c e=>?_,λp hp=>?_,hok,I.len};obtain⟨sl,e1⟩:=I.base.slot b o e n hb hx;obtain⟨sl',e2⟩:=slot b _ (neL b o e) hb (neC b o e hx) e1 (I.base.free b o e n hx);exact⟨_,e2⟩;obtain⟨o',e1⟩:=I.base.there b o e hx;exact free b o' (neC b o e hx) e1 (I.base.free b o e n hx);obtain⟨o',e1⟩:=I.base.there b o e hx;exact there b o' (neC b o e hx) e1;obtain⟨m1,e1⟩:=I.base.tbls b ps e;obtain⟨m2,e2⟩:=tbls b _ e1;exact{_,by rw[e2,Ce]};obtain⟨m,hn,hl⟩:=I.loc;refine{m,ns m hn,λi x v e1 e2 e3=>?_};obtain⟨u,r,l⟩:=hl i x v e1 e2 e3;refine{u,r,?_};rcases l with l|⟨k,c,e,z⟩
 exact .inl l;exact .inr {k,c,e,cellK x c e _ z};obtain⟨v,z⟩:=I.cell x c e;exact{v,cellK x c e v z};obtain⟨m,⟨o,y,y,ho,y⟩,y⟩:=I.loc;exact free _ o (λz=>(DJ _ z).2.1 rfl) ho I.free;obtain⟨v,o,ho,hd⟩:=I.cell x c e;exact free c o (λz=>(DJ c z).2.2.1 x c e rfl) ho (I.freeC x c e)
 have nch:=λz=>(DJ _ z).2.2.2 p hp rfl;obtain⟨e,n,ne,nf,d⟩:=I.pin p hp;exact{keep _ _ ne nf nch e n,free _ _ nch e n,ne,nf,d}
end
abbrev _root_.zV:=Addr->Prop
structure Fly(bad:zV)(H:Hp)(h:Heap)(e:Addr)(cls:Value):Prop where
 nb:¬ bad e
 free:H e=none
 ex:∃ (oe:Obj) (vs:Array Value),h.get? e=some oe/\oe.cls=cls/\oe.dict=none/\oe.data=.fields vs/\(vs[1]? =some .none ∨
  ∃ (T:Addr) (oT:Obj) (ts:Array Value),vs[1]? =some (.ref T)/\¬ bad T/\H T=none/\T≠e/\h.get? T=some oT/\oT.data=.fields ts/\ts[3]? =some .none)
def Fly.mono(F:Fly bad H h e cls)(k:∀ a,bad' a->bad a):Fly bad' H h e cls:=by
 obtain⟨nb,fr,oe,vs,h1,h2,h3,h4,h5⟩:=F;refine{λz=>nb<|k _ z,fr,x2 oe vs {h1,h2,h3,h4,?_}};rcases h5 with z|⟨T,oT,ts,a,b,c⟩
 exact .inl z;exact .inr<|x3 T oT ts {a,λz=>b<|k _ z,c}
section
variable{M:Model}{A:dk}{E:tQ}{s:ξ}
def lP
  (OK:A.frames=some (env::outer)) (hl:s.heap.FunFrames base (env::outer)) (hf:env.frame=some L) (he:s.heap.get? e=some oe) (hdt:oe.data=.fields vs) (hsz:1<vs.size)
  (h:∀ h' T oT ts,(∀ b o,s.heap.get? b=some o->b≠e->b∉D0 (env::outer)->h'.get? b=some o)->(∀ b o,s.heap.get? b=some o->b≠e->∃ sl,h'.get? b=some { o with slots:=sl }) ->
   h'.get? e=some (oe.mapFields (·.setIfInBounds 1 (.ref T)))->s.heap.objs.size<=T->h'.get? T=some oT->oT.data=.fields ts->ts[3]? =some (lu L)->Q () { s with heap:=h' }) :
  wpAny M A (do let a ← frameOf env;let pl ← entryPlaceOf L nx;let b ← EntryCells.newEntry hd a .none (lu L) .none pl;setField (.ref e) 1 b) Q E s:=by
 have hne:e∉(env::outer).filterMap _:=λz=>by
  obtain⟨y,o,ho,hn⟩:=hl.mem z;rw[he]at ho;obtain rfl:=μ ho;exact hn vs hdt
 refine δ<|wpAny_frameOf_fun OK hl hf λh1 hs1=>(δ<|wpAny_entryPlaceOf λpl BV=>(δ<|fz ?_<|BV.sizeOk5 _ _ _ _ _))
 have he1:=(hs1.2.1 e hne).trans he
 have keep:∀ b o,b≠e->h1.get? b=some o->((h1.push { cls:=.type "traceback",dict:=none,data:=.fields ([hd,.ref L,.none,lu L,.none]++(if pl.isEmpty then bc 6 jp else pl)).toArray }).update e (xt (·.setIfInBounds 1 (fk h1.objs.size)))).get? b=some o:=λb o hb e1=>by
  rw[c_ _ _ (eh hb)];exact ο _ e1
 refine ub (ο _ he1) hdt hsz ?_;refine h _ _ _ _ (λb o e1 hb hnf=>keep b o hb<|(hs1.2.1 b hnf).trans e1) (λb o e1 hb=>?_) (df _ (ο _ he1) (uh<|js hdt _)) (by rw[hs1.1];exact υ _)
  ((c_ _ _<|eh<|iz<|au he1).trans (aw _ rfl)) rfl ?_
 obtain⟨sl,e2⟩:=hs1.2.2 b o e1;exact{sl,keep b _ hb e2}
 first|(done)|(rcases BV with rfl|⟨_,_,_,_,_,_,_,rfl⟩<;>simp)
structure V0(fr:tW)(bad:zV)(H:Hp)(e:Addr)(cls:Value)(h h':Heap):Prop where
 ch:∃ ch:tW,(∀ b∈ch,¬ bad b/\H b=none/\∃ o vs,h.get? b=some o/\o.data=.fields vs)/\(∀ b o,h.get? b=some o->b∉ch->b∉fr->h'.get? b=some o) /\
  (∀ b o,h.get? b=some o->b∉ch->∃ sl,h'.get? b=some { o with slots:=sl })
 fly:Fly bad H h' e cls
def lQ
  (OK:A.frames=some (env::outer)) (hl:s.heap.FunFrames base (env::outer)) (hf:env.frame=some L) (F:Fly bad H s.heap e cls) (hb:∀ a,s.heap.objs.size<=a->¬ bad a) (hH:∀ a,s.heap.objs.size<=a->H a=none)
  (h:∀ h',V0 (D0 (env::outer)) bad H e cls s.heap h'->Q () { s with heap:=h' }) :
  wpAny M A (Mu (.ref e) env) (λy s2=>wpAny M A2 (Hn (.ref e) none) Q E2 s2) E s:=by
 obtain⟨nb,fr,oe,vs,he,OJ,OH,hd,htb⟩:=F
 have CH:∀ (s1:ξ) (ch:List _) (h':Heap) (T:Addr) (oT:Obj) (ts:Array _) (oe1:Obj),(∀ b o,s.heap.get? b=some o->s1.heap.get? b=some o\/b∈ch)->s1.heap.objs.size=s.heap.objs.size->e∈ch->(∀ b∈ch,¬ bad b/\H b=none/\∃ o vs,s.heap.get? b=some o/\o.data=.fields vs) ->
   oe1.cls=cls->oe1.dict=none->oe1.data=.fields vs->1<vs.size ->
   (∀ b o,s1.heap.get? b=some o->b≠e->b∉D0 (env::outer)->h'.get? b=some o)->(∀ b o,s1.heap.get? b=some o->b≠e->∃ sl,h'.get? b=some { o with slots:=sl }) ->
   h'.get? e=some (oe1.mapFields (·.setIfInBounds 1 (.ref T)))->s1.heap.objs.size<=T->h'.get? T=some oT->oT.data=.fields ts->ts[3]? =some (lu L)->wpAny M A2 (Hn (.ref e) none) Q E2 { s with heap:=h' }:=by
  intro s1 ch h' T oT ts oe1 hk1 hsz hech DJ hcls1 hdict1 hd1 hv k1 k2 e1 hT e2 hdT h3
  have hT':=hsz ▸ hT
  have hTe:=eh<|FA (au he) hT'
  have hde:=js hd1 (·.setIfInBounds 1 (fk T))
  have hs3:=(ie.mp h3).1;refine δ (jb e1 hde (x:=.ref T) (by simp[hv]) (ub e2 hdT hs3<|h _ ?_))
  have oth:∀ b,b≠T->(h'.update T (xt (·.setIfInBounds 3 ((none:Option Addr).elim jp λf=>lu f)))).get? b=h'.get? b:=λb hb'=>c_ _ _<|eh hb'
  have ltT:∀ b o,s.heap.get? b=some o->b≠T:=λb o eb=>FA (au eb) hT';refine{{ch,DJ,λb o eb hbc hbf=>?_,λb o eb hbc=>?_},nb,fr,y2 {(oth e<|eh hTe).trans e1,(Obj.cls_mapFields _ _).trans hcls1,?_,hde,.inr (x3 T _ _ {by simp[hv],hb T hT',hH T hT',hTe,df _ e2<|uh<|js hdT _,js hdT _,by simp[hs3]})}};rw[oth b (ltT b o eb)];rcases hk1 b o eb with z|z
  exact k1 b o z (λz'=>hbc<|z' ▸ hech) hbf;exact absurd z hbc;rw[oth b (ltT b o eb)];rcases hk1 b o eb with z|z
  exact k2 b o z<|λz'=>hbc<|z' ▸ hech;exact absurd z hbc;obtain⟨c1,c2,c3,c4⟩:=oe1;subst hd1;exact hdict1
 unfold Mu;simp only[hf];rcases htb with h1|⟨T0,oT0,ts0,h1,nbT,frT,neT,eT,dT,h3⟩
 have hv:=(ie.mp h1).1;refine δ<|jb he hd h1 ?_;exact lP OK hl hf he hd hv λh' T oT ts k1 k2 e1 hT e2 hdT h3=>(CH s [e] h' T oT ts oe (λb o eb=>.inl eb) rfl (by simp) (λb hb'=>by rw[ae]at hb';subst hb';exact{nb,fr,x2 oe vs ⟨he,hd⟩}) OJ OH hd hv k1 k2 e1 hT e2 hdT h3)
 have hv:=(ie.mp h1).1;refine δ<|jb he hd h1 ?_;refine δ<|jb eT dT h3 ?_;refine δ<|ub eT dT (ie.mp h3).1 ?_
 have oth:∀ b,b≠T0->(s.heap.update T0 (xt (·.setIfInBounds 3 jp))).get? b=s.heap.get? b:=λb hb'=>c_ _ _<|eh hb';refine lP OK (hl.of_keeps λb o eb hn=>{o,(oth b ((λb o eb hn z=>by rw[z,eT]at eb;obtain rfl:=μ eb;exact hn _ dT) b o eb hn)).trans eb,rfl}) hf ((oth e<|eh neT).trans he) hd hv λh' T oT ts k1 k2 e1 hT e2 hdT h3'=>?_;exact CH _ [e,T0] h' T oT ts oe
  (λb o eb=>by
   by_cases z:b=T0;exact .inr (by simp[z]);exact .inl<|(oth b z).trans eb)
  (Heap.size_after_update ..) (by simp)
  (λb hb'=>by
   rcases aj.mp hb' with z|z
   subst z;exact{nb,fr,x2 oe vs ⟨he,hd⟩}
   ·rw[ae]at z;subst z;exact{nbT,frT,x2 oT0 ts0 ⟨eT,dT⟩})
  OJ OH hd hv k1 k2 e1 hT e2 hdT h3'
end
def Cx.bad(X:Cx)(AA:tI):Addr->Prop:=λa=>X.s₀.heap.get? a≠none\/∃ p∈X.pn++AA,p.1=a
structure XOk(X:Cx)(E:St->XK):Prop where
 po:Mi (model X.prog X.w) X.A X.env X.xe
 ex:X.ex=[]
 calm:X.calm=true
 go:∀ (AA:tI) (σ:St) (H:Hp) (s:ξ) (e:Addr) (cls:Value),Inv X AA σ H s->Fly (X.bad AA) H s.heap e cls->E σ cls none H->X.xe (.ref e) s
section
variable{X:Cx}{AA:tI}{σ:St}{H:Hp}{s:ξ}
def Inv.notbad(I:Inv X AA σ H s)(hx:X.ex=[])(h:s.heap.get? a=none):¬ X.bad AA a:=λz=>by
 rcases z with z|⟨p,hp,rfl⟩
 cases q:X.s₀.heap.get? a with
 |none=>exact z q
 |some o =>
  obtain⟨o',e⟩:=I.base.there a o q (by rw[hx];simp);rw[h]at e;cases e
 have:=(I.pin p hp).1;rw[h]at this;cases this
def lR{h:Heap}(z:h.objs.size<=a):h.get? a=none:=by
 cases q:h.get? a with
 |none=>rfl
 |some o=>exact absurd (ψ (au q) z) (jk _)
def Inv.noted{e:Addr}{cls:Value}{h':Heap}(I:Inv X AA σ H s)(N:V0 (D0 X.stack) (X.bad AA) H e cls s.heap h'):Inv X AA σ H { s with heap:=h' }:=by
 obtain⟨⟨ch,DJ,k1,k2⟩,y⟩:=N;obtain⟨mL,⟨oL,esL,epL,hoL,dL,rL⟩,y⟩:=id I.loc
 have chne:∀ b∈ch,∀ o,s.heap.get? b=some o->∃ vs,o.data=.fields vs:=λb hb o eb=>by
  obtain⟨y,y,o',vs,e',d⟩:=DJ b hb;rw[eb]at e';obtain rfl:=μ e';exact⟨vs,d⟩
 have hL:X.env.locals∉ch:=λz=>by
  obtain⟨vs,d⟩:=chne _ z _ hoL;rw[dL]at d;cases d
 refine I.stepN     (λb hb=>{.inr ?_,λz=>hL<|z ▸ hb,λx c ec z=>?_,λp hp z=>(DJ b hb).1 (.inr ⟨p,hp,z⟩)})
  (λb o hbL hbf hbc eb y=>k1 b o eb hbc λz=>(aj.mp<|I.stkSub b z).elim hbL hbf) (λb o y y hbc eb y=>k2 b o eb hbc) (λy y y y n=>n) (λb o hbc eb=>?_) (λy y q=>q) (λy y y q=>q) (λb ps q=>{#[],by rw[q];simp}) (λm hm=>?_) (λb o eb=>?_) I.bare
 cases q:X.s₀.heap.get? b with
 |none=>rfl
 |some o=>exact absurd (.inl (by rw[q];simp)) (DJ b hb).1
 obtain⟨v,oc,hoc,hd⟩:=I.cell x c ec;obtain⟨vs,d⟩:=chne c (z ▸ hb) oc hoc;rw[hd]at d;cases d;obtain⟨sl,q⟩:=k2 b o eb hbc;exact⟨_,q⟩;revert hm;apply u3;rintro o' es' ep' ⟨ho',r'⟩;rw[hoL]at ho';obtain rfl:=μ ho';obtain⟨sl,q⟩:=k2 _ _ hoL hL;exact x3 _ _ _ ⟨q,r'⟩;refine(I.hok b o eb).stay (λc u hc q=>k1 c u q ?_ ?_) (λy q=>q) λy y q=>q;intro z
 have fr:=(DJ c z).2.1;rcases hc with rfl|hc
 rw[eb]at fr;cases fr;rw[hc]at fr;cases fr;intro z
 have fr:=I.stkFree c z;rcases hc with rfl|hc
 rw[eb]at fr;cases fr;rw[hc]at fr;cases fr
def D6(P:bw)(w:World):HN:=λouter H s E e s'=>∃ (ea:Addr) (cls:Value) (H':Hp),e=.ref ea/\s'.os=s.os/\tm s'.gens/\Un (D0 outer) [] H H' s.heap s'.heap/\HOk P w H' s'.heap/\Fly (λa=>s.heap.get? a≠none) H' s'.heap ea cls/\E cls none H'
def lS(h:D6 P w outer H s (λ_ _ _=>False) e s'):False:=by
 revert h;apply u3;rintro z z z ⟨z,z,z,z,z,z,f⟩;exact f
def XOk.passes(x:XOk X E):G8 (D6 X.prog X.w) X E:=λAA σ H s e s' I h=>by
 revert h;apply u3;rintro ea cls H' ⟨rfl,os,bare,un,hok,F,q⟩;refine x.go _ σ H' s' ea _ (I.call'  os un hok bare λb z=>absurd z (by simp)) (F.mono λa z=>?_) q;rcases z with z|⟨p,hp,rfl⟩
 cases q0:X.s₀.heap.get? a with
 |none=>exact absurd q0 z
 |some o =>
  obtain⟨o',e⟩:=I.base.there a o q0 (by rw[x.ex];simp);rw[e];simp
 rw[(I.pin p hp).1];simp
def lT:G8 (D6 P w) X (λ_=>E0):=λz z z z z z z h=>(lS h).elim
end
def Uz{P:bw}{w:World}{K:ι}{mg:UN}{base:Heap}{N:tY}{qual:Str}{scope:Scope}{f:Addr}{cd:Value}{A:dk}{outer:zY}{s:ξ}{H:Hp}{E:XK} :
  XOk (IP (D6 P w) P w K mg base N qual scope f cd A outer s H E) (λ_=>E) where
 po:=PassesOwn.leaving
 ex:=rfl
 calm:=rfl
 go:=λAA σ H' s' e cls I F q=>by
  refine δ<|lQ I.ok.frames I.stack rfl F (λa z=>I.notbad rfl<|lR z) (λa z=>I.hok.fresh z) λh' N=>?_
  have I':=I.noted N;exact x3 e _ H' {rfl,I'.os,I'.bare,I'.base,I'.hok,N.fly.mono λa z=>.inl z,q}
structure Exc(K:ι)(C:Addr):Prop where
 ex:W.excIn K C [.type "ValueError",.type "Exception",.type "BaseException",.type "object"] "ValueError.__new__"=true
set_option tactic.hygienic true in
def Exc.obj{K:ι}{h:Heap}(x:Exc K C)(X:K.In h):∃ (tl:sV) (N:Addr) (nm q:Str) (bs:sV) (hdct:Bool) (sn:tY) (sub:sV) (ab:Bool) (col:Option Bool) (dd:Option Addr) (k0 k1 k2 k3 k5:Option Value) (mN:UN),
  h.get? C=some (excClassObj nm q C N bs tl hdct sn sub ab col dd k0 k1 k2 k3 k5 "ValueError.__new__")/\h.Ns N mN/\mN "__init__"=none/\OwnTail h [.type "ValueError",.type "Exception",.type "BaseException",.type "object"] tl:=by
 have q:=x.ex;unfold W.excIn at q;split at q
 ·rename_i dd cd sl ho;split at q
  ·rename_i C' bm k0 k1 k2 k3 n k5 hm hs;simp only[cb,beq_iff_eq,xj]at q;obtain⟨⟨⟨⟨⟨rfl,rfl⟩,hdel⟩,ht⟩,hok⟩,hni⟩:=q;obtain⟨nm,bs,mro,ns,qn,hd,sn,sub,ab,col,del⟩:=cd;subst hm hdel;obtain⟨l⟩:=sl;subst hs;exact Jl bm ns nm qn bs hd sn sub ab col dd k0 k1 k2 {k3,k5,_,X _ _ ho,.of_isNs<|W.isNs_of_in X hok,W.nsMap_none_of_in X hok hni,W.tail_of_in X ht}
  ·cases q
 ·cases q
def GE(C:Addr)(E:St->XK)(t:TA):TS:=λ_ σ H=>t σ H λvs H1=>vs.length<=sizeLine/\E σ (.ref C) none H1
section
variable{X:Cx}{E:St->XK}{C:Addr}{x:Str}{np DP pos:Pos}{e:Expr}{es:wW}{t:TA}
def MA(hx:XOk X E)(c:Exc X.K C)(hg:Gl X x)(hm:X.mg x=some (.ref C))(ha:PA X (e::es) t)(hdb:(x ==("__debug__":Str))=false:=by decide)
  (he:ay (e::es) X.env=(false,eval e X.env)::ay es X.env:=by rfl) (BV:(ja DP<|ay es X.env).any (·.1)=false:=by rfl) :
  PS X (.Raise (some<|.Call (.Name x np) (e::es) [] DP) none pos) (GE C E t):=by
 refine λAA s σ H D I h=>Jm ?_<|c.obj I.mod.kin;rintro tl N nm q bs hdct sn sub ab col dd k0 k1 k2 ⟨k3,k5,mN,hC,hN,hni,T⟩
 have hpl2:(ja DP<|ay (e::es) X.env).any (·.1)=false:=by
  rw[he]
  show(false||(ja _ _).any _)=false;rw[BV];rfl
 have hq:=ha DP _ s σ H _ I h;refine wpAny_Raise_call_subT  (nm:=nm) (q:=q) (N:=N) (bs:=bs)  (hdct:=hdct) (sn:=sn) (sub:=sub) (ab:=ab) (col:=col) (dd:=dd) (k0:=k0) (k1:=k1) (k2:=k2) (k3:=k3) (k5:=k5)
  PySem.F.excBase_ValueError  (T.hasType PySem.F.excBase_ValueError.hasBase) (I.ok.hd hx.calm) hpl2 hni (OQ I hg hm {rfl,?_} hdb)
 rw[he]at hq ⊢;refine nq<|AS hq λus s1 ⟨vs,H1,I1,r,hz,q1⟩=>{rfl,?_,I1.bk _ _ hC,hN.keeps I1.bk,T.keeps I1.bk,λh' ea hM=>?_};rw[<-r.length];exact hz
 have I2:Inv X _ σ H1 { s1 with heap:=h' }:=I1.kept  hM.keeps;obtain⟨tt,h1,h2,h3⟩:=hM.there;refine hx.go _ σ H1 _ ea _ I2 {λz=>I1.notbad hx.ex hM.new z,I1.hok.nh hM.new,y2 {h1,rfl,rfl,rfl,.inl rfl}} q1
end
section
variable(P:bw)(w:World)(K:ι)(mg:UN)(base:Heap)
structure R9(k:Nat)(x:Str)(ps:tY)(sp:Sp):Prop where
 ex:∃ (f:Addr) (fd:gq),FnOk P w K mg base (D6 P w) k f fd ps sp/\mg x=some (.ref f)/\pi K (.ref f)=true/\Binds K fd ps []
structure NE(C:Addr)(k:Nat)(m:Str)(ps:tY)(sp:Sp):Prop where
 ex:∃ (f:Addr) (fd:gq),FnOk P w K mg base (D6 P w) k f fd ps sp/\RY K C m f/\Binds K fd ps []
structure WA(C:Addr)(k:Nat)(x:Str)(ps:tY)(sp:Sp):Prop where
 ex:∃ (f:Addr) (fd:gq),FnOk P w K mg base (D6 P w) k f fd ps sp/\Mk K C f/\mg x=some (.ref C)/\Binds K fd ps []
end
section
variable{X:Cx}{E:St->XK}{k:Nat}{x m:Str}{ps:tY}{sp:Sp}{C:Addr}{p pos C1:Pos}{e o:Expr}{es:wW}{ta:TE}{t:TA}
def WB(c:R9 X.prog X.w X.K X.mg X.base k x ps sp)(hr:Room k X.A)(hp:G8 (D6 X.prog X.w) X E)(hg:Gl X x)(ha:PA X (e::es) t)(hdb:(x ==("__debug__":Str))=false:=by decide)
  (he:ay (e::es) X.env=(false,eval e X.env)::ay es X.env:=by rfl) (BV:(ja pos<|ay es X.env).any (·.1)=false:=by rfl):PE X (.Call (.Name x p) (e::es) [] pos) (L5 sp [] E t):=by
 refine u2 ?_ c.ex;rintro f fd ⟨F,hm,hk,hb⟩;exact Qv F hr hg hm hk hb .nil hp ha hdb he BV
def WC(he:PE X o ta)(cl:Cls X.K C)(c:NE X.prog X.w X.K X.mg X.base C k m ps sp)(hr:Room k X.A)(hp:G8 (D6 X.prog X.w) X E)(ha:PA X (e::es) t)
  (hst:ay (e::es) X.env=(false,eval e X.env)::ay es X.env:=by rfl) (BV:(ja pos<|ay es X.env).any (·.1)=false:=by rfl)
  (ht:eval (.Call (.Attribute o m C1) (e::es) [] pos) X.env=(do
   let ov ← eval o X.env
   yg C1.atName
   let (f,first) ← tq [ov] (ul ov m pl)
   zn pos f first (ja pos<|ay (e::es) X.env) (u_ pos<|k_ [] X.env)):=by rfl):PE X (.Call (.Attribute o m C1) (e::es) [] pos) (IN C m sp [] E ta t):=by
 refine u2 ?_ c.ex;rintro f fd ⟨F,hm,hb⟩;exact Qw he cl hm F hr hb .nil hp ha hst BV ht
def Vb(he:PE X o ta)(cl:Cls X.K C)(c:NE X.prog X.w X.K X.mg X.base C k m ps sp)(hr:Room k X.A)(hp:G8 (D6 X.prog X.w) X E)
  (ht:eval (.Call (.Attribute o m C1) [] [] pos) X.env=(do
   let ov ← eval o X.env
   yg C1.atName
   let (f,first) ← tq [ov] (ul ov m pl)
   zn pos f first (ja pos<|ay [] X.env) (u_ pos<|k_ [] X.env)):=by rfl):PE X (.Call (.Attribute o m C1) [] [] pos) (IN C m sp [] E ta BE):=by
 refine u2 ?_ c.ex;rintro f fd ⟨F,hm,hb⟩;exact Qx he cl hm F hr hb .nil hp ht
def Vc(c:WA X.prog X.w X.K X.mg X.base C k x ps sp)(hr:Room (k+1) X.A)(hp:G8 (D6 X.prog X.w) X E)(hg:Gl X x)(ha:PA X (e::es) t)(hdb:(x ==("__debug__":Str))=false:=by decide)
  (he:ay (e::es) X.env=(false,eval e X.env)::ay es X.env:=by rfl) (BV:(ja pos<|ay es X.env).any (·.1)=false:=by rfl):PE X (.Call (.Name x p) (e::es) [] pos) (NA C sp [] E t):=by
 refine u2 ?_ c.ex;rintro f fd ⟨F,M,hm,hb⟩;exact Qz M F hr hg hm hb .nil hp ha hdb he BV
end
def Fun.okE{P:bw}{w:World}{K:ι}{mg:UN}{base:Heap}{x qual:Str}{st:Stmt}{f:Addr}{fd:gq}{N ps:tY}{k:Nat}{sp:Sp}(F:Fun K x qual st f fd)(S:FnScope N ps (AT st))(len:∀ vs H Q E,sp vs H Q E->vs.length=ps.length)
  (jT:∀ (CF:Value) (A:dk) (outer:zY) (s:ξ) (H:Hp) (vs:Oq) (Q:VK) (E:XK),Room k (A.deeper<|xp qual (AT st) s.heap.objs.size f CF)->sp vs H Q E ->
   ∃ t,E9 (IP (D6 P w) P w K mg base N qual (AT st) f CF A outer s H E) (HA st) t/\t { nx:=λz H'=>Q .non H',rt:=Q } (AW N vs) H):FnOk P w K mg base (D6 P w) (k+1) f fd ps sp:=by
 refine u9 ?_ F.ex;rintro oc od kV doc pm an CF ct osl ⟨rfl,l,c⟩;exact Rc l c S len λA outer s H vs Q E hr h=>jT _ A _ s H vs Q E hr h
def GV(mg:UN)(x:Str)(v:V):Prop:=∃ u,mg x=some u/\RelV v u
def HV(g:GV X.mg x v)(hg:Gl X x)(hd:(x ==("__debug__":Str))=false:=by decide):PE X (.Name x pos) (tC v):=by
 obtain⟨u,hm,r⟩:=g;exact Kw hg hm r hd
theorem lU{α :Type}(p: α ->Bool):∀ (l:List α) (i:Nat),(∀ x,l[i]? =some x->p x=false)->(l.eraseIdx i).find? p=l.find? p
 | [],_,_=>rfl
 |x::r,0,h=>by
  have  :=h x rfl;simp[List.eraseIdx,List.find?,this]
 |x::r,i+1,h=>by
  rw[List.eraseIdx_cons_succ];simp only[y_];rw[lU p r i λy hy=>h y (by simpa using hy)]
def Vd{v:Value}(h:v.isStr x=true)(hxy:y≠x):v.isStr y=false:=by
 cases v with
 |str z t =>
  have e:z=x:=by simpa [N_]using h
  subst e;exact beq_eq_false_iff_ne.mpr<|eh hxy
 |_=>simp[N_]at h
def Vg(hn:s.heap.Ns a m)
  (hQ:∀ h' m',h'.Ns a m'->(∀ y,y≠name->m' y=m y)->gj a s.heap h'->Q (m name).isSome { s with heap:=h' }):wpAny M A (nsDel a name) Q E s:=by
 refine u3 ?_<|id hn;rintro o es ep ⟨ho,hd,hk,hm⟩
 have hno:es.any (·.refKey)=false:=by
  rw[Array.any_eq_false'];intro e' he';refine u2 ?_<|hk e' he';rintro n' t' h';simp[Gn,h']
 have hiff:(m name).isSome=es.any (·.key.isStr name):=by
  rw[<-hm name];simp only[nsFind,findBy,ua];obtain⟨l⟩:=es;rw[jf];simp[List.find?_isSome]
 have hhas:nsHas name o=pure (es.any (·.key.isStr name)):=by
  rw[nsHas_eq];unfold nsHasByArray;rw[hd]
  show(if(es.any λx=>x.key.isStr name)=true then _ else _)=_;generalize (es.any λx=>x.key.isStr name)=b';cases b'<;>simp[hno]
 refine δ<|zk ho ?_;rw[hhas];refine δ<|π ?_;rw[<-hiff];cases hmn:(m name).isSome
 ·have z:=hQ s.heap m hn (λ_ _=>rfl) (.refl ..);rw[hmn]at z;exact π z
 ·refine δ (wpAny_updatePart ho<|π ?_)
  have key:∃ m',(s.heap.update a<|Obj.dropName name).Ns a m'/\∀ y,y≠name->m' y=m y:=by
   obtain⟨cl,d,dt,sl⟩:=o;obtain rfl:dt=.dict es ep:=hd;cases hi:es.findIdx? (·.key.isStr name)with
   |some i =>
    refine{_,x3 _ _ (ep+1) {df _ ho (by simp only[vj,pe,hi]<;>rfl),(by simp only[vj,pe,hi]<;>rfl),hk.erase i,λ_=>rfl},λy hy=>?_};rw[<-hm y];unfold nsFind findBy;obtain⟨l⟩:=es
    congr 1
    obtain⟨A0,hp,_⟩:=tf.mp (by simpa using hi);rw[<-wf,<-wf]
    have:(Array.eraseIdxIfInBounds ⟨l⟩ i).toList=l.eraseIdx i:=by
     rw[Array.eraseIdxIfInBounds_eq];split
     ·simp
     ·rename_i hz;exact absurd A0 (by simpa using hz)
    rw[this];refine lU _ l i λx hx=>?_;rw[η A0]at hx;cases hx;exact Vd hp hy
   |none=>exact{m,x3 _ _ ep {df _ ho (by simp only[vj,pe,hi]<;>rfl),(by simp only[vj,pe,hi]<;>rfl),hk,hm},λ_ _=>rfl}
  obtain⟨m',hm',hy⟩:=key
  have z:=hQ _ m' hm' hy<|e_ ..;rw[hmn]at z;exact z
def SB(I:Inv X AA σ H s)(hN:X.N.Nodup)(hi:X.N[i]? =some n)(hl:X.env.scope.names.lookup n=some .local)
  (h:∀ s',Inv X AA (σ.set i none) H s'->Q () s'):wpAny (model X.prog X.w) A (do bindName X.env n .none;unbindBehindTheSuite X.env n pos) Q E s:=by
 have hp:(X.env.scope.kind == .class||(X.env.scope.kind == .module&&X.env.locals != X.env.globals))=false:=by rw[I.ok.kind];rfl
 have hk:X.env.kindOf n=some .local:=hl
 have hiσ:i<σ.length:=by rw[I.len];exact(ε.mp hi).1
 refine δ<|wpAny_bindName<|RO I hN hi (.inl hl) (show RelV .non jp from rfl) (λs1 I1=>?_) (.inr hl);refine wpAny_onRaise ?_;refine δ<|Iv<|δ ?_;unfold deleteName;simp only[hk,hp];obtain⟨m,hn,hloc⟩:=id I1.loc
 have hmn:∃ u,m n=some u:=by
  obtain⟨u,t,l⟩:=hloc i n .non hi (by rw[dv hiσ]) (.inl hl);rcases l with⟨_,e⟩|⟨z,_⟩
  ·exact⟨u,e⟩
  ·rw[hk]at z;rcases z with z|z<;>cases z
 refine δ<|Vg hn λh' m' hn' hy hs=>?_;obtain⟨u,hu⟩:=hmn;rw[hu];refine π<|Iv<|h _ ?_
 have nL:∀ b o,X.s₀.heap.get? b=some o->b≠X.env.locals:=λb o e=>FA (au e) I1.ok.above;refine{I1.ok,I1.os,I1.bare,{λb o e n' hb hx=>(hs.2 b<|nL b o e).trans (I1.base.keep b o e n' hb hx),λb o e n' hb hx=>?_,I1.base.free,λb o e hx=>?_,I1.base.tups,I1.base.frzs,I1.base.tbls},{m',hn',λj y v e1 e2 e3=>?_},λx c e=>?_,I1.free,I1.freeC,λp hp'=>?_,λb o e=>?_,?_}
 ·obtain⟨sl,q⟩:=I1.base.slot b o e n' hb hx;exact{sl,(hs.2 b<|nL b o e).trans q}
 ·obtain⟨o',q⟩:=I1.base.there b o e hx;exact{o',(hs.2 b<|nL b o e).trans q}
 ·have hj:j≠i:=λz=>by
   subst z;rw[dv hiσ]at e2;cases e2
  rw[fh (eh hj)]at e2;obtain⟨u',r',l⟩:=hloc j y v e1 (by rw[fh (eh hj)];exact e2) e3;refine{u',r',?_};rcases l with⟨z,e⟩|⟨z,c,e,q⟩
  ·exact .inl {z,by rw[hy y λz=>hj<|VB hN e1<|z ▸ hi];exact e}
  ·exact .inr {z,c,e,q.sameBut hs<|I1.cne y c e}
 ·obtain⟨v,q⟩:=I1.cell x c e;exact{v,q.sameBut hs<|I1.cne x c e}
 ·obtain⟨q1,q2,q3,q4⟩:=I1.pin p hp';exact{(hs.2 _ q3).trans q1,q2,q3,q4}
 ·refine(I1.hok b o e).stay (λc u' hc q=>(hs.2 c ?_).trans q) (λt q=>q) λt t q=>q;intro z
  have fr:=I1.free;rw[<-z]at fr;rcases hc with rfl|hc
  ·rw[e]at fr;cases fr
  ·rw[hc]at fr;cases fr
 ·rw[jd];exact I.len
abbrev Cx.tri(X:Cx)(pn:tI)(xe:tQ):Cx:={ X with pn:=pn,xe:=xe }
abbrev Cx.hand(X:Cx)(e:Addr):Cx:={ X with A:=X.A.mark<|some<|.ref e,calm:=false,xe:=λ_ _=>False }
section
variable{X:Cx}{AA:tI}{σ:St}{H:Hp}{s:ξ}
def Cx.Ok.tri{pn:tI}{xe:tQ}(ok:X.Ok):(X.tri pn xe).Ok :=
 ⟨ok.mod,ok.kind,ok.glob,ok.blt,ok.above,ok.inj,ok.has,ok.cab,ok.hd,ok.frames,ok.stk,ok.exf,ok.bs,ok.bsz,ok.noex,ok.exfs,ok.funs,ok.frf⟩
def Inv.tri(I:Inv X AA σ H s):Inv (X.tri (X.pn++AA) xe) [] σ H s :=
 {I.ok.tri,I.os,I.bare,I.base,I.loc,I.cell,I.free,I.freeC,λp hp=>I.pin p (by simpa using hp),I.hok,I.len}
def Cx.Ok.untri{pn:tI}{xe:tQ}(ok:(X.tri pn xe).Ok):X.Ok :=
 ⟨ok.mod,ok.kind,ok.glob,ok.blt,ok.above,ok.inj,ok.has,ok.cab,ok.hd,ok.frames,ok.stk,ok.exf,ok.bs,ok.bsz,ok.noex,ok.exfs,ok.funs,ok.frf⟩
def Inv.untri(I:Inv (X.tri (X.pn++AA) xe) pl σ H s):Inv X AA σ H s :=
 {I.ok.untri,I.os,I.bare,I.base,I.loc,I.cell,I.free,I.freeC,λp hp=>I.pin p<|i_ _ hp,I.hok,I.len}
def Cx.Ok.hand(ok:X.Ok):(X.hand e).Ok :=
 {ok.mod,ok.kind,ok.glob,ok.blt,ok.above,ok.inj,ok.has,ok.cab,(λz=>nomatch z),ok.frames,ok.stk,ok.exf,ok.bs,ok.bsz,ok.noex,ok.exfs,ok.funs,ok.frf}
def Inv.hand(I:Inv X AA σ H s):Inv (X.hand e) AA σ H s:=⟨I.ok.hand,I.os,I.bare,I.base,I.loc,I.cell,I.free,I.freeC,I.pin,I.hok,I.len⟩
def Inv.unhand(ok:X.Ok)(I:Inv (X.hand e) AA σ H s):Inv X AA σ H s:=⟨ok,I.os,I.bare,I.base,I.loc,I.cell,I.free,I.freeC,I.pin,I.hok,I.len⟩
end
def IT(e:Addr)(cls:Value):Heap->Prop:=λh=>∃ oe vs,h.get? e=some oe/\oe.cls=cls/\oe.dict=none/\oe.data=.fields vs
abbrev TH:=Value->Ends->St->Hp->Prop
def SC:TH:=λ_ _ _ _=>False
def WD(p:Value->Option Bool)(ts:TS)(CH:TH):TH:=λcls D σ H=>(p cls=some true/\ts D σ H)\/(p cls=some false/\CH cls D σ H)
def Ends.drop(D:Ends)(i:Nat):Ends:={ nx:=λσ H=>D.nx (σ.set i none) H,rt:=D.rt,bk:=λσ H=>D.bk (σ.set i none) H,ct:=λσ H=>D.ct (σ.set i none) H }
def lV(p:Value->Option Bool)(i:Nat)(ts:TS)(CH:TH):TH:=λcls D σ H =>
 (p cls=some true/\∀ e,H e=none->ts (D.drop i) (σ.set i<|some<|.ref e) (upd H e<|.ext<|IT e cls))\/(p cls=some false/\CH cls D σ H)
def PH(X:Cx)(hs:List uz)(th:TH):Prop :=
 ∀ (AA:tI) (s:ξ) (σ:St) (H:Hp) (D:Ends) (e:Addr) (cls:Value),X.ex=[]->Inv X AA σ H s->Fly (X.bad AA) H s.heap e cls->th cls D σ H ->
  wpAny (model X.prog X.w) X.A (handleBy (.ref e) X.env hs) (SP X AA D) X.xe s
def PX(X:Cx)(t:Expr)(p:Value->Option Bool):Prop :=
 ∀ (AA:tI) (s:ξ) (σ:St) (H:Hp) (e:Addr) (cls:Value) (b:Bool) (Q:Bool->ξ->Prop) (E:tQ),Inv X AA σ H s->Fly (X.bad AA) H s.heap e cls->p cls=some b ->
  (∀ s',Inv X AA σ H s'->Fly (X.bad AA) H s'.heap e cls->Q b s')->wpAny (model X.prog X.w) (X.A.mark<|some<|.ref e) (eval t X.env) (λc s1=>wpAny (model X.prog X.w) (X.A.mark<|some<|.ref e) (excMatches (.ref e) c) Q E s1) E s
def SD(tb:(St->XK)->TS)(th:TH):TS:=λD σ H=>tb (λσ' cls _ H'=>th cls D σ' H') D σ H
section
variable{X:Cx}{hs:List uz}{h₀:uz}{th:TH}{body:List Stmt}{tb:(St->XK)->TS}{pos:Pos}
def Vh:PH X [] SC:=λz z z z z z z z z z h=>h.elim
def Vj(F:Fly bad H h e cls):W.Looks M h (typeOf<|.ref e) cls:=by
 obtain⟨z,z,oe,vs,h1,rfl,z⟩:=F;exact(W.Looks.ld h1).andThen .now
def Vk(hg:Gl X x)(hm:X.mg x=some C)(hd:(x ==("__debug__":Str))=false:=by decide):PX X (.Name x np) (λcls=>va X.K cls C):=λAA s σ H e cls b Q E I F hp h=>OQ  I.hand hg hm (W.exm_one I.kIn (Vj F) hp _ _ _ s (λy y z=>z) (h s I F)) hd
def lW(F:Fly bad H s.heap e cls)
  (h:∀ h',V0 fr bad H e cls s.heap h'->Q () { s with heap:=h' }):wpAny M A (Hn (.ref e) none) Q E s:=by
 have F0:=F;obtain⟨nb,frr,oe,vs,he,OJ,OH,hd,htb⟩:=F;rcases htb with h1|⟨T,oT,ts,h1,nbT,frT,neT,eT,dT,h3⟩
 exact δ (jb he hd h1 (π (h _ {{[],(λb hb=>nomatch hb),λb o eb _ _=>eb,λb o eb _=>⟨_,eb⟩},F0})));refine δ<|jb he hd h1 ?_
 have hs3:=(ie.mp h3).1
 have oth:∀ b,b≠T->(s.heap.update T (xt (·.setIfInBounds 3 (none.elim jp λf=>lu f)))).get? b=s.heap.get? b:=λb hb'=>c_ _ _<|eh hb';refine ub eT dT hs3 (h _ ({{[T],λb hb=>?_,λb o eb hb _=>(oth b λz=>hb (by simp[z])).trans eb,λb o eb hb=>{_,(oth b λz=>hb (by simp[z])).trans eb}},nb,frr,x2 oe vs {(oth e<|eh neT).trans he,OJ,OH,hd,.inr (x3 T _ _ {h1,nbT,frT,neT,df _ eT<|uh<|js dT _,js dT _,by simp[hs3]})}}));rw[ae]at hb;subst hb;exact{nbT,frT,x2 oT ts ⟨eT,dT⟩}
theorem SP.unhand(ok:X.Ok)(h:SP (X.hand e) AA D f s):SP X AA D f s:=by
 cases f with
 |next=>revert h;apply u2;rintro σ1 H1 ⟨I1,q⟩;exact x2 _ H1 {I1.unhand ok,q}
 |brk=>revert h;apply u2;rintro σ1 H1 ⟨I1,q⟩;exact x2 _ H1 {I1.unhand ok,q}
 |cont=>revert h;apply u2;rintro σ1 H1 ⟨I1,q⟩;exact x2 _ H1 {I1.unhand ok,q}
 |ret u=>revert h;apply u3;rintro v σ1 H1 ⟨I1,r,q⟩;exact x3 v _ H1 {I1.unhand ok,r,q}
def Vl{t:Expr}{b₀:Stmt}{suite:List Stmt}{hp:Pos}{p:Value->Option Bool}{ts:TS}{CH:List uz}{tr:TH}(ht:PX X t p)(hsu:∀ e,E9 (X.hand e) (b₀::suite) ts)(hr:PH X CH tr) :
  PH X (.ExceptHandler (some t) none (b₀::suite) hp::CH) (WD p ts tr):=by
 intro AA s σ H D e cls hx I F h
 have hmain:∃ b,p cls=some b/\(b=true->ts D σ H)/\(b=false->tr cls D σ H):=by
  rcases h with⟨h1,h2⟩|⟨h1,h2⟩
  exact{_,h1,λ_=>h2,λz=>nomatch z};exact{_,h1,(λz=>nomatch z),λ_=>h2}
 obtain⟨b,hp',hT,hF⟩:=hmain;refine Ba (zf<|ht _ s σ H e _ b _ _ I F hp' λs' I' F'=>?_) (by intro z;cases z);cases b with
 |false=>exact hr _ s' σ H D e _ hx I' F'<|hF rfl
 |true =>
  refine codeAny_handlers_suite<|lW (fr:=D0 X.stack) F' λh' N=>?_
  have I2:Inv (X.hand e) _ σ H _:=(I'.noted N).hand;refine lj (hsu e _ _ σ H D I2<|hT rfl) (λf s2 h2=>h2.unhand I.ok) λ_ _ z=>z.elim
def Vm{t:Expr}{n:Str}{i:Nat}{b₀:Stmt}{suite:List Stmt}{hp:Pos}{p:Value->Option Bool}{ts:TS}{CH:List uz}{tr:TH}(hN:X.N.Nodup)(hi:X.N[i]? =some n)(hl:X.env.scope.names.lookup n=some .local)(ht:PX X t p)
  (hsu:∀ e,E9 (X.hand e) (b₀::suite) ts) (hr:PH X CH tr):PH X (.ExceptHandler (some t) (some n) (b₀::suite) hp::CH) (lV p i ts tr):=by
 intro AA s σ H D e cls hx I F h
 have hmain:∃ b,p cls=some b/\(b=true->∀ e,H e=none->ts (D.drop i) (σ.set i<|some<|.ref e) (upd H e<|.ext<|IT e cls))/\(b=false->tr cls D σ H):=by
  rcases h with⟨h1,h2⟩|⟨h1,h2⟩
  ·exact{true,h1,λ_=>h2,λz=>nomatch z}
  ·exact{false,h1,(λz=>nomatch z),λ_=>h2}
 obtain⟨b,hp',hT,hF⟩:=hmain;refine Ba (zf<|ht AA s σ H e cls b _ _ I F hp' λs' I' F'=>?_) (by intro z;cases z);cases b with
 |false=>exact hr AA s' σ H D e cls hx I' F'<|hF rfl
 | true =>
  refine codeAny_handlers_suite_as<|lW (fr:=D0 X.stack) F' λh' N=>?_
  have I2:=I'.noted N;obtain⟨nb,fr,oe,vs,he,OJ,OH,hd,_⟩:=N.fly
  have I3:Inv X AA σ (upd H e<|.ext<|IT e cls) { s' with heap:=h' }:=by
   have hs0:X.s₀.heap.get? e=none:=by
    cases q:X.s₀.heap.get? e with
    |none=>rfl
    |some o=>exact absurd (.inl (by rw[q];simp)) nb
   have ltH:∀ b o,H b=some o->b≠e:=λb o eb z=>by rw[z,fr]at eb;cases eb
   refine{I2.ok,I2.os,I2.bare,{I2.base.keep,I2.base.slot,λb o eb n' hx'=>?_,I2.base.there,λb xs eb=>?_,λb o u eb=>?_,λb ps eb=>?_},I2.loc,I2.cell,?_,λx c ec=>?_,λp hp=>?_,I2.hok.track fr ?_,I2.len}
   ·rw[AI (λz=>by rw[z,hs0]at eb;cases eb)];exact I2.base.free b o eb n' hx'
   ·rw[AI (ltH _ _<|I2.base.tups b xs eb)];exact I2.base.tups b xs eb
   ·rw[AI (ltH _ _<|I2.base.frzs b o u eb)];exact I2.base.frzs b o u eb
   ·obtain⟨m,q⟩:=I2.base.tbls b ps eb;exact{m,by rw[AI (ltH _ _ q)];exact q}
   ·obtain⟨m,⟨oL,es,ep,hoL,dL,_⟩,_⟩:=I2.loc;rw[AI (λz=>by rw[z]at hoL;rw[show h'.get? e=some oe from he]at hoL;cases hoL;rw[hd]at dL;cases dL)];exact I2.free
   ·obtain⟨v,oc,hoc,hdc⟩:=I2.cell x c ec;rw[AI (λz=>by rw[z]at hoc;rw[show h'.get? e=some oe from he]at hoc;cases hoc;rw[hd]at hdc;cases hdc)];exact I2.freeC x c ec
   ·obtain⟨q1,q2,q3⟩:=I2.pin p hp;refine{q1,?_,q3};rw[AI (λz=>nb<|.inr ⟨p,hp,z⟩)];exact q2
   ·refine{x2 oe vs ⟨he,OJ,OH,hd⟩,⟨oe,he⟩,λh1 h2 hq k=>?_};revert hq;apply u2;rintro o1 v1 ⟨z1,z2⟩;exact x2 o1 v1 {k _ z1,z2}
  refine RO I3 hN hi (.inl hl) (show RelV (.ref e) (.ref e)from rfl) (λs4 I4=>(lj (hsu e AA s4 _ _ (D.drop i) I4.hand (hT rfl e fr)) (λf s5 h5=>?_) λ_ _ z=>z.elim)) (.inr hl)
  have h6:=h5.unhand I.ok;cases f with
  |next =>
   revert h6;apply u2;rintro σ1 H1 ⟨I1,q⟩;exact SB I1 hN hi hl λs7 I7=>x2 _ H1 ⟨I7,q⟩
  |brk =>
   revert h6;apply u2;rintro σ1 H1 ⟨I1,q⟩;exact SB I1 hN hi hl λs7 I7=>x2 _ H1 ⟨I7,q⟩
  |cont =>
   revert h6;apply u2;rintro σ1 H1 ⟨I1,q⟩;exact SB I1 hN hi hl λs7 I7=>x2 _ H1 ⟨I7,q⟩
  |ret u =>
   revert h6;apply u3;rintro v σ1 H1 ⟨I1,r,q⟩;exact SB I1 hN hi hl λs7 I7=>x3 v _ H1 ⟨I7,r,q⟩
def Vp(hx:X.ex=[])(hcalm:X.calm=true)(hst:X.stack=X.env::X.outer)(OK:X.env.frame=some X.env.locals)(hb:∀ (E:St->XK) (pn:tI) (xe:tQ),XOk (X.tri pn xe) E->E9 (X.tri pn xe) body (tb E))(hh:PH X (h₀::hs) th) :
  PS X (.Try body (h₀::hs) [] [] pos) (SD tb th):=by
 refine λAA s σ H D I h=>wpAny_Try_except ?_
 let xe:Value->ξ->Prop:=λe s₁=>wpAny (model X.prog X.w) X.A (Mu e X.env) (λy s₂=>wpAny (model X.prog X.w) X.A (Hn e none) (λy s₃=>wpAny (model X.prog X.w) X.A (handleBy e X.env (h₀::hs)) (SP X AA D) X.xe s₃) X.xe s₂) X.xe s₁
 have xok:XOk (X.tri (X.pn++AA) xe) (λσ' cls y H'=>th cls D σ' H'):=by
  refine{PassesOwn.looking,hx,hcalm,λpl σ' H' s' e cls I' F' q=>?_}
  have Iu:=I'.untri;refine lQ (hst ▸ Iu.ok.frames) (hst ▸ Iu.stack) OK F' (λa z=>I'.notbad hx<|lR z) (λa z=>I'.hok.fresh z) λh' N=>?_;rw[<-hst]at N
  have I2:Inv _ pl _ H' _:=I'.noted N;exact hh _ _ _ H' D e _ hx I2.untri (N.fly.mono λa z=>by
   rcases z with z|⟨p,hp,z⟩
   exact .inl z;exact .inr {p,i_ _ hp,z}) q
 refine lj (hb _ _ xe xok [] s σ H D I.tri h) (λf s1 hs1=>?_) λy y z=>z;cases f with
 |next =>
  revert hs1;apply u2;rintro σ1 H1 ⟨I1,q⟩;exact p_<|x2 _ H1 ⟨I1.untri,q⟩
 |brk=>revert hs1;apply u2;rintro σ1 H1 ⟨I1,q⟩;exact x2 _ H1 ⟨I1.untri,q⟩
 |cont=>revert hs1;apply u2;rintro σ1 H1 ⟨I1,q⟩;exact x2 _ H1 ⟨I1.untri,q⟩
 |ret u=>revert hs1;apply u3;rintro v σ1 H1 ⟨I1,r,q⟩;exact x3 v _ H1 ⟨I1.untri,r,q⟩
end
mutual
inductive Rep(K:ι)(H:Hp):V->vk->Prop
 |non:Rep K H .non .none
 |bl (b:Bool):Rep K H (.bl b) (.bool b)
 |int (i:Int):Rep K H (.int i) (.int i)
 |str (x:Str):Rep K H (.str x) (.str x)
 |lst {a:Addr} {xs:Oq} {ds:List vk}:SqL K H a xs->RepAll K H xs ds->Rep K H (.ref a) (.list ds)
 |tup {a:Addr} {xs:Oq} {ds:List vk}:SqT K H a xs->RepAll K H xs ds->Rep K H (.ref a) (.tuple ds)
inductive RepAll(K:ι)(H:Hp):Oq->List vk->Prop
 |nil:RepAll K H [] []
 |cons {v:V} {d:vk} {vs:Oq} {ds:List vk}:Rep K H v d->RepAll K H vs ds->RepAll K H (v::vs) (d::ds)
end
section
variable{X:Cx}{AA:tI}{σ:St}{H:Hp}{s:ξ}
mutual
theorem Rep.reads(I:Inv X AA σ H s):∀ {v:V} {d:vk} {u:Value},Rep X.K H v d->RelV v u->∃ as,Reads s.heap u d as
 |_,_,_,.non,r=>by cases (show _=jp from r);exact{_,.none}
 |_,_,_,.bl b,r=>by cases (show _=J_ b from r);exact{_,.bool b}
 |_,_,_,.int i,r=>by obtain⟨t,e⟩:=(show ∃ t,_=uj i t from r);cases e;exact{_,.int i t}
 |_,_,_,.str x,r=>by obtain⟨t,e⟩:=(show ∃ t,_=Mf x t from r);cases e;exact{_,.str x t}
 |_,_,_,.lst (a:=a) h hr,r=>by
  cases (show _=fk a from r);obtain⟨AJ,rv,p,z⟩:=I.list h;obtain⟨as,q⟩:=RepAll.reads I hr rv;obtain⟨o,e1,e2,n,e3⟩:=p.isList;exact{_,.list e1 e2 e3 q}
 |_,_,_,.tup (a:=a) h hr,r=>by
  cases (show _=fk a from r);obtain⟨AJ,rv,p,z⟩:=I.tuple h;obtain⟨as,q⟩:=RepAll.reads I hr rv;obtain⟨o,e1,e2,n,e3⟩:=p;exact{_,.tuple e1 e2 e3 q}
theorem RepAll.reads(I:Inv X AA σ H s):∀ {vs:Oq} {ds:List vk} {us:sV},RepAll X.K H vs ds->Vals vs us->∃ as,ReadsAll s.heap us ds as
 |_,_,_,.nil,.nil=>{_,.nil}
 |_,_,_,.cons h hr,.cons r rr=>by
  obtain⟨as,q⟩:=Rep.reads I h r;obtain⟨bs,q2⟩:=RepAll.reads I hr rr;exact{_,.cons q q2}
end
end
abbrev shp(d:vk):Prop:=PySem.SeqAt.shaped d=true
def rD(K:ι)(x y:V)(H:Hp)(R:ZQ):Prop:=∃ d e,Rep K H x d/\Rep K H y e/\shp d/\shp e/\R (g_ d e) H
def K3(K:ι):R2:=λx y H Q=>rD K x y H λb=>Q<|.bl b
def K4(K:ι):R2:=λx y H Q=>rD K x y H λb=>Q<|.bl<|!b
section
variable{X:Cx}
def Vq(hu:X.A.units+64<cLine):B9 X (du .Eq) (K3 X.K):=by
 intro AA s σ H x y v u Q I rx ry;apply u2;rintro d e ⟨rd,re,sd,se,q⟩;obtain⟨as,ra⟩:=rd.reads I rx;obtain⟨bs,rb⟩:=re.reads I ry;exact eq_dataH ra rb sd se hu<|x2 (.bl _) H ⟨I,rfl,q⟩
def Vv(hu:X.A.units+64<cLine):B9 X (du .NotEq) (K4 X.K):=by
 intro AA s σ H x y v u Q I rx ry;apply u2;rintro d e ⟨rd,re,sd,se,q⟩;obtain⟨as,ra⟩:=rd.reads I rx;obtain⟨bs,rb⟩:=re.reads I ry;exact ne_dataH ra rb sd se hu<|x2 (.bl _) H ⟨I,rfl,q⟩
def WE(K:ι):R2:=λx y H Q=>∃ a b ys,x=.ref a/\y=.ref b/\SqT K H a []/\SqT K H b ys/\Q (.ref b) H
def Vx:B9 X (iq .Add) (WE X.K):=by
 intro AA s σ H x y v u Q I rx ry h;revert h;apply u3;rintro a b ys ⟨rfl,rfl,ha,hb,q⟩;subst rx;obtain⟨AJ,r1,⟨⟨c1,c2,c3,c4⟩,e1,e2,n1,e3⟩,z⟩:=I.tuple ha;subst ry;obtain rfl:c1=_:=e2;obtain rfl:c3=_:=e3;obtain⟨LW,r2,⟨⟨d1,d2,d3,d4⟩,f1,f2,n2,f3⟩,z⟩:=I.tuple hb;obtain rfl:d1=_:=f2;cases r1;obtain rfl:d3=_:=f3;exact Dr ⟨_,e1,rfl⟩ ⟨_,f1,rfl⟩ ya Br PySem.F.slot_tuple_add PySem.F.entry_tuple_add (PySem.F.args_tuple_add_2 _ _) (tuple_addW0 a b _ _ n1 n2 c2 d2 c4 d4 rfl) {e1,f1,x2 (.ref b) H ⟨I,rfl,q⟩}
def BD(K:ι):R2:=λx y H Q=>match x,y with
 |.int i,.int j=>Q (.int<|i+j) H
 |.str i,.str j=>i.length+j.length<=sizeLine/\Q (.str<|i++j) H
 |.ref _,.ref _=>VS x y H Q\/VM K x y H Q\/WE K x y H Q
 |_,_=>False
def Vy:B9 X (iq .Add) (BD X.K):=by
 intro AA s σ H x y v u Q I rx ry h;cases x<;>cases y<;>simp only[BD]at h;exact Nk _ s σ H _ _ v u Q I rx ry<|y2 ⟨rfl,rfl,h⟩;exact Pm _ s σ H _ _ v u Q I rx ry<|y2 ⟨rfl,rfl,h⟩;rcases h with h|h
 exact Sx _ s σ H _ _ v u Q I rx ry h;rcases h with h|h
 exact Rv _ s σ H _ _ v u Q I rx ry h;exact Vx _ s σ H _ _ v u Q I rx ry h
def FB:R2:=λx y H Q=>match x,y with
 |.int i,.int j=>Q (.bl<|decide<|i<j) H
 |.str i,.str j=>Q (.bl<|decide<|i.cps.toList<j.cps.toList) H
 |_,_=>False
def EJ:R2:=λx y H Q=>match x,y with
 |.int i,.int j=>Q (.bl<|decide<|i<=j) H
 |.str i,.str j=>Q (.bl<|!decide (j.cps.toList<i.cps.toList)) H
 |_,_=>False
end
def Vz:fillsNumberSlot (.type "tuple") "mul"=pure false :=
 PySem.fillsNumberSlot_seq   uo.lookup (by decide) Ef.lookup (by decide)
def Wb:seqRepeat? (.type "tuple")=pure (some<|.builtin "tuple.__mul__"):=by
 unfold seqRepeat?;rw[PySem.seqSlot_of  (name:="__mul__")  uo.lookup (by decide),PySem.seqSlot_of  (name:="__rmul__")  Ef.lookup (by decide)]
 rfl
def Wc(a:Int)(t:Tok)(l:Addr)(BW:Array Value)(dd:Option Addr)(n:Nat)(sl:Array (Option Value)) :
  Meets (vt.«int.__rmul__» {[.int a t,.ref l],[]}) (λ_ R s=>s.heap.get? l=some {.type "tuple",dd,.seq BW n,sl}/\R (.ok<|.ret Value.notImplemented) s) :=
 .of_wp λprog w A R s h=>by obtain⟨hl,h⟩:=h;wp_walk;exact⟨_,rfl,h⟩
def Wd(l:Addr)(BW:Array Value)(dd:Option Addr)(n:Nat)(sl:Array (Option Value))(x:Int)(u:Tok)(h1:1<x)(h2:x<2 ^ 63)(hne:BW.isEmpty=false)(hz:BW.size * x.toNat<=sizeLine) :
  Meets (vt.«tuple.__mul__» {[.ref l,.int x u],[]}) (λ_ R s=>s.heap.get? l=some {.type "tuple",dd,.seq BW n,sl} ∧
   R (.ok<|.ret<|fk s.heap.objs.size) { s with heap:=s.heap.push { cls:=ni "tuple",data:=Data.seq (yn (λx1 x2=>x1++x2) #[] (bc x.toNat BW)) } }) :=
 .of_wp λprog w A R s h=>by
  obtain⟨hl,h⟩:=h
  have hsl:sizeLine<=(2^63-1)/8:=by decide
  have hx:∃ N:Nat,BW.size*x=N/\N<=sizeLine:={_,by rw[jz,gr (by lia)],hz}
  obtain⟨N,hx,hN⟩:=hx
  have CG:(yn (λx1 x2=>x1++x2) #[] (bc x.toNat BW)).size<=sizeLine:=by
   have:=R4 BW.toList x.toNat [];simp only[qy,Array.toArray_toList]at this;rw[this];simp only[az,List.length_flatten,Cn,List.sum_replicate_nat,cy];rw[da];exact hz
  refine q_ (by simp;lia) ?_
  wp_walk
  refine q_ (by simp only[hne,xu];simp;lia) (q_ (by simp only[hne,pq];simp;omega) (q_ (by rw[hx];exact decide_eq_false (by omega)) (q_ (by rw[hx];unfold K_;simp;exact hN) ?_)))
  wp_walk
  exact⟨_,rfl,h⟩
def Wg(l:Addr)(BW:Array Value)(dd:Option Addr)(n:Nat)(sl:Array (Option Value))(u:Tok) :
  Meets (vt.«tuple.__mul__» {[.ref l,.int 1 u],[]}) (λ_ R s=>s.heap.get? l=some {.type "tuple",dd,.seq BW n,sl}/\R (.ok<|.ret<|fk l) s) :=
 .of_wp λprog w A R s h=>by
  obtain⟨hl,h⟩:=h
  wp_walk
  exact⟨_,rfl,h⟩
def WF(K:ι):R2:=λx y H Q=>∃ a k xs,x=.ref a/\y=.int k/\SqT K H a xs/\xs≠[]/\1<=k/\k<2^63/\xs.length*k.toNat<=sizeLine /\
 (k=1->Q (.ref a) H)/\(k≠1->∀ p,H p=none->Q (.ref p) (upd H p<|.tup (bc k.toNat xs).flatten))
section
variable{X:Cx}
def Inv.tnew(I:Inv X AA σ H s)(hv:Vals ys AJ)(hz:ys.length<=sizeLine) :
  Inv X AA σ (upd H s.heap.objs.size<|.tup ys) { s with heap:=s.heap.push { cls:=.type "tuple",data:=.seq AJ.toArray } } :=
 I.laid  (λz z q=>ο _ q) (υ _) {hz,_,hv,_,aw _ rfl,rfl,0,rfl}
def Wh:B9 X (iq .Mult) (WF X.K):=by
 intro AA s σ H x y v u Q I rx ry h;revert h;apply u3;rintro a k xs ⟨rfl,rfl,hx,hne,h1,h2,hz,q1,q2⟩;subst rx;obtain⟨AJ,r,⟨⟨c1,c2,c3,c4⟩,e1,e2,n,e3⟩,z⟩:=I.tuple hx;obtain rfl:c1=_:=e2;obtain rfl:c3=_:=e3;obtain⟨t,rfl⟩:=ry
 have hl:=r.length
 have he:AJ.toArray.isEmpty=false:=by
  cases AJ with
  |nil=>exact absurd (ff.mp hl) hne
  |cons b t=>rfl
 refine wv   (by decide) ⟨_,e1,rfl⟩ (λs'=>ym s' k t) Vz Iz vg Wb Ha.lookup
  (si vg (ym s k t) He (Du _ _) (Wc k t a _ c2 n c4) {e1,rfl,⟨_,e1,rfl⟩,?_})
 by_cases hk:k=1;subst hk;exact si uo ⟨_,e1,rfl⟩ Ei (Co _ _) (Wg a _ c2 n c4 t) {e1,x2 (.ref a) H {I,rfl,q1 rfl}};refine si uo ⟨_,e1,rfl⟩ Ei (Co _ _) (Wd a _ c2 n c4 k t (by lia) h2 he (by rw[az,<-hl];exact hz)) {e1,?_};rw[(R4 _ _ [])];exact x2 (.ref _) _ {I.tnew (r.rep _) (by rw[k9,da];exact hz),rfl,q2 hk _ I.fresh}
abbrev Wj:jX:=Mj λi j=>i+j
def NF(z:Str)(k:Int):Str:=if k<1 then Mr else if(k==1||z.length==0)=true then z else{(bc k.toNat z.cps).foldl (· ++·) #[]}
def Wk(z:Str)(k:Nat):(Str.mk ((bc k z.cps).foldl (· ++·) #[])).length=k*z.length:=by
 have e:∀ (m:Nat) (BP:Array _),((bc m z.cps).foldl (· ++·) BP).size=BP.size+m*z.cps.size:=λm=>by
  induction m with
  |zero=>simp
  |succ m ih=>intro BP;rw[ku,gb,ih,En,t9];lia
 simpa [Cf]using (e k #[])
def Wl:R2:=λx y H Q=>∃ z k,x=.str z/\y=.int k/\0<=k/\k<=1000/\z.length<=1000/\Q (.str<|NF z k) H
def Wm:B9 X (iq .Mult) Wl:=by
 intro AA s σ H x y v u Q I rx ry h;revert h;apply u2;rintro z k ⟨rfl,rfl,h1,h2,h3,q⟩;obtain⟨t,rfl⟩:=rx;obtain⟨t',rfl⟩:=ry;refine PySem.P.mul_str (by simp;lia) (λa _=>?_) (λa _=>?_) ?_
 have:1000<=(2^63-1)/k:=(Int.le_ediv_iff_mul_le<|La.mp ‹_›).mpr (by lia)
 lia
 have h4:z.length*k.toNat<=1000*1000:=gy h3 (by omega)
 have h5:(1000*1000)<=sizeLine:=by decide
 exact decide_eq_false (by lia);unfold NF at q;split;rename_i c;rw[if_pos c]at q;exact{by decide,x2 (.str _) H {I.tok _,⟨_,rfl⟩,q}};rename_i c;rw[if_neg c]at q;split;rename_i d;rw[if_pos d]at q;exact x2 (.str _) H {I,⟨_,rfl⟩,q};rename_i d;rw[if_neg d]at q;exact⟨by rw[Wk];have:=gy (show k.toNat<=1000 by omega) h3;show _<=2^24;exact oA this rfl,x2 (.str _) H {I.tok _,⟨_,rfl⟩,q}⟩
def D7(K:ι):R2:=λx y H Q=>match x,y with
 |.int i,.int j=>CMul i j/\Q (.int<|i*j) H
 |.str z,.int k=>0<=k/\k<=1000/\z.length<=1000/\Q (.str<|NF z k) H
 |.ref _,.int _=>VT x y H Q\/WF K x y H Q
 |_,_=>False
def Wp:B9 X (iq .Mult) (D7 X.K):=by
 intro AA s σ H x y v u Q I rx ry h;cases x<;>cases y<;>simp only[D7]at h;exact Np _ s σ H _ _ v u Q I rx ry<|y2 ⟨rfl,rfl,h⟩;exact Wm _ s σ H _ _ v u Q I rx ry<|y2 ⟨rfl,rfl,h⟩;rcases h with h|h
 exact Sy _ s σ H _ _ v u Q I rx ry h;exact Wh _ s σ H _ _ v u Q I rx ry h
def IU:R2:=λx y H Q=>match x,y with
 |.int i,.int j=>Q (.bl<|decide<|j<i) H
 |_,_=>False
def lX:B9 X (du .Lt) FB:=by
 intro AA s σ H x y v u Q I rx ry h;cases x<;>cases y<;>simp only[FB]at h;exact Nz AA s σ H _ _ v u Q I rx ry<|y2 ⟨rfl,rfl,h⟩
 ·obtain⟨t,rfl⟩:=rx;obtain⟨t',rfl⟩:=ry;exact PySem.P.lt_str<|x2 (.bl _) H ⟨I,rfl,h⟩
def WG:B9 X (du .LtE) EJ:=by
 intro AA s σ H x y v u Q I rx ry h;cases x<;>cases y<;>simp only[EJ]at h
 ·exact Pb AA s σ H _ _ v u Q I rx ry<|y2 ⟨rfl,rfl,h⟩
 ·obtain⟨t,rfl⟩:=rx;obtain⟨t',rfl⟩:=ry;exact PySem.P.le_str<|x2 (.bl _) H ⟨I,rfl,h⟩
def Wq:B9 X (du .Gt) IU:=by
 intro AA s σ H x y v u Q I rx ry h;cases x<;>cases y<;>simp only[IU]at h;exact Pc AA s σ H _ _ v u Q I rx ry<|y2 ⟨rfl,rfl,h⟩
abbrev lY:R2:=λx y H Q=>y=.non/\Q (.bl<|decide<|x=.non) H
abbrev lZ:R2:=λx y H Q=>y=.non/\Q (.bl<|!decide (x=.non)) H
variable{a:Expr}{ta:TE}{tA:TT}{pos:Pos}
abbrev l9(K:ι)(ta:TE):TT:=λσ H Q=>ta σ H λx H'=>∃ k,IM K x H' k/\Q k H'
def BX(K:ι):R2:=kU K
def mB:IxR X (BX X.K):=Sb
def Wv:V->Option Int->Option Int->Hp->VK->Prop:=λx lo hi H Q=>∃ z,x=.str z/\z.length<=sizeLine/\Q (.str<|Txt.slice z lo hi) H
def mC{v:Value}{lo:Option Int}(p:zp v lo):∃ l:Option (Int × Tok),v=partValue l/\l.map (·.1)=lo:=by
 cases p with
 |none=>exact⟨none,rfl,rfl⟩
 |int i t=>exact{some (i,t),rfl,rfl}
def Ww:SlR X Wv:=by
 intro AA s σ H x v vl vu lo hi sl Q I rx hs pl pu h;obtain⟨z,rfl,hz,q⟩:=h;obtain⟨t,rfl⟩:=rx;obtain⟨l,rfl,rfl⟩:=mC pl;obtain⟨u,rfl,rfl⟩:=mC pu;exact x2 "str" _ {PySem.F.slot_str_getitem.lookup,Ku _ _ _,(wpAny_getItem_str_slice   (st:=none) hs rfl (post_val_or_str {ω (Txt.slice_le z _ _) hz,λt' k=>x2 (.str _) H {I.tok k,⟨t',rfl⟩,q}}))}
def IV(K:ι):V->Option Int->Option Int->Hp->VK->Prop:=λx lo hi H Q=>match x with
 |.str z=>z.length<=sizeLine/\Q (.str<|Txt.slice z lo hi) H
 |_=>kX K x lo hi H Q\/kN K x lo hi H Q
def Wx:SlR X (IV X.K):=by
 intro AA s σ H x v vl vu lo hi sl Q I rx hs pl pu h;cases x<;>first
  |exact Ww AA s σ H _ v vl vu lo hi sl Q I rx hs pl pu ⟨_,rfl,h⟩
  |exact(SlR.or Sj Rq) AA s σ H _ v vl vu lo hi sl Q I rx hs pl pu h
abbrev O8:V->V->V->Hp->(Hp->Prop)->Prop:=kW
def mD:VD X O8:=Sd
def O9(K:ι)(tl:TE):TI:=λσ H R=>tl σ H λx H1=>∃ a,x=.ref a/\(((∃ xs,SqL K H1 a xs)/\R (GB K a) H1)\/((∃ xs,SqT K H1 a xs)/\R (IL K a) H1))
def WH(K:ι):Oq->Hp->VK->Prop:=λxs H Q=>∃ x n,xs=[x]/\RW K x H n/\Q (.int n) H
def Wy:EB X (.builtin "len") (WH X.K):=Pw
def mE(K:ι):Oq->Hp->VK->Prop:=λxs H Q=>∃ p ys,xs=[.ref p]/\(SqL K H p ys\/SqT K H p ys)/\∀ l,H l=none->Q (.ref l) (upd H l<|.lst ys)
def Wz:EB X (.type "list") (mE X.K):=Sm
def mF(K:ι):Oq->Hp->VK->Prop:=λxs H Q=>∃ p ys,xs=[.ref p]/\((SqL K H p ys/\∀ l,H l=none->Q (.ref l) (upd H l<|.tup ys))\/(SqT K H p ys/\Q (.ref p) H))
def Xb:EB X (.type "tuple") (mF X.K):=Sq
def SE(K:ι):Oq->Hp->VK->Prop:=λxs H Q=>(∃ i,xs=[.int i]/\Q (.int i) H)\/∃ k,xs=[.bl k]/\Q (.int<|if k then 1 else 0) H
end
section
variable{X:Cx}{tg a:Expr}{ta:TE}{pos:Pos}
def Xc(hl:PE X l tl):PI X tg l (O9 X.K tl):=by
 refine λAA s σ H R I h=>AS (hl _ s σ H _ I h) λv s1 hzz=>?_;obtain⟨x,H1,I1,r1,⟨a,e,q1⟩⟩:=hzz;subst e
 have fp1:∀ b∈[s1.heap.objs.size],FpOk X _ H1 b:=λb hb=>by
  have e:b=s1.heap.objs.size:=by simpa using hb
  subst e;exact I1.fpOk (υ _) (I1.hok.fresh<|υ _)
 subst r1;rcases q1 with⟨⟨xs,hq⟩,q⟩|⟨⟨xs,hq⟩,q⟩
 obtain⟨AJ,rv,p,hz⟩:=I1.list hq;exact xk p.isList<|x5 _ _ _ _ H1 {rfl,I1.kept  λb o e=>ο _ e,Mm a _,{_,aw _ rfl,rfl,rfl},fp1,q};obtain⟨AJ,rv,p,hz⟩:=I1.tuple hq;exact wpAny_pyIter_tuple (p) (x5 _ _ _ _ H1 {rfl,I1.kept  λb o e=>ο _ e,Mp a _,{_,aw _ rfl,rfl,rfl},fp1,q})
def WI(K:ι)(ta:TE):TE:=λσ H Q=>ta σ H λx H1=>∃ k,IM K x H1 k/\Q (.bl<|!k) H1
def Xd(ha:PE X a ta):PE X (.UnaryOp .Not a pos) (WI X.K ta):=by
 refine λAA s σ H Q I h=>UnaryOp_<|AS (ha AA s σ H _ I h) λv s1 hzz=>?_;obtain⟨x,H1,I1,r1,k,t1,q1⟩:=hzz;exact not_of (AS (j9 AA s1 σ H1 x v (λc H2=>c=k/\H2=H1) I1 r1 ⟨k,t1,rfl,rfl⟩) λc s2 ⟨H2,I2,e1,e2⟩=>by
  subst e1;subst e2;exact x2 (.bl<|!c) _ ⟨I2,rfl,q1⟩)
end
def SF(scope outer:Scope)(N cn:tY)(A7:t3):Bool :=
 scope.kind == .function&&scope.names.all (λy=>y.2 != .cell)&&scope.names.all (λy=>y.2 != .local||scope.names.lookup y.1==some .local) &&
 scope.names.all (λy=>y.2 != .free||outer.names.lookup y.1==some .cell||outer.names.lookup y.1==some .free)&&cn.all (λx=>scope.names.lookup x==some .free)&&(A7.map (λi=>N[i]?)==cn.map some)
def mG(h1:X.env.scope=outer)(h2:X.N=N)(h:SF scope outer N cn A7=true):JX X scope tn cn A7:=by
 unfold SF at h;simp only[cb,jo,vm,bne_iff_ne,beq_iff_eq]at h;obtain⟨⟨⟨⟨⟨k1,k2⟩,k3⟩,k4⟩,k5⟩,k6⟩:=h;refine{k1,k2,λy hy hl=>(k3 y hy).resolve_left λz=>z hl,λy hy hf=>?_,k5,by rw[h2];exact k6}
 have z:=k4 y hy
 show X.env.scope.names.lookup _=_\/X.env.scope.names.lookup _=_;rw[h1];rcases z with(z|z)|z
 exact absurd hf z;exact .inl z;exact .inr z
structure PD(K:ι)(C:Addr):Prop where
 ga:ca K (.ref C) "__getattribute__"=some (some<|.builtin "BaseException.__getattribute__")
 gt:ca K (.ref C) "__getattr__"=some none
 be:Js K C (.type "BaseException")=some true
 cl:W.isClsIn K C=true
 ha:ca K (.ref C) "__class__"=some (some<|.builtin "object.__class__")
 hn:xc K (.builtin "object.__class__") "__get__"=some (some<|.builtin "getset_descriptor.__get__")
 tk:Gr K (.builtin "object.__class__")=some true
 mr:Js K C (.type "object")=some true
def Xg{K:ι}{C:Addr}{od:Option Obj}{name:Str}{a g:Value}(hc:(W.clsIn K C).isSome=true)(ha:ca K (.ref C) name=some (some a))(hg:xc K a "__get__"=some (some g))(ht:Gr K a=some true) :
  W.findObj K C od name=some (.bind g a):=by
 obtain⟨cd,hc⟩:=cz.mp hc;unfold W.findObj;rw[hc,ha];simp[hg,ht]
def Xh{K:ι}{E:tQ}{Q:Unit->ξ->Prop}{s:ξ}(c:PD K D)(X:K.In s.heap)(I:Ki s.heap x ox D none)(k:Q () s) :
  wpAny M A (Ho "BaseException.__getattribute__" {[.ref x,nm],[]}) Q E s:=by
 have e1:builtinKind "BaseException.__getattribute__"=some .slot:=by decide +kernel
 have e2:splitId "BaseException.__getattribute__"=some ("BaseException","__getattribute__"):=by decide +kernel
 have L:W.Looks M s.heap (Le (.ref x) (.type "BaseException")) true:=(I.type ).andThen (W.looks_mroIn  X c.be)
 have ar:=PySem.F.args_bexc_ga (.ref x) nm;simp only[Ho,e1,e2];refine δ<|L.at ?_;cases hs:Manifest.signature? "BaseException.__getattribute__" with
 |none=>exact π k
 |some sig =>
  simp only[argsOk,hs]at ar
  show wpAny M A (Bind.checkArgs "BaseException.__getattribute__" sig {[.ref x,nm],[]}) Q E _;rw[ar];exact π k
def Xj{K:ι}{E:tQ}{Q:Option Value->ξ->Prop}{s:ξ}(c:PD K D)(X:K.In s.heap)(I:Ki s.heap x ox D none)
  (k:Q (some<|.ref D) { s with toks:=s.toks+1 }):wpAny (model prog w) A (getAttr? (.ref x) "__class__") Q E s:=by
 have L0:=I.type (M:=model prog w);refine δ<|wpAny_mkText<|δ<|kh<|fm<|δ<|L0.at<|δ<|(zl  X c.ga).at ?_;refine δ<|(zl (M:=model prog w) X c.gt).at (δ<|kh<|fm ?_)
 show wpAny _ _ (boundAndCalled _ _ _) _ _ _;unfold boundAndCalled;refine δ<|π<|yi<|zu PySem.F.attr_ValueError.ga.plain PySem.F.entry_bexc_ga<|Xh c X I<|δ<|π<|δ<|π<|δ<|L0.at<|δ<|(W.looks_find (M:=model prog w) X I (Xg (name:="__class__") c.cl c.ha c.hn c.tk)).at ?_;exact δ<|fm<|yi<|W.class_get (ox:=ox) (od:=none) X I c.mr (π<|W.handed_on rfl<|π k)
set_option tactic.hygienic true in
def Xk{K:ι}{x D:Addr}(c:PD K D):W.KitX K (.ref x) (.ref D) (IT x<|.ref D):=by
 have inst:∀ {h:Heap},IT x (.ref D) h->∃ ox,Ki h x ox D none:=λ{h} ⟨oe,vs,e1,e2,e3,e4⟩=>by
  refine{oe,e1,e2,?_,?_}
  ·unfold W.notCls;rw[e4]
  ·rw[e3];trivial
 have cls:=cz.mp c.cl;refine{λM h _ p=>(inst p).elim λ_ I=>I.type,λM h X p=>?_,λh tp dd AJ n sl X htp=>?_,λ{prog w A E Q s} X p k=>?_}
 ·obtain⟨cd,hc⟩:=cls;unfold W.clsIn at hc;split at hc
  ·rename_i c' d' cd' sl' ho;intro A' Q' E' s' k q;exact δ<|zk (k _ _<|X _ _ ho) (π q)
  ·cases hc
 ·obtain⟨cd,hc⟩:=cls;refine Eo.mpr λq=>?_
  have e:=Value.ref.inj<|beq_iff_eq.mp q;subst e;unfold W.clsIn at hc;split at hc
  ·rename_i c' d' cd' sl' ho;cases ((X _ _ ho).symm.trans htp)
  ·cases hc
 ·obtain⟨ox,I⟩:=inst p;exact Xj c X I k
def TyX(K:ι)(H:Hp)(x:V)(t:Value):Prop:=G7 K H x t\/∃ a C,x=.ref a/\t=.ref C/\H a=some (.ext<|IT a<|.ref C)/\PD K C
inductive ClsV:V->Value->Prop
 |own (C:Addr):ClsV (.ref C) (.ref C)
 |ty (n:String):ClsV (.ty n) (.type n)
def ClsV.rel(h:ClsV y c)(r:RelV y u):u=c:=by
 cases h<;>exact r
def Xl:∀ {ys:Oq} {cs us:sV},Paired ClsV ys cs->Vals ys us->us=cs:=by
 intro ys cs us h h'
 induction h generalizing us with
 |nil=>exact U9 h'
 |cons h t ih =>
  obtain⟨u,m,rfl,r,h'⟩:=RM h';rw[h.rel r,ih h']
def JY(K:ι):Oq->Hp->VK->Prop:=λxs H Q=>∃ x y t b,xs=[x,y]/\TyX K H x t /\
 ((∃ c,ClsV y c/\zv K t c=some b)\/∃ p ys cs,y=.ref p/\SqT K H p ys/\Paired ClsV ys cs/\Lf K t cs=some b)/\Q (.bl b) H
section
variable{X:Cx}
def TyX.kit(I:Inv X AA σ H s)(h:TyX X.K H x t)(r:RelV x u):∃ φ :Heap->Prop,W.KitX X.K u t φ /\ φ s.heap/\u≠.builtin "__main__.__loader__#opaque":=by
 rcases h with h|⟨a,C,rfl,rfl,e,c⟩
 ·cases h with
  |non=>cases (r);exact{_,W.kitx_none,trivial,λz=>nomatch z}
  |bl y=>cases (r);exact{_,W.kitx_bool,trivial,λz=>nomatch z}
  |int i=>obtain⟨t,q⟩:=(r);cases q;exact{_,W.kitx_int,trivial,λz=>nomatch z}
  |str y=>obtain⟨t,q⟩:=(r);cases q;exact{_,W.kitx_str,trivial,λz=>nomatch z}
  |flt y=>obtain⟨t,q⟩:=(r);cases q;exact{_,W.kitx_float,trivial,λz=>nomatch z}
  |@lst a xs ea =>
   cases (r);obtain⟨_,_,n,_,h1⟩:=(I.hok a _ ea)
   exact{_,W.kitx_list,⟨_,h1,rfl⟩,λz=>nomatch z}
  |@frz a ob xs ea =>
   cases (r);obtain⟨_,_,_,n,_,h1⟩:=(I.hok a _ ea)
   exact{_,W.kitx_list,⟨_,h1,rfl⟩,λz=>nomatch z}
  |@tup a xs ea =>
   cases (r);obtain⟨_,_,_,p⟩:=(I.hok a _ ea)
   obtain⟨o,h1,h2,_⟩:=p;exact{_,W.kitx_tuple,⟨o,h1,h2⟩,λz=>nomatch z}
  |@dK a kvs ea =>
   cases (r);obtain⟨_,_,vs,_,p⟩:=(I.hok a _ ea)
   revert p;apply u3;rintro o es ep ⟨h1,h2,_⟩;exact{_,W.kitx_dict,⟨o,h1,h2.1⟩,λz=>nomatch z}
  |@dT a kvs ea =>
   cases (r);obtain⟨_,_,xs,_,o,es,ep,h1,h2,_⟩:=(I.hok a _ ea)
   exact{_,W.kitx_dict,⟨o,h1,h2.1⟩,λz=>nomatch z}
  |@ins a C dx fs ea cl ha hn htk hm =>
   cases (r);obtain⟨mA,O,_⟩:=RX I.hok ea;obtain⟨od,J,_⟩:=O.look;exact{_,W.kitx_own (cl.get _) cl.hd ha hn htk hm,J,λz=>nomatch z}
 ·cases (r);exact{_,Xk c,((I.hok a _ e).1),λz=>nomatch z}
def Xm:EB X (.builtin "isinstance") (JY X.K):=by
 intro AA s σ H xs us Q I r h;revert h;apply u4;rintro x y t b ⟨rfl,ty,hc,q⟩;refine u2 ?_<|Vals.two r;rintro u v ⟨rfl,rx,ry⟩;obtain⟨φ,Z,p,ne⟩:=ty.kit I rx;rcases hc with⟨c,hy,e⟩|⟨pt,ys,cs,rfl,hs,hcs,e⟩
 ·have:=hy.rel ry;subst this;exact W.kia_one Z I.kIn p e ne λtk=>x2 (.bl b) H {I.tok tk,rfl,q}
 ·cases (ry);obtain⟨AJ,rv,⟨⟨c1,c2,c3,c4⟩,e1,e2,n,e3⟩,z⟩:=I.tuple hs;obtain rfl:c1=_:=e2;obtain rfl:c3=_:=e3
  have:=Xl hcs rv;subst this;exact W.kia_tup Z I.kIn p e1 e ne λtk=>x2 (.bl b) H {I.tok tk,rfl,q}
end
def D8(J:It)(g:TG)(tt:TT)(te:TE)(k:Nat)(A7:t3)(σ:St)(H1:Hp)(Q:VK):Prop :=
 ∃ W:Nat->Nat->St->Oq->Hp->Prop,(∃ m,W 0 m (K1 k A7 σ) [] H1)/\∀ i m σ' ys H,W i m σ' ys H ->
  (J.stop i H/\∀ p,H p=none->Q (.ref p) (upd H p<|.lst ys)) ∨
  (J.go i H/\ys.length<sizeLine/\∀ x H',J.yld i H x H'->g x σ' H' λσ2 H2=>tt σ2 H2 λb H3 =>
   if b=true then ∃ N:VK,(∀ y H4,N y H4->∃ m',m'<m/\W (i+1) m' σ2 (ys++[y]) H4)/\te σ2 H3 N else ∃ m',m'<m/\W (i+1) m' σ2 ys H3)
def IW(J:It)(g:TG)(tb:TS)(D:Ends)(σ:St)(H1:Hp):Prop :=
 ∃ W:Nat->Nat->St->Hp->Prop,(∃ m,W 0 m σ H1)/\∀ i m σ H,W i m σ H ->
  (J.stop i H/\D.nx σ H)\/(J.go i H/\∃ N:St->Hp->Prop,(∀ σ' H',N σ' H'->∃ m',m'<m/\W (i+1) m' σ' H')/\∀ x H',J.yld i H x H'->g x σ H' λσ2 H2=>tb { D with nx:=N,ct:=N,bk:=D.nx } σ2 H2)
section
variable{K:ι}{ta tb tc to ti tv tl:TE}{tt tA tB' tu:TT}{s1 s2:TS}{r r':R2}{σ:St}{H:Hp}{Q:VK}{D:Ends}{QB:ZQ}{as:TA}{g:TG}{gs:G6}{te:TE}{k i:Nat}{A7:t3}{f m:Str}{C:Addr}{sp:Sp}{EF:Oq}{E:St->XK}{v:V}{vs:Oq}{QA:Oq->Hp->Prop}{QG:St->Hp->Prop}{QO:Option Int->Hp->Prop}
def Xp:AG s1 s2 D σ H=(s1 { D with nx:=s2 D } σ H):=rfl
def Xq:B0 D σ H=(D.nx σ H):=rfl
def Xv:AQ ta g D σ H=(ta σ H λx H1=>g x σ H1 D.nx):=rfl
def Xw:CB ta D σ H=(ta σ H λ_ H1=>D.nx σ H1):=rfl
def Xx:AV ta D σ H=(ta σ H D.rt):=rfl
def Xy:BM tt s1 s2 D σ H=(tt σ H λb H1=>if b=true then s1 D σ H1 else s2 D σ H1):=rfl
def Xz:tC v σ H Q=(Q v H):=rfl
def Yb:AD r ta tb σ H Q=(ta σ H λx H1=>tb σ H1 λy H2=>r x y H2 Q):=rfl
def Yc:EI tt σ H QB=(tt σ H λc H1=>QB (!c) H1):=rfl
def Yd:KR tt tu σ H QB=(tt σ H λc H1=>if c=true then tu σ H1 QB else QB false H1):=rfl
def Yg:JS tt tu σ H QB=(tt σ H λc H1=>if c=true then QB true H1 else tu σ H1 QB):=rfl
def Yh:WI K ta σ H Q=(ta σ H λx H1=>∃ k,IM K x H1 k/\Q (.bl<|!k) H1):=rfl
def Yj:BE σ H QA=(QA [] H):=rfl
def Yk:DB ta as σ H QA=(ta σ H λx H1=>as σ H1 λxs H2=>QA (x::xs) H2):=rfl
def Yl:CK as σ H Q=(as σ H λxs H1=>xs.length<=sizeLine/\∀ p,H1 p=none->Q (.ref p) (upd H1 p<|.tup xs)):=rfl
def Ym:BS as σ H Q=(as σ H λxs H1=>xs.length<=sizeLine/\∀ p,H1 p=none->Q (.ref p) (upd H1 p<|.lst xs)):=rfl
def Yp:M9 ru ta σ H Q=ta σ H λx H1=>ru x H1 Q:=rfl
def Yq:CL rc as σ H Q=as σ H λvs H1=>rc vs H1 Q:=rfl
def Yv:GE C E as D σ H=(as σ H λvs H1=>vs.length<=sizeLine/\E σ (.ref C) none H1):=rfl
def Yw:SD sb th D σ H=sb (λσ' cls _ H'=>th cls D σ' H') D σ H:=rfl
def Yx:AE i v σ H QG=(QG (σ.set i<|some v) H):=rfl
def Yy:OS to ti rs v σ H QG=to σ H λo H1=>ti σ H1 λi H2=>rs o i v H2 λH3=>QG σ H3:=rfl
def Yz:FN K k gs v σ H QG=(∃ a xs,v=.ref a/\SqT K H a xs/\xs.length=k/\gs xs σ H QG):=rfl
def Zb:FM vs σ H QG=((vs=[]/\QG σ H)):=rfl
def Zc:DK g gs vs σ H QG=(∃ v r,vs=v::r/\g v σ H λσ' H'=>gs r σ' H' QG):=rfl
def Zd:IR rs ta ol oh σ H Q=ta σ H λx H1=>ol σ H1 λl H2=>oh σ H2 λu H3=>rs x l u H3 Q:=rfl
def Zg:IQ σ H QO=(QO none H):=rfl
def Zh:DY K T rm ta as σ H Q=ta σ H λx H1=>VR K T x H1/\as σ H1 λxs H2=>rm x xs H2 Q:=rfl
def Zj:CP σ H QB=(QB true H):=rfl
def Zk:RZ K ta tv rd f D σ H=(ta σ H λx H1=>∃ a C dx fs v,x=.ref a/\H1 a=some (.ins C dx fs)/\Cls K C/\NoAttr K C f/\fs.lookup f=some v/\tv σ H1 λy H2=>rd v y H2 λz H3=>∃ dx' fs',H3 a=some (.ins C dx' fs')/\fs'.length<1000/\D.nx σ (upd H3 a<|.ins C dx'<|BQ f z fs')):=rfl
end
section
variable{K:ι}{σ:St}{H:Hp}{Q:VK}{P:Bool->Prop}{PI':Int->Prop}{PV:V->Prop}{QB:ZQ}{v:V}{x:Option V}{i j:Int}{n:Nat}{b b':Bool}{s s':Str}{p q:Addr}{f:Int->Int->V}{C:Int->Int->Prop}
def DU(i:Nat):TE:=λσ H Q=>match σ[i]? with
 |some (some v)=>Q v H
 |_=>False
def Zl:DU 0 (some v::σ) H Q=Q v H:=rfl
def Zm:DU (n+1) (x::σ) H Q=DU n σ H Q:=rfl
def Zp(i:Nat):DU i=RP i:=by
 funext σ H Q;unfold DU RP;cases σ[i]? with
 |none=>simp
 |some o=>cases o<;>simp
def Zq:BD K (.int i) (.int j) H Q=Q (.int<|i+j) H:=rfl
def Zv:BD K (.str s) (.str s') H Q=(s.length+s'.length<=sizeLine/\Q (.str<|s++s') H):=rfl
def mH:BD K (.ref p) (.ref q) H Q=(VS (.ref p) (.ref q) H Q\/VM K (.ref p) (.ref q) H Q\/WE K (.ref p) (.ref q) H Q):=rfl
def Zw{x y:Str}:EJ (.str x) (.str y) H Q=Q (.bl<|!decide (y.cps.toList<x.cps.toList)) H:=rfl
def Zx{x y:Str}:FB (.str x) (.str y) H Q=Q (.bl<|decide<|x.cps.toList<y.cps.toList) H:=rfl
def Zy{x:Str}{lo hi:Option Int}:IV K (.str x) lo hi H Q=(x.length<=sizeLine/\Q (.str<|Txt.slice x lo hi) H):=rfl
def Zz:D7 K (.int i) (.int j) H Q=(CMul i j/\Q (.int<|i*j) H):=rfl
def zaa:D7 K (.str z) (.int j) H Q=(0<=j/\j<=1000/\z.length<=1000/\Q (.str<|NF z j) H):=rfl
def zab:D7 K (.ref p) (.int j) H Q=(VT (.ref p) (.int j) H Q\/WF K (.ref p) (.int j) H Q):=rfl
def zac:FB (.int i) (.int j) H Q=Q (.bl<|decide<|i<j) H:=rfl
def zad:EJ (.int i) (.int j) H Q=Q (.bl<|decide<|i<=j) H:=rfl
def zae:IU (.int i) (.int j) H Q=Q (.bl<|decide<|j<i) H:=rfl
def zaf:OZ (.int i) (.int j) H Q=Q (.int<|i+j) H:=by simp[OZ]
def zag:SE K [.bl b] H Q=Q (.int<|if b then 1 else 0) H:=by simp[SE]
end
def pvr(i:Nat)(hN:X.N[i]? =some x:=by rfl)(hv:RN X.env.scope x:=by first|exact Hi rfl|exact zt (Hi rfl)|exact zt<|zt rfl)(hd:(x ==("__debug__":Str))=false:=by decide)
  (GO:(x ==("__classdict__":Str))=false:=by decide):PE X (.Name x pos) (DU i):=by
 rw[Zp];exact jV hN hv hd GO
abbrev AX(Q:VK):Ends:={ nx:=λ_ H'=>Q .non H',rt:=Q }
abbrev CO(A7:t3)(σ:St):St:=A7.map λi=>(σ[i]?).join
section
variable{K:ι}{te:TE}{A7:t3}{σ:St}{H:Hp}{Q:VK}
def K5{lo:Int}{n:Nat}(hn:n<=sizeLine)(Pv:Nat->Oq->Hp->Prop)(h0:Pv 0 [] H)(hs:∀ i ys H,i<n->ys.length=i->Pv i ys H->te (some (.int<|lo+i)::CO A7 σ) H λy H2=>Pv (i+1) (ys++[y]) H2)
  (hd:∀ ys H,ys.length=n->Pv n ys H->∀ p,H p=none->Q (.ref p) (upd H p<|.lst ys)) :
  D8 (FO lo n) (AE 0) CP te 1 A7 σ H Q:=by
 refine{λi m σ' ys H=>m=n-i/\i<=n/\ys.length=i/\(∃ x0,σ'=x0::CO _ σ)/\Pv i ys H,{n,rfl,bv _,rfl,⟨_,rfl⟩,h0},?_};rintro i m σ' ys H ⟨rfl,hi,hl,⟨x0,rfl⟩,p⟩;by_cases A0:i<n;refine .inr {A0,by lia,λx H' y=>?_};obtain⟨e,y⟩:=y;subst e y;refine{_,λy H4 q=>{_,cq ‹_›,rfl,A0,?_,⟨_,rfl⟩,q},hs i ys _ A0 hl p};rw[af,ir,hl]
 have e:i=n:=by lia
 subst e;exact .inl {υ _,hd ys H hl p}
def mI(hn:xs.length<=sizeLine)(Pv:Nat->Oq->Hp->Prop)(h0:Pv 0 [] H)(hq:∀ i ys H,i<=xs.length->Pv i ys H->SqL K H b xs)
  (hs:∀ i x ys H,xs[i]? =some x->ys.length=i->Pv i ys H->te (some x::CO A7 σ) H λy H2=>Pv (i+1) (ys++[y]) H2)
  (hd:∀ ys H,ys.length=xs.length->Pv xs.length ys H->∀ p,H p=none->Q (.ref p) (upd H p<|.lst ys)) :
  D8 (GB K b) (AE 0) CP te 1 A7 σ H Q:=by
 refine{λi m σ' ys H=>m=xs.length-i/\i<=xs.length/\ys.length=i/\(∃ x0,σ'=x0::CO _ σ)/\Pv i ys H,{xs.length,rfl,bv _,rfl,⟨_,rfl⟩,h0},?_};rintro i m σ' ys H ⟨rfl,hi,hl,⟨x0,rfl⟩,p⟩
 have q:=hq i ys H hi p;by_cases A0:i<xs.length;refine .inr {x2 xs (xs[i]) {q,by simp[A0]},by lia,λx H' y=>?_};obtain⟨rfl,y⟩:=y;refine{_,λy H4 q=>{_,cq ‹_›,rfl,A0,?_,⟨_,rfl⟩,q},hs i x ys _ (y xs q) hl p};rw[af,ir,hl]
 have e:i=xs.length:=by lia
 subst e;exact .inl {{xs,q,υ _},hd ys H hl p}
def zai{lo:Int}{n:Nat}(hn:n<=sizeLine)(f:Nat->V)(hs:∀ i,i<n->∀ Q':VK,Q' (f i) H->te (some (.int<|lo+i)::CO A7 σ) H Q')
  (hd:∀ p,H p=none->Q (.ref p) (upd H p<|.lst<|(ν n).map f)) :
  D8 (FO lo n) (AE 0) CP te 1 A7 σ H Q:=by
 refine K5 hn (λi ys H'=>H'=H/\ys=(ν i).map f) ⟨rfl,rfl⟩ (λi ys H' hi hl hzz=>?_) (λys H' hl hzz=>?_);obtain⟨rfl,e2⟩:=hzz;refine hs i hi _ {rfl,?_};rw[e2,bu,ai];rfl;obtain⟨rfl,rfl⟩:=hzz;exact hd
def EV(Pv:tO)(h0:Pv 0 σ H)(hl:∀ i σ H,i<=xs.length->Pv i σ H->SqL K H b xs)
  (hs:∀ i x σ H,xs[i]? =some x->Pv i σ H->g x σ H λσ2 H2=>tb { D with nx:=Pv<|i+1,ct:=Pv<|i+1,bk:=D.nx } σ2 H2) (hd:∀ σ H,Pv xs.length σ H->D.nx σ H):IW (GB K b) g tb D σ H:=Mz Pv h0 hl hs hd
def WJ(Pv:tO)(h0:Pv 0 σ H)(hl:∀ i σ H,i<=xs.length->Pv i σ H->SqT K H b xs)
  (hs:∀ i x σ H,xs[i]? =some x->Pv i σ H->g x σ H λσ2 H2=>tb { D with nx:=Pv<|i+1,ct:=Pv<|i+1,bk:=D.nx } σ2 H2) (hd:∀ σ H,Pv xs.length σ H->D.nx σ H):IW (IL K b) g tb D σ H:=Nb Pv h0 hl hs hd
def NG{lo:Int}{n:Nat}{g:TG}{tb:TS}{D:Ends}(Pv:tO)(h0:Pv 0 σ H)
  (hs:∀ i σ H,i<n->Pv i σ H->g (.int<|lo+i) σ H λσ2 H2=>tb { D with nx:=Pv<|i+1,ct:=Pv<|i+1,bk:=D.nx } σ2 H2) (hd:∀ σ H,Pv n σ H->D.nx σ H):IW (FO lo n) g tb D σ H:=Nd Pv h0 hs hd
end
def PJ{K:ι}{H:Hp}{x y:V}{t c:Value}{b:Bool}{Q:VK}(ty:TyX K H x t)(cv:ClsV y c)(k:zv K t c=some b)(q:Q (.bl b) H):JY K [x,y] H Q:=x4 x y t b {rfl,ty,.inl ⟨c,cv,k⟩,q}
def zaj{K:ι}{H:Hp}{x:V}{p:Addr}{ys:Oq}{cs:sV}{t:Value}{b:Bool}{Q:VK}(ty:TyX K H x t)(hs:SqT K H p ys)(hc:Paired ClsV ys cs)(k:Lf K t cs=some b)(q:Q (.bl b) H):JY K [x,.ref p] H Q:=x4 x (.ref p) t b {rfl,ty,.inr<|x3 p ys cs ⟨rfl,hs,hc,k⟩,q}
def AL(h:H p=none):Same H (upd H p o):=λb u e=>by rw[AI (BI e h)];exact e
theorem JZ{α β :Type}{F: α -> β ->Prop}:∀ {l:List α} {m:List β} {i:Nat} {y: β},Paired F l m->m[i]? =some y->∃ x,l[i]? =some x/\F x y
 |_,_,_,_,.nil,e=>by simp at e
 |_,_,0,_,.cons r _,e=>by simp at e;subst e;exact⟨_,rfl,r⟩
 |_,_,i+1,y,.cons _ t,e=>by
  obtain⟨u,h1,h2⟩:=JZ   t (e);exact⟨u,h1,h2⟩
theorem mJ{α β :Type}{F: α -> β ->Prop}{x: α}{y: β}(r:F x y):∀ {l:List α} {m:List β} (i:Nat),Paired F l m->Paired F (l.set i x) (m.set i y)
 |_,_,_,.nil=>.nil
 |_,_,0,.cons _ t=>.cons r t
 |_,_,i+1,.cons q t=>.cons q<|mJ r i t
def CY{K:ι}{H:Hp}{p:Addr}{xs:Oq}{i:Int}{n:Nat}{v:V}{Q:VK}(h:SqL K H p xs)(hi:i=n)(hx:xs[n]? =some v)(q:Q v H):BX K (.ref p) (.int i) H Q :=
 .inl (x4 p xs i v {rfl,rfl,h,hi ▸ VO hx,q})
def CC(n:Nat)(h:n<=100000):n<=sizeLine:=ω h (by decide)
theorem mK{α :Type}(x: α):∀ w:Nat,(bc w [x]).flatten=bc w x
 |0=>rfl
 |w+1=>by rw[ku,ic,mK x w];rfl
def J0(h:fs.length+1<n):(BQ f v fs).length<n:=cm (OW f v fs) h
def mM(h:shp d):g_ d d=true:=PySem.SeqAt.eqv_refl d<|PySem.SeqAt.canLay_of_shaped h
def vD:V->vk
 |.bl b=>.bool b
 |.int i=>.int i
 |.str x=>.str x
 |_=>.none
def MB:V->Bool
 |.non=>true
 |.bl _=>true
 |.int _=>true
 |.str x=>gk x
 |_=>false
def zak{K:ι}{H:Hp}{v:V}(h:MB v=true):Rep K H v (vD v):=by
 cases v<;>first|exact .non|exact .bl _|exact .int _|exact .str _|cases h
theorem WK{K:ι}{H:Hp}:∀ {vs:Oq},(∀ v∈vs,MB v=true)->RepAll K H vs (vs.map vD)
 | [],_=>.nil
 |v::r,h=>.cons (zak<|h v χ) (WK λx hx=>h x<|ρ _ hx)
def zal(h:MB v=true):(vD v).canLay0=true/\(vD v).depth=0:=by
 cases v<;>first|exact⟨rfl,rfl⟩|exact⟨h,rfl⟩|cases h
theorem mO:∀ {vs:Oq},(∀ v∈vs,MB v=true)->uc (vs.map vD)=true/\za (vs.map vD)=0
 | [],_=>⟨rfl,rfl⟩
 |v::r,h=>by
  obtain⟨a,b⟩:=zal<|h v χ;obtain⟨c,d⟩:=mO λx hx=>h x<|ρ _ hx;simp[uc,za,a,b,c,d]
def WL{vs:Oq}(h:∀ v∈vs,MB v=true):shp (.list<|vs.map vD):=by
 obtain⟨c,d⟩:=mO h;unfold shp PySem.SeqAt.shaped;simp[PyData.canLay0,Er,c,d]
def mP{K:ι}{H:Hp}{p q:Addr}{xs:Oq}{Q:VK}(h1:SqL K H p xs)(h2:SqL K H q xs)(hf:∀ v∈xs,MB v=true)(hq:Q (.bl true) H):K3 K (.ref p) (.ref q) H Q:=by
 refine y2 {.lst h1<|WK hf,.lst h2<|WK hf,WL hf,WL hf,?_};rw[mM (WL hf)];exact hq
def ItK(k:Bool)(h:Heap)(j a:Addr)(i:Nat):Prop:=if k then h.IsListIter j a i else h.IsTupleIter j a i
def mQ(k:Bool)(h:Heap)(a:Addr)(xs:Array Value):Prop:=if k then h.IsList a xs else h.IsTuple a xs
def ItK.up(x:ItK k h j a i)(q:∀ o,h.get? j=some o->h'.get? j=some o):ItK k h' j a i:=by
 cases k<;>exact(let ⟨o,e,r⟩:=x;{o,q o e,r})
def ItK.ob(x:ItK k h j a i):∃ o,h.get? j=some o/\o.data=.fields #[.ref a,.int i 0]:=by
 cases k<;>exact(let ⟨o,e,_,r⟩:=x;⟨o,e,r⟩)
section
variable{P:bw}{w:World}{A:dk}{E:tQ}{s:ξ}
def zam(z:A.handled=none)(c:s.heap.IsTupleIter j t i)(d:s.heap.IsTuple t AJ)(e:AJ[i]? =none)
  (q:∀ h' x,nr j s.heap h'->(∃ o,h'.get? x=some o/\o.cls=.type "StopIteration")->E (.ref x) { s with heap:=h' }):wpAny (model P w) A (ww<|.ref j) Q E s:=by
 obtain⟨oj,e1,e2,e3⟩:=id c;obtain⟨ot,f1,y,n,f2⟩:=d;refine δ<|fe  c.typeIs wg (fq wg c.typeIs F.entry_tuple_iterator_next ?_<|F.args_tuple_iterator_next_1 _)
 show wpAny _ _ (field _ 0>>=_) _ _ s;refine δ<|jb e1 e3  rfl (δ<|jb e1 e3  rfl (δ<|zw f1 f2 ?_));simp only[b_,e];refine δ (sj (δ (ub e1 e3 (by simp) (δ (δ (fz (δ  (Iw  (by first|rfl|(rfl)) (fz (δ<|wpAny_handled ?_) (by size_fits)))) (by size_fits)))))));rw[z];exact δ<|π<|wpAny_throw<|q _ _ (((e_ ..).extBut.push _).push _) {_,aw _ rfl,rfl}
def zan(z:A.handled=none)(c:ItK k s.heap j t i)(d:mQ k s.heap t AJ)(e:AJ[i]? =none)
  (q:∀ h' x,nr j s.heap h'->(∃ o,h'.get? x=some o/\o.cls=.type "StopIteration")->E (.ref x) { s with heap:=h' }):wpAny (model P w) A (ww<|.ref j) Q E s:=by
 cases k;exact zam z c d e q;exact wpAny_nextOf_list_end z c d e q
end
section
variable{P:bw}{w:World}{A:dk}{E:tQ}{s:ξ}
end
def Inv.turnedS{X:Cx}{AA:tI}{σ:St}{H:Hp}{s:ξ}{h':Heap}{t':Nat}{fp:tW}(I:Inv X AA σ H s)(k:∀ b o,b∉fp->s.heap.get? b=some o->h'.get? b=some o)(hf:∀ b∈fp,FpOk X AA H b):Inv X AA σ H { s with heap:=h',toks:=t' }:=by
 have nit:∀ b u,H b=some u->b∉fp:=λb u e z=>by rw[(hf b z).1]at e;cases e
 refine I.step    (λb hb=>?_) (λb o y y hc e y=>k b o hc e) (λb o y y hc e y=>{_,k b o hc e}) (λy y y y n=>n)
  (λb o hc e=>{o,k b o hc e}) (λy y e=>e) (λy y y e=>e) (λb ps e=>{#[],by rw[e];simp}) (λm hm=>?_) (λb u e=>?_) I.bare
 obtain⟨y,f1,y,f3,f4,f5⟩:=hf b hb;exact⟨f3,f1,f4,f5⟩;revert hm;apply u3;rintro o es ep ⟨ho,r⟩;exact x3 o es ep {k _ o (λz=>(hf _ z).2.1 rfl) ho,r};refine(I.hok b u e).stay (λc v hc q=>k c v ?_ q) (λy q=>q) λy y q=>q;rcases hc with z|z
 rw[z];exact nit b u e;exact nit c _ z
def WM(K:ι)(k:Bool)(H:Hp)(a:Addr)(xs:Oq):Prop:=if k then SqL K H a xs else SqT K H a xs
def Inv.seqK(I:Inv X AA σ H s)(q:WM X.K k H a xs):∃ AJ,Vals xs AJ/\mQ k s.heap a AJ.toArray:=by
 cases k;obtain⟨AJ,rv,p,z⟩:=I.tuple q;exact⟨_,rv,p⟩;obtain⟨AJ,rv,p,z⟩:=I.list q;exact⟨_,rv,p.isList⟩
def Inv.seqK_inj(I:Inv X AA σ H s)(p:WM X.K k H a xs)(q:WM X.K k H a ys):xs=ys:=by
 cases k;exact I.tuple_inj p q;exact I.list_inj p q
structure z07(z T U j j':Addr):Prop where
 a1:T≠z
 a2:U≠z
 a3:j≠z
 a4:j'≠z
 a5:T≠U
 a6:T≠j
 a7:T≠j'
 a8:U≠j
 a9:U≠j'
 a10:j≠j'
def FpOk.upd(f:FpOk X AA H b)(n:b≠a):FpOk X AA (upd H a o) b:={(AI n).trans f.1,f.2}
section
variable{X:Cx}{tg:Expr}
end
def PK(z:Str):It:={λi _=>i<z.cps.size,λi H x H'=>H'=H/\∃ c,z.cps[i]? =some c/\x=.str {#[c]},λi _=>z.cps.size<=i}
def mR{P:bw}{w:World}{K:PySem.W.Frag}{tg:Expr}{it:Addr}{z:Str}{t:Tok}{nm:String}(hn:["enumerate","zip","dict_itemiterator","dict_reverseitemiterator","odict_iterator","itertools.zip_longest","itertools.pairwise"].contains nm=false)
  (W:∀ A:dk,A.handled=none->Walks P w A it [it] [it] z.cps.size (SignAt z) (λi h=>h.IsStrIter it nm z t i)) (sf:∀ (A:dk) (i:Nat) (s:ξ) (Q:tQ) (E:tQ),s.heap.IsStrIter it nm z t i->Q (.ref it) s->wpAny (model P w) A (Gi<|.ref it) Q E s) :
  KS P w K tg (PK z) [it] it (λi h=>i<=z.cps.size/\h.IsStrIter it nm z t i) where
 mem:=by simp
 obj:=λi h ⟨_,o,e,c,d⟩ b hb=>by
  have e':b=it:=by simpa using hb
  subst e';exact{o,e,λv q=>by rw[d]at q;cases q}
 keep:=λi h h' ⟨l,o,e,r⟩ k=>{l,o,k it (by simp) o e,r}
 item:=by
  intro X hP hw hK hc i AA s σ H E I hf ⟨y,st⟩ hg;obtain⟨f0,f1,f2,f3,f4,f5⟩:=hf it (by simp);refine(W _<|I.ok.hd hc).item i s _ _ hg st λv h' tk hv st' kk=>?_;revert hv;apply u2;have I1:Inv X _ σ H { s with heap:=h',toks:=tk }:=I.turned (λb o hb e=>kk b o (by simpa using hb) e) f0 f1 f3 f4 f5;rintro c u ⟨hx,rfl⟩;obtain⟨o,e,c1,d⟩:=id st';exact{_,rfl,OT  e c1 d hn (x2 (.str _) H {I1,⟨u,rfl⟩,⟨rfl,c,hx,rfl⟩,⟨hg,st'⟩,λb hb=>(hf b hb).1})}
 done:=by
  intro X hP hw hK hc i AA s σ H E I hf ⟨l,st⟩ hg;obtain⟨f0,f1,f2,f3,f4,f5⟩:=hf it (by simp)
  have e:=j_ l hg;subst e;exact(W _<|I.ok.hd hc).done s _ _ st λh' tk kk=>{rfl,I.turned (λb o hb e=>kk b o (by simpa using hb) e) f0 f1 f3 f4 f5}
 self:=λA i s Q E st h=>sf A i s Q E st.2 h
theorem mS:∀ bs:List Bool,(ν bs.length).all (λi=>bs.getD i false)=bs.all id
 | []=>rfl
 |b::t=>by
  rw[de,yp,uy,Es,uy,<-(mS t)]
  rfl
def PL(tl:TE):TI:=λσ H R=>tl σ H λx H1=>∃ z,x=.str z/\R (PK z) H1
section
variable{X:Cx}{tg:Expr}
def zao{l:Expr}{tl:TE}(hl:PE X l tl):PI X tg l (PL tl):=by
 refine λAA s σ H R I h=>AS (hl _ s σ H _ I h) λv s1 hzz=>?_;obtain⟨x,H1,I1,r1,⟨z,rfl,q⟩⟩:=hzz;obtain⟨t,rfl⟩:=r1
 have fp1:∀ b∈[s1.heap.objs.size],FpOk X _ H1 b:=λb hb=>by
  have e:b=s1.heap.objs.size:=by simpa using hb
  subst e;exact I1.fpOk (υ _) (I1.hok.fresh<|υ _)
 cases ha:z.cps.all _;refine wpAny_pyIter_wide ha (x5 _ _ _ _ H1 {rfl,I1.kept  λb o e=>ο _ e,mR   (by decide) (λA hA=>Walks.strWide hA _ z t) (λA i s Q E st h=>wpAny_pyIter_striter_wide st h),{bv _,_,aw _ rfl,rfl,rfl},fp1,q});refine wpAny_pyIter_ascii ha (x5 _ _ _ _ H1 {rfl,I1.kept  λb o e=>ο _ e,mR   (by decide) (λA hA=>Walks.strAscii hA _ z t) (λA i s Q E st h=>wpAny_pyIter_striter_ascii st h),{bv _,_,aw _ rfl,rfl,rfl},fp1,q})
def PN(K:ι):Oq->Hp->VK->Prop:=λxs H Q=>∃ x,xs=[.str x]/\x.length=1/\Q (.int (x.cps.getD 0 0:Nat)) H
def zap:EB X (.builtin "ord") (PN X.K):=Pq
def NH(K:ι):Oq->Hp->VK->Prop:=λxs H Q=>∃ (p:Addr) (bs:List Bool),xs=[.ref p]/\SqL K H p (bs.map V.bl)/\Q (.bl<|bs.all id) H
def zaq(hc:X.calm=true):EB X (.builtin "all") (NH X.K):=by
 intro AA s σ H xs us Q I r h;revert h;apply u2;rintro p bs ⟨rfl,hp,q⟩;obtain⟨AJ,rv,pl,hz⟩:=I.list hp;obtain⟨u,rfl,rfl⟩:=GQ r
 have hl:=rv.length
 have hne:p≠s.heap.objs.size:=by
  obtain⟨o,e,z⟩:=pl.isList;exact bd<|au e
 refine call_all_walk<|xk pl.isList<|x7 _ _ _ _ _ _ (λi=>bs.getD i false) {rfl,Od (show X.A.in1.handled=none from I.ok.hd hc) _ p hne _,{{_,aw _ rfl,rfl,rfl},pl.isList.push _},?_,?_};intro i v s' Q' E' hv hq
 have hv:AJ[i]? =some v:=by simpa using hv
 rw[ζ]at hl;obtain⟨b,hb⟩:∃ b,bs[i]? =some b:={_,η<|hl ▸ ((ε.mp hv).1)}
 obtain⟨u,hu,ru⟩:=rv.get   (by rw[τ,hb];rfl);rw[hv]at hu;cases (ru)
 have e:bs.getD i false=b:=by rw[wj,hb];rfl
 cases hu
 have hq:Q' (bs.getD i _) s':=hq;rw[e]at hq;exact π hq;intro h' tk kk
 have e:(ν AJ.toArray.size).all (λi=>bs.getD i false)=bs.all id:=by
  rw[ζ]at hl;rw[az,<-hl];exact mS bs
 rw[e];exact x2 (.bl _) H {I.kept  λb o eb=>kk b o (by simpa using bd (au eb)) (ο _ eb),rfl,q}
end
def zar{K:ι}{x:Str}{H:Hp}{Q:VK}:PN K [.str x] H Q=(x.length=1/\Q (.int (x.cps.getD 0 0:Nat)) H):=by simp[PN]
section
variable{P:bw}{w:World}{A:dk}{E:tQ}{s:ξ}
end
section
variable{X:Cx}
end
def zas:BT (PL tl) g tt te k A7 σ H Q=(tl σ H λx H1=>∃ z,x=.str z/\D8 (PK z) g tt te k A7 σ H1 Q):=rfl
def zat(hn:z.cps.size<=sizeLine)(Pv:Nat->Oq->Hp->Prop)(h0:Pv 0 [] H)(hs:∀ i c ys H,z.cps[i]? =some c->ys.length=i->Pv i ys H->te (some (.str {#[c]})::CO A7 σ) H λy H2=>Pv (i+1) (ys++[y]) H2)
  (hd:∀ ys H,ys.length=z.cps.size->Pv z.cps.size ys H->∀ p,H p=none->Q (.ref p) (upd H p<|.lst ys)):D8 (PK z) (AE 0) CP te 1 A7 σ H Q:=by
 refine{λi m σ' ys H=>m=z.cps.size-i/\i<=z.cps.size/\ys.length=i/\(∃ x0,σ'=x0::CO _ σ)/\Pv i ys H,{z.cps.size,rfl,bv _,rfl,⟨_,rfl⟩,h0},?_};rintro i m σ' ys H ⟨rfl,hi,hl,⟨x0,rfl⟩,p⟩;by_cases A0:i<z.cps.size;refine .inr {A0,by lia,λx H' y=>?_};obtain⟨e,c,hc,y⟩:=y;subst e y;refine{_,λy H4 q=>{_,cq ‹_›,rfl,A0,?_,⟨_,rfl⟩,q},hs i c ys _ hc hl p};rw[af,ir,hl]
 have e:i=z.cps.size:=by lia
 subst e;exact .inl {υ _,hd ys H hl p}
open PySem
abbrev IX(l:t3):Prop:=l.Pairwise (· <·)
def PQ{l:t3}(R:IX l){i k a b:Nat}(h:i<k)(ha:l[i]? =some a)(hb:l[k]? =some b):a<b:=by
 obtain⟨h2,rfl⟩:=ε.mp hb;obtain⟨h1,rfl⟩:=ε.mp ha;exact o_.mp R i k h1 h2 h
structure Below(xs:Array Nat)(j r:Nat):Prop where
 le:r<=xs.size
 lo:∀ i v,i<r->xs.toList[i]? =some v->v<j
 hi:∀ i v,r<=i->xs.toList[i]? =some v->j<=v
theorem WN{xs:Array Nat}(R:IX xs.toList):∀ (fuel lo hi:Nat),lo<=hi->hi<=xs.size->hi-lo<=fuel->(∀ i v,i<lo->xs.toList[i]? =some v->v<j)->(∀ i v,hi<=i->xs.toList[i]? =some v->j<=v) ->
  Below xs j (Et xs j fuel lo hi)
 |0,lo,hi,h1,h2,h3,a,b=>by
  have e:lo=hi:=by lia
  subst e;exact⟨h2,a,b⟩
 |fuel+1,lo,hi,h1,h2,h3,a,b=>by
  unfold Et;by_cases A0:lo<hi;rw[if_pos A0]
  have hm:(lo+hi)/2<xs.size:=by lia
  have ed:xs.getD ((lo+hi)/2) j=xs[(lo+hi)/2]:=by simp[hm]
  have em:xs.toList[(lo+hi)/2]? =some (xs[(lo+hi)/2]):=by simp[hm]
  simp only[ed];split;rename_i hv;refine WN R _ _ _ (by omega) h2 (by omega) (λi v hi' e=>?_) b;by_cases q:i=(lo+hi)/2;subst q;rw[em]at e;cases e;exact hv;exact yo (PQ R (show i<(lo+hi)/2 by exact lw (fg hi') q) e em) hv;rename_i hv;refine WN R _ _ _ (by omega) (li hm) (by omega) a λi v hi' e=>?_;by_cases q:i=(lo+hi)/2;subst q;rw[em]at e;cases e;exact cj hv
  have:=PQ R (show(lo+hi)/2<i by lia) em e
  lia
  rw[if_neg A0]
  have e:lo=hi:=by lia
  subst e;exact⟨h2,a,b⟩
def WO(R:IX xs.toList):Below xs j (jt xs j) :=
 WN R _ _ _ (bv _) (υ _) (υ _) (λz z h=>absurd h<|jx _) λi v h e=>by
  rw[bt (h)]at e;cases e
def Below.uniq(a:Below xs j r)(b:Below xs j r'):r=r':=by
 rcases Nat.lt_trichotomy r r' with h|h|h
 have hs:=ψ h b.le
 have e:xs.toList[r]? =some (xs[r]):=by simp[hs]
 have:=b.lo _ _ h e
 have:=a.hi _ _ (υ _) e;omega;exact h
 have hs:=ψ h a.le
 have e:xs.toList[r']? =some (xs[r']):=by simp[hs]
 have:=a.lo _ _ h e
 have:=b.hi _ _ (υ _) e;omega
def NotIn(t:SetTable)(j:Nat):Prop:=t.place[jt t.place j]? ≠some j
def zau(h:t.slot j=.empty):NotIn t j:=λe=>by
 unfold Ma at h;simp only[e,beq_self_eq_true]at h;cases h
def zav(h:t.slot j=.dummy):NotIn t j:=λe=>by
 unfold Ma at h;simp only[e,beq_self_eq_true]at h;cases h
def mT(t:SetTable)(p:Li):(t.advance p).dummy=p.dummy:=by
 unfold SetTable.advance;split<;>rfl
theorem WP:∀ (fuel:Nat) (p:Li) (j:Nat) (d:Option Nat),Eu t f h fuel p=some (.empty j d)->(∀ x,p.dummy=some x->NotIn t x)->NotIn t (d.getD j)
 |0,p,j,d,e,_=>by cases e
 |fuel+1,p,j,d,e,hd=>by
  unfold Eu at e;split at e;rename_i hs;cases e;cases q:p.dummy with
  |none=>exact zau hs
  |some x=>exact hd x q
  rename_i hs;refine WP _ _ j d e λx hx=>?_;rw[mT]at hx;obtain rfl:=μ hx;exact zav hs;split at e;cases e;exact WP _ _ j d e λx hx=>by rw[mT]at hx;exact hd x hx
set_option tactic.hygienic true in
def zaw(e:t.freeSlot h=some (s,b)):NotIn t s:=by
 unfold SetTable.freeSlot at e;split at e
 ·rename_i j d hp;cases e;refine WP _ _ _ _ hp λx hx=>?_;cases hx
 ·cases e
def zax(n:Nat):IX (Array.range n).toList:=by
 rw[Array.toList_range];exact ig
def zay{t:SetTable}(R:IX t.place.toList)(h:NotIn t j):IX (t.put j).1.place.toList:=by
 have b:=WO (j:=j) R
 show IX (SetTable.insertAt _ _ j).toList;rw[SetTable.toList_insertAt]
 have hlo:∀ v∈t.place.toList.take (jt t.place j),v<j:=λv hv=>by
  obtain⟨i,hi,e⟩:=ik hv;refine b.lo i v (by rw[ce]at hi;lia) ?_;rw[<-e];simp only[E_];exact η _
 have hhi:∀ v∈t.place.toList.drop _,j<v:=λv hv=>by
  obtain⟨i,hi,e⟩:=ik hv
  have e2:t.place.toList[jt t.place j+i]? =some v:=by
   rw[<-Cr,η hi,e]
  by_cases q:j=v;subst q
  have z:i=0:=by
   by_cases z:i=0;exact z
   have hl:jt t.place j<t.place.toList.length:=by
    rw[jn]at hi;lia
   have e3:=η hl
   have:=b.hi _ _ (υ _) e3
   have:=PQ R (show jt _ j<jt _ j+i by lia) e3 e2
   lia
  subst z;rw[jw]at e2;exact absurd e2 h;exact lw (b.hi _ _ (yb _ _) e2) q
 refine zx.mpr {R.sublist<|Do ..,lx.mpr {hhi,R.sublist<|List.drop_sublist ..},λx hx y hy=>?_};rcases aj.mp hy with rfl|hy
 exact hlo x hx;exact yo (hlo x hx) (hhi y hy)
structure Led(led:Bool)(t:SetTable):Prop where
 rise:IX t.place.toList
 led:t.led=led
def Led.standIn{led:Bool}{t:SetTable}(h:t.led=led)(n:Nat):Led led (t.standIn n):={zax n,h}
def Led.or{led:Bool}{t:SetTable}(h:Led led t)(n:Nat):Led led (t.orStandIn n):=by
 unfold SetTable.orStandIn;split;exact h;exact .standIn h.led n
set_option tactic.hygienic true in
def Led.layNew{led:Bool}{t:SetTable}(L:Led led t)(es:Array (Int × Value))(h:Int)(x:Value):Led led (layNew t es h x).2.1:=by
 unfold PySem.layNew;split
 ·rename_i slot b e;exact Led.or {zay L.rise<|zaw e,L.led} _
 ·exact .standIn L.led _
def zaz(owner:Array (Option Nat))(m:Nat):IX (((ν m).filterMap λj=>(owner.getD j none).map (j,·)).map (·.1)):=by
 rw[List.map_filterMap];refine(ig ).filterMap _ λa b hab x hx y hy=>?_;simp only[zy,aa]at hx hy;obtain⟨z,z,rfl⟩:=hy;obtain⟨z,z,rfl⟩:=hx;exact hab
set_option tactic.hygienic true in
def Led.relayAll{led:Bool}{t:SetTable}(h:t.led=led)(L:Led led t)(es:Array (Int × Value))(wanted:Nat):Led led (Fa t es wanted).2.1:=by
 unfold PySem.relayAll;split
 ·rename_i t' order e;dsimp only;split
  ·unfold SetTable.relaid SetTable.laid at e;simp only[Option.bind_eq_bind,yc,Option.pure_def,xl,Prod.mk.injEq]at e;obtain⟨owner,_,rfl,_⟩:=e;exact{by simpa using zaz owner _,h}
  ·exact .standIn h _
 ·exact .standIn h _
def Led.plainOff{led:Bool}{t:SetTable}(L:Led led t):Led led { t with plain:=false }:=⟨L.rise,L.led⟩
def Led.fresh(led:Bool):Led led (.fresh 0 0 led):=⟨Ee,rfl⟩
def PR(xs:Array Nat):Nat->Nat
 |0=>0
 |i+1=>xs.getD i 0+1
def za0{xs:Array Nat}(R:IX xs.toList):∀ {i:Nat},i<=xs.size->jt xs (PR xs i)=i
 |0,_=>(WO R).uniq {bv _,λ_ _ h=>absurd h<|jx _,λ_ _ _ _=>bv _}
 |i+1,hi=>(WO R).uniq ⟨hi,λk v hk e=>by
   have hi':i<xs.size:=hi
   have ed:xs.getD i 0=xs[i]:=by simp[hi']
   have ei:xs.toList[i]? =some xs[i]:=by simp[hi']
   show v<xs.getD i 0+1;rw[ed];by_cases q:k=i;subst q;rw[ei]at e;obtain rfl:=μ e;exact fj _;exact cu (PQ R (show k<i by exact lw (fg hk) q) e ei),λk v hk e=>by
   have hi':i<xs.size:=hi;exact PQ R (show i<k by exact hk) (by simp[hi']) e⟩
theorem mU{α :Type}(next:Nat->Nat):∀ (fuel k:Nat) (left:List α) (out:Array α),left.length=fuel->oa (Fe next fuel k left out).toList (out.toList++left)
 |0,k,left,out,h=>by
  rw[ff.mp h];unfold Fe;simp
 |fuel+1,k,left,out,h=>by
  have hl:next k%left.length<left.length:=sr _ (by lia);unfold Fe;rw[η hl];refine(mU _ _ _ _ _ (by rw[wk hl];lia)).trans ?_;rw[Ff,dw];refine List.Perm.append_left _ ?_;rw[ko]
  show oa (left[next k%left.length]::(left.take _++left.drop _)) _;refine Hr.symm.trans ?_;rw[<-io hl,iu]
def za1{α :Type}(next:Nat->Nat)(xs:Array α):oa (M_ next xs).toList xs.toList:=(mU _ _ 0 _ _<|rfl)
end L2
namespace L2
open PySem PyProof.Rows
def leads(w:World):Bool:= !w.params.followText "set-order"
def iv:Value->Int
 |.int n _=>n
 |_=>0
def IntSet(P:bw)(w:World)(h:Heap)(a:Addr)(ms:sZ):Prop :=
 ∃ (o:Obj) (es:Array (Int × Value)) (ep:Nat) (t:SetTable),h.get? a=some o/\o.ExactSet/\o.data=.set es ep t/\Au (kq P w) es.toList /\
  oa (es.toList.map λe=>iv e.2) ms/\es.size<wa/\t.fits es.size=true/\Led (leads w) t
section
variable{P:bw}{w:World}{A:dk}{E:tQ}{s:ξ}
def WQ(h:Au (kq P w) es)(he:e∈es):∃ t,e.2=.int (iv e.2) t:=by
 obtain⟨⟨k,hk,y⟩,y⟩:=h e he;obtain⟨t,z⟩:=tj hk;exact{t,by rw[z];rfl}
def mV(h:Au (kq P w) es)(he:e∈es):(kq P w).is k e.2=true↔iv e.2=k:=by
 obtain⟨t,z⟩:=WQ h he;rw[z];refine{λq=>?_,λq=>?_}
 have q':Ip k (.int _ t)=true:=q;obtain⟨t',z'⟩:=tj q';cases z';rfl;rw[<-q];exact Ln ..
def mW(h:Au (kq P w) es)(p:oa (es.map λe=>iv e.2) ms)(k:Int):k∈ms↔∃ e∈es,(kq P w).is k e.2=true:=by
 rw[<-p.mem_iff,av];exact{λ⟨e,he,q⟩=>{e,he,(mV h he).mpr q},(by rintro ⟨e,he,q⟩;exact{e,he,(mV h he).mp q})}
def mX{h:Heap}{o:Obj}{es es':Array (Int × Value)}{t t':SetTable}(ho:h.get? a=some o)(hex:o.ExactSet)(hd:o.data=.set es ep t)
  (hel:Au (kq P w) es'.toList) (hp:oa (es'.toList.map λe=>iv e.2) ms) (hb:es'.size<wa) (hf:t'.fits es'.size=true) (L:Led (leads w) t') :
  (h.update a<|Lo es' t').get? a=some { o with data:=.set es' (ep+1) t' }/\IntSet P w (h.update a<|Lo es' t') a ms:=by
 have g:=(SetOf_store   ho hex hd hel (λk=>by rw[dq]) hb hf).1;exact{g,x4 _ _ _ t' ⟨g,hex,rfl,hel,hp,hb,hf,L⟩}
def mY{g:Bool->Sem Unit}(hg:∀ (b:Bool) (s1:ξ) (R:Unit->ξ->Prop),R () s1->wpAny (model P w) A (g b) R E s1){o:Obj}{es e1:Array (Int × Value)}{t t1:SetTable}
  (ho:s.heap.get? a=some o) (hex:o.ExactSet) (hd:o.data=.set es ep t) (hel:Au (kq P w) e1.toList) (hp:oa (e1.toList.map λe=>iv e.2) ms) (hb:e1.size<wa) (hf:t1.fits e1.size=true) (L:Led (leads w) t1)
  {R:Option Bool->ξ->Prop} (h:∀ h',gj a s.heap h'->IntSet P w h' a ms->R (some true) { s with heap:=h' }) :
  wpAny (model P w) A (do
   storeSet a e1 t1
   if(!wd&&t1.tooFull)=true then do
    g (Fa t1 e1<|nu e1.size).2.2
    storeSet a (Fa t1 e1<|nu e1.size).1 (Fa t1 e1<|nu e1.size).2.1
    pure (some true)
   else pure (some true)) R E s:=by
 refine δ<|Fi ho hd ?_<|xm hb
 have sb1:=e_ s.heap a<|Lo e1 t1;obtain⟨g1,S1⟩:=mX ho hex hd hel hp hb hf L;split
 have p2:=relayAll_perm t1 e1<|nu e1.size
 have f2:=relayAll_fits t1 e1<|nu e1.size
 have L2:=Led.relayAll L.led L e1<|nu e1.size;revert p2 f2 L2;generalize Fa t1 e1 _=r;obtain⟨e2,t2,gv⟩:=r;intro p2 f2 L2
 have z2:e2.size=e1.size:=by rw[<-cy,p2.length_eq,cy]
 have b2:=z2 ▸ hb;refine δ<|hg _ _ _<|δ<|Fi g1 rfl ?_<|xm b2;obtain⟨z,S2⟩:=mX   g1 hex rfl (hel.perm p2) ((p2.map _).trans hp) b2 f2 L2;exact π<|h _ (sb1.trans<|e_ ..) S2;exact π<|h _ sb1 S1
def mZ{ms:sZ}(h:k∈ms):wm ms k=ms:=by
 unfold wm
 have e:(ms.any λx=>x==k)=true:=dq.mpr {k,h,beq_self_eq_true k};rw[if_pos e]
def m7{ms:sZ}{k:Int}(h:¬ k∈ms):wm ms k=ms++[k]:=by
 unfold wm;rw[if_neg λz=>?_];obtain⟨x,hx,q⟩:=dq.mp z;rw[beq_iff_eq]at q;exact h<|q ▸ hx
def za2{ms:sZ}{Q:Bool->ξ->Prop}(hS:IntSet P w s.heap a ms)(hr:ms.length+1<wa)
    (h:∀ (b:Bool) h',gj a s.heap h'->IntSet P w h' a (wm ms k)->Q b { s with heap:=h' }):wpAny (model P w) A (setAddHashed a (.int k tk) ((kq P w).hash k)) Q E s:=by
  have hk:(kq P w).is k (.int k tk)=true:=Ln ..
  have hsc:(uj k tk).scannable=true:=rfl;generalize uj k tk=x at hk hsc;revert hS;apply u4;rintro o es ep t ⟨ho,hex,hd,hel,hp,hb,hf,L⟩
  have CG:es.size=ms.length:=by rw[<-hp.length_eq,ζ,cy]
  have hivx:iv x=k:=by obtain⟨_,z⟩:=tj hk;rw[z];rfl
  refine fm<|δ<|ka ho hd hf ?_;dsimp only;rw[byScan_of hsc hb hel];refine δ<|δ<|sj<|δ<|wpAny_setScan_of hk ho hd hf hel ?_;cases hx:es.toList.findIdx? (λe=>(kq P w).is k _)with
  |some j =>
    obtain⟨hj,pj,_⟩:=tf.mp hx;refine π<|π ?_;exact(h _ _ (xn a _) (x4 o es ep t {ho,hex,hd,hel,by rw[mZ ((mW hel hp k).mpr {_,og hj,pj})];exact hp,hb,hf,L}))
  | none =>
    have hm:¬ k∈ms:=λz=>by
      obtain⟨e,he,q⟩:=(mW hel hp k).mp z
      have:=List.findIdx?_eq_none_iff.mp hx e he;rw[q]at this;cases this
    have p1:=layNew_perm t es ((kq P w).hash k) x
    have f1:=layNew_fits t es ((kq P w).hash k) x
    have L1:=L.layNew es ((kq P w).hash k) x;revert p1 f1 L1;generalize layNew t es _ x=r;obtain⟨e1,t1,wd,gv⟩:=r;intro p1 f1 L1;dsimp only at p1 f1 L1 ⊢;rw[Ff]at p1
    have hel1:=(hel.push hk hsc).perm p1
    have OG:oa (e1.toList.map λe=>iv e.2) (wm ms k):=by
      rw[m7 hm];refine(p1.map _).trans ?_;rw[ai,dg,yq,hivx];exact List.Perm.append_right _ hp
    have hb1:e1.size<wa:=by
      rw[<-cy,p1.length_eq,af,cy,CG];exact hr
    have gw:∀ (b:Bool) (s1:ξ) (R:Unit->ξ->Prop),R () s1 ->
        wpAny (model P w) A (match b with
          |true=>rule "set.scan.the-table-gave-way"
          |false=>pure ()) R E s1:=λb s1 R q=>by
      cases b
      ·exact π q
      ·exact sj q
    refine δ<|gw _ _ _ ?_;split;refine δ ?_;rw[hashByValue_scannable 8 hsc];refine π<|mY ?_ ho hex hd hel1 OG hb1 ?_ ?_ λh' sb S'=>?_;intro b s1 R q;cases b;exact π q;exact sj q;split;exact f1;exact SetTable.fits_plain_off f1;split;exact L1;exact L1.plainOff;exact π<|h _ h' sb S';refine mY ?_ ho hex hd hel1 OG hb1 f1 L1 λh' sb S'=>?_;intro b s1 R q;cases b;exact π q;exact sj q;exact π<|h _ h' sb S'
def IntSet.at(x:IntSet P w h a ms)(k:∀ o,h.get? a=some o->h'.get? a=some o):IntSet P w h' a ms:=by
 revert x;apply u4;rintro o es ep t ⟨ho,r⟩;exact x4 o es ep t {k _ ho,r}
end
section
variable{P:bw}{w:World}{A:dk}{R:Result->ξ->Prop}{I:Addr}{fp wr:tW}{G:Array Df->Array Df->Prop}{n:Nat}{T:Nat->Value->Prop}{St:Nat->ξ->Prop}
def za3(W:WalksS P w A.in1 I fp wr G n T St)(a:Addr)(ha:a∉fp)(val:Nat->Int)(hv:∀ i v,T i v->∃ t,v=.int (val i) t)(hb:n+1<wa):∀ (k i:Nat) (s:ξ),n-i=k->i<=n->St i s ->
  IntSet P w s.heap a (wn val i)->(∀ s',Moved (a::wr) G s s'->IntSet P w s'.heap a (wn val n)->R (.ok<|.ret .none) s') ->
  uw (model P w) A (.builtin "set.update.loop" {[.ref a,.ref I],[]}) R s:=by
 have up:∀ b∈wr,b∈a::wr:=λb q=>ρ _ q
 have haw:=λz=>ha<|W.sub _ z;intro k
 induction k with
 |zero =>
  intro i s e1 e2 st S q;obtain rfl:i=n:=by lia
  exact mh ph<|δ<|W.done s _ _ st λs' m=>(π<|q s' (m.mono up) (S.at λo e=>m.heap a o haw e))
 |succ k ih =>
  intro i s e1 e2 st S q
  have hi:i<n:=by omega
  refine mh ph ?_;refine δ<|W.item i s _ _ hi st λv s1 tv st1 m=>?_;obtain⟨t,rfl⟩:=hv i v tv
  show wpAny _ A.in1 (tq [uj (val i) t] (setAdd a<|.int (val i) t)>>=_) _ _ s1;refine δ<|fm ?_;refine fm (δ ((kq P w).pyHash (k:=val i) (Ln ..) (za2 (s:={ s1 with toks:=s1.toks+1 }) (S.at λo e=>m.heap a o haw e) (by have:=wo val i;lia) λb h' sb S2=>?_)));rw[<-firstMet_succ]at S2;refine π {xv Be _,ih (i+1) _ (by omega) hi (W.frame _ s1 _ _ st1 (jm _) λb hb o e=>?_) S2 λs2 m2 S3=>?_};rw[sb.2 b λz:b=a=>ha<|z ▸ hb];exact e
  ·refine q s2 (Moved.trans W.gtrans ((m.mono up).then_heap (jm _) λb o hb e=>?_) m2) S3;rw[sb.2 b λz:b=a=>hb<|z ▸ χ];exact e
end
section
variable{P:bw}{w:World}{A:dk}{E:tQ}{s:ξ}
def za4(h:Q (.ref s.heap.objs.size) { s with heap:=s.heap.push { cls:=.type "set",dict:=none,data:=.set #[] 0 (.fresh 0 0<|leads w) } }) :
  uw (model P w) A (.call (.builtin "set.__new__") {[.type "set",x],[]}) (wants Q E) s:=by
 refine codeAny_of_tree<|δ<|Iw (PySem.F.newCall_set_1 x) (π {xv PySem.F.plain_set_new _,mh PySem.F.entry_set_new ?_})
 have e:=sub_set_self
 wp_walk
 refine ky<|π ?_;exact δ<|wpAny_alloc<|π<|π h
end
end L2
namespace L2
open PySem PyProof.Rows
abbrev J1(f:Value)(i:Nat)(a:Addr)(n ep:Nat):Obj:={ cls:=.type "set_iterator",dict:=none,data:=.fields #[f,lu i,.ref a,lu n,lu ep],slots:= #[] }
def HW:Slot "set_iterator" "__next__" "set_iterator.__next__" :=
 .of (owner:="set_iterator") (n:="__next__") (by kernel_rfl) (by decide) (by decide) (by decide)
  (by first|exact .inl (by decide)|exact .inr (by decide))
  (by kernel_rfl)
def SG:entryFor table "set_iterator.__next__"=some vt.«set_iterator.__next__» :=entryFor_of_fast (by kernel_rfl)
def SH(a:Value):argsOk "set_iterator.__next__" {[a],[]}:=by
 kernel_rfl
def m8:Slot "set_iterator" "__iter__" "set_iterator.__iter__" :=
 .of (owner:="set_iterator") (n:="__iter__") (by kernel_rfl) (by decide) (by decide) (by decide)
  (by first|exact .inl (by decide)|exact .inr (by decide))
  (by kernel_rfl)
section
variable{P:bw}{w:World}{A:dk}{E:tQ}{s:ξ}
def za5{it a:Addr}{sl i n ep nx:Nat}{x:Value}{o:Obj}{es:Array (Int × Value)}{ep':Nat}{t:SetTable}{Q:Option Value->ξ->Prop}(hit:s.heap.get? it=some (J1 (lu sl) i a n ep))
  (ho:s.heap.get? a=some o) (hd:o.data=.set es ep' t) (hf:t.fits es.size=true) (hn:es.size=n)
  (hs:∀ (A':dk) (E':tQ) (Q':Option (Value × Nat)->ξ->Prop),Q' (some (x,nx)) s->wpAny (model P w) A' (Fn a sl i ep) Q' E' s)
  (q:∀ h',h'.get? it=some (J1 (lu nx) (i+1) a n ep)->gj it s.heap h'->Q (some x) { s with heap:=h' }):wpAny (model P w) A (zi<|.ref it) Q E s:=by
 have T:s.TypeIs (.ref it) _:=⟨_,hit,rfl⟩
 refine δ<|kh<|fe  T HW (fq HW T SG (δ<|π<|δ<|wp hit rfl<|δ<|kx ho hd hf ?_) (SH _));rw[if_neg (by rw[hn];simp)];exact δ (hs _ _ _ (δ (ju hit (by simp) λh1 g1 b1=>(δ (ju g1 (by simp) λh2 g2 b2=>(π {_,rfl,π<|q h2 g2<|b1.trans b2}))))))
def m9{Q:Except Value (Option Value)->ξ->Prop}(hh:A.handled=none)(hx:nr it s.heap h1)
  (q:∀ h' e,nr it s.heap h'->({ s with heap:=h' }:ξ).TypeIs e "StopIteration"->Q (.error e) { s with heap:=h' }) :
  wpAny (model P w) A (newExc (.type "StopIteration") []>>=raiseNew (α :=Fin)) (λz z=>False) (λe=>Q<|.error e) { s with heap:=h1 }:=by
 refine δ (δ (fz (δ  (Iw  (by first|rfl|(rfl)) (fz (δ<|wpAny_handled ?_) (by size_fits)))) (by size_fits)));rw[hh];refine δ<|π<|wpAny_throw ?_;exact q _ _ ((hx.push _).push _) {_,aw _ rfl,rfl}
def za6{it a:Addr}{sl i n ep:Nat}{o:Obj}{es:Array (Int × Value)}{ep':Nat}{t:SetTable}{Q:Option Value->ξ->Prop}(hh:A.handled=none)(hit:s.heap.get? it=some (J1 (lu sl) i a n ep))
  (ho:s.heap.get? a=some o) (hd:o.data=.set es ep' t) (hf:t.fits es.size=true) (hn:es.size=n)
  (hs:∀ (A':dk) (E':tQ) (Q':Option (Value × Nat)->ξ->Prop),Q' none s->wpAny (model P w) A' (Fn a sl i ep) Q' E' s)
  (q:∀ h',nr it s.heap h'->Q none { s with heap:=h' }):wpAny (model P w) A (zi<|.ref it) Q E s:=by
 have T:s.TypeIs (.ref it) _:=⟨_,hit,rfl⟩
 refine δ<|kh<|fe  T HW (fq HW T SG (δ<|π<|δ<|wp hit rfl<|δ<|kx ho hd hf ?_) (SH _));rw[if_neg (by rw[hn];simp)];refine δ (hs _ _ _ (δ (ju hit (by simp) λh1 g1 b1=>?_)));exact lj (m9    (Q:=λr s'=>match r with
  |.error e=>wpAny _ A (Le e _>>=λb=>if b=true then pure _ else throw e) Q E s'
  |_=>False) (hh) b1.extBut λh' e hx te=>(δ<|om   te z_ (π<|q _ hx))) (λ_ _ z=>z.elim) (λe s' z=>z)
def za7{it a tp:Addr}{i n ep pl:Nat}{ot:Obj}{ps:Array Value}{k:Nat}{x:Int × Value}{o:Obj}{es:Array (Int × Value)}{t:SetTable}{Q:Option Value->ξ->Prop}(hit:s.heap.get? it=some (J1 (.ref tp) i a n ep))
  (ho:s.heap.get? a=some o) (hd:o.data=.set es ep t) (hf:t.fits es.size=true) (hn:es.size=n) (ht:s.heap.get? tp=some ot) (hdt:ot.data=.seq ps k) (hp:ps[i]? =some (lu pl)) (hx:es[pl]? =some x)
  (q:∀ h',h'.get? it=some (J1 (.ref tp) (i+1) a n ep)->gj it s.heap h'->Q (some x.2) { s with heap:=h' }):wpAny (model P w) A (zi<|.ref it) Q E s:=by
 have T:s.TypeIs (.ref it) _:=⟨_,hit,rfl⟩
 refine δ<|kh<|fe  T HW (fq HW T SG (δ<|π<|δ<|wp hit rfl<|δ<|kx ho hd hf ?_) (SH _));rw[if_neg (by rw[hn];simp)];refine δ<|zw ht hdt ?_;dsimp only;rw[b_,hp]
 show wpAny _ _ (setNextDrawn a _ _>>=_) _ _ s;rw[b_];refine δ<|δ<|ka ho hd hf ?_;dsimp only;rw[if_neg (by simp),hx];exact π (δ (ju hit (by simp) λh2 g2 b2=>(π {_,rfl,π<|q h2 g2 b2})))
def za8{ot:Obj}{o:Obj}{es:Array (Int × Value)}{t:SetTable}{Q:Option Value->ξ->Prop}(hh:A.handled=none)(hit:s.heap.get? it=some (J1 (.ref tp) i a n ep))
  (ho:s.heap.get? a=some o) (hd:o.data=.set es ep t) (hf:t.fits es.size=true) (hn:es.size=n) (ht:s.heap.get? tp=some ot) (hdt:ot.data=.seq ps k) (hp:ps[i]? =none)
  (q:∀ h',nr it s.heap h'->Q none { s with heap:=h' }):wpAny (model P w) A (zi<|.ref it) Q E s:=by
 have T:s.TypeIs (.ref it) _:=⟨_,hit,rfl⟩
 refine δ<|kh<|fe  T HW (fq HW T SG (δ<|π<|δ<|wp hit rfl<|δ<|kx ho hd hf ?_) (SH _));rw[if_neg (by rw[hn];simp)];refine δ<|zw ht hdt ?_;dsimp only;rw[b_,hp];refine δ (ju hit (by simp) λh1 g1 b1=>(δ (ju g1 (by simp) λh2 g2 b2=>?_)));exact lj (m9 (s:=s)   (Q:=λr s'=>match r with
  |.error e=>wpAny _ A (Le e _>>=λb=>if b=true then pure _ else throw e) Q E s'
  |_=>False) (hh) (b1.trans b2).extBut λh' e hx te=>(δ<|om   te z_ (π<|q _ hx))) (λ_ _ z=>z.elim) (λe s' z=>z)
def za9(ft:w.params.followText "set-order"=true)(ho:s.heap.get? a=some o)(hd:o.data=.set es ep t)(hf:t.fits es.size=true)
  (q:Q (((M_ (w.params.setOrder a ep) es)[i]?).map λe=>(e.2,0)) s):wpAny (model P w) A (Fn a 0 i ep) Q E s:=by
 refine δ<|ka ho hd hf<|δ<|δ<|ky<|π ?_
 show wpAny _ _ (if w.params.followText _=true then _ else _) _ _ s;rw[if_pos ft,if_neg (by simp)];refine δ<|δ<|ka ho hd hf<|δ<|δ<|ky<|π ?_
 show wpAny _ _ (if w.params.followText _=true then _ else _) _ _ s;rw[if_pos ft];exact δ<|ky<|π<|π q
def zba(ft:w.params.followText "set-order"=false)(ho:s.heap.get? a=some o)(hd:o.data=.set es ep t)(hf:t.fits es.size=true)
  (L:Led (leads w) t) (pl:(!t.plain&&decide (es.size > 1))=false) (hi:i<=es.size) (q:Q ((es[i]?).map λe=>(e.2,PR t.place<|i+1)) s):wpAny (model P w) A (Fn a (PR t.place i) i ep) Q E s:=by
 have hz:t.place.size=es.size:=by
  unfold SetTable.fits at hf;simp only[cb,beq_iff_eq]at hf;exact hf.1
 refine δ<|ka ho hd hf<|δ<|δ<|ky<|π ?_
 show wpAny _ _ (if w.params.followText _=true then _ else _) _ _ s
 have ld:t.led=true:=by rw[L.led];unfold leads;rw[ft];rfl
 rw[if_neg (show ¬ w.params.followText _=true by rw[ft];exact ax)]
 show wpAny _ _ (if(!t.plain&&decide _)=true then _ else _) _ _ s;rw[if_neg (by rw[pl];exact ax)];refine δ (m:=if(!t.led && !es.isEmpty)=true then _ else _) ?_;rw[if_neg (by rw[ld];simp)];refine π<|π ?_;rw[za0 L.rise (ω hi<|bh hz.symm)];by_cases A0:i<es.size
 have h2:=hz ▸ A0;rw[dr _,dr h2];rw[dr A0]at q
 have:PR t.place (i+1)=t.place[i]+1:=by simp[PR,h2]
 rw[this]at q;exact q;rw[yr (cj A0)];rw[yr (cj A0)]at q;exact q
end
end L2
namespace L2
open PySem PyProof.Rows
def zbb:entryFor table "set.__iter__"=some vt.«frozenset.__iter__» :=entryFor_alias (id':="frozenset.__iter__") (by kernel_rfl) rfl (by decide +kernel) (by kernel_rfl)
def zbc:entryFor table "set_iterator.__iter__"=some vt.«dict_keyiterator.__iter__» :=entryFor_alias (id':="dict_keyiterator.__iter__") (by kernel_rfl) rfl (by decide +kernel) (by kernel_rfl)
def zbd(a:Value):argsOk "set_iterator.__iter__" {[a],[]}:=by
 kernel_rfl
structure WR(P:bw)(w:World)(A:dk)(h h1:Heap)(a I:Addr)(ms:sZ):Prop where
 ex:∃ (fp:tW) (ord:sV) (ks:sZ) (St:Nat->Heap->Prop),(∀ b∈fp,b=a\/h.objs.size<=b)/\Walks P w A I fp [I] ord.length (λi v=>ord[i]? =some v) St/\St 0 h1/\qz ord ks/\ks.Perm ms
 new:h.objs.size<=I
section
variable{P:bw}{w:World}{A:dk}{E:tQ}{s:ξ}
theorem WS:∀ {es:List (Int × Value)},Au (kq P w) es->qz (es.map (·.2)) (es.map λe=>iv e.2)
 | [],_=>.nil
 |e::r,h=>by
  obtain⟨t,z⟩:=WQ h<|χ ..;rw[dg,z];exact .cons _ _<|WS h.tail
def nB(hit:s.heap.get? it=some (J1 f i a n ep))(q:Q (.ref it) s):wpAny (model P w) A (Gi<|.ref it) Q E s:=by
 have T:s.TypeIs (.ref it) _:=⟨_,hit,rfl⟩
 exact Fo T m8<|fq m8 T zbc (π {_,rfl,x2 _ _ ⟨T,HW.lookup,q⟩}) (zbd _)
def zbe{es:Array (Int × Value)}{t:SetTable}{o:Obj}{f:Nat->Nat}{ord:sV}(hh:A.handled=none)(hne:a≠I)(hd:o.data=.set es ep t)(hf:t.fits es.size=true)(hl:ord.length=es.size)
  (nx:∀ (s:ξ),s.heap.get? a=some o->∀ (i:Nat),i<=es.size->∀ (A':dk) (E':tQ) (Q':Option (Value × Nat)->ξ->Prop),Q' ((ord[i]?).map λv=>(v,f<|i+1)) s->wpAny (model P w) A' (Fn a (f i) i ep) Q' E' s) :
  Walks P w A I [I,a] [I] ord.length (λi v=>ord[i]? =some v) (λi h=>h.get? I=some (J1 (lu<|f i) i a es.size ep)/\h.get? a=some o) where
 sub:=λb hb=>by simp at hb;simp[hb]
 frame:=λj j j st k=>{k I (by simp) _ st.1,k a (by simp) _ st.2}
 item:=λi s Q E hi st q=>by
  have e:=η hi;exact za5 st.1 st.2 hd hf rfl (λA' E' Q' q'=>nx s st.2 i (by lia) A' E' Q' (by rw[e];exact q')) λh' g b=>(q _ h' _ e {g,b.extBut a _ hne st.2} λc u hc z=>b.extBut c u (λy=>hc (by simp[y])) z)
 done:=λs Q E st q=>za6 hh st.1 st.2 hd hf rfl (λA' E' Q' q'=>nx s st.2 _ (bh hl) A' E' Q' (by rw[bt (υ _)];exact q')) λh' x=>(q h' _ λc u hc z=>x c u (λy=>hc (by simp[y])) z)
 self:=λj j j j st q=>nB st.1 q
def zbf{es:Array (Int × Value)}{t:SetTable}{o ot:Obj}{pl:t3}{ord:sV}(hh:A.handled=none)(hne:a≠I)(hnt:tp≠I)(hd:o.data=.set es ep t)(hf:t.fits es.size=true)
  (hdt:ot.data=.seq (pl.map λ(i:Nat)=>lu i).toArray k) (hl:ord.length=pl.length) (hx:∀ (i p:Nat),pl[i]? =some p->∃ e:Int × Value,es[p]? =some e/\ord[i]? =some e.2) :
  Walks P w A I [I,a,tp] [I] ord.length (λi v=>ord[i]? =some v) (λi h=>h.get? I=some (J1 (.ref tp) i a es.size ep)/\h.get? a=some o/\h.get? tp=some ot) where
 sub:=λb hb=>by simp at hb;simp[hb]
 frame:=λj j j st k=>{k I (by simp) _ st.1,k a (by simp) _ st.2.1,k tp (by simp) _ st.2.2}
 item:=λi s Q E hi st q=>by
  have e:=η<|hl ▸ hi;obtain⟨x,e1,e2⟩:=hx i _ e;exact za7 st.1 st.2.1 hd hf rfl st.2.2 hdt (by rw[zg,τ,e];rfl) e1 λh' g b=>(q _ h' _ e2 {g,b.extBut a _ hne st.2.1,b.extBut tp _ hnt st.2.2} λc u hc z=>b.extBut c u (λy=>hc (by simp[y])) z)
 done:=λs Q E st q=>za8 hh st.1 st.2.1 hd hf rfl st.2.2 hdt (by rw[zg,τ,bt<|bh hl.symm];rfl) λh' x=>(q h' _ λc u hc z=>x c u (λy=>hc (by simp[y])) z)
 self:=λj j j j st q=>nB st.1 q
def zbg(hn:n≠0)(q:∀ i d,i<n->Q i { s with drawn:=d }):wpAny (model P w) A (choose .order n) Q E s:=fun Γ p hΓ =>{hn,(q _ _<|sr _<|ss hn)}
theorem nD{α :Type}:∀ (n:Nat) (xs:List α) (s:ξ) (Q:List α ->ξ->Prop),xs.length=n->(∀ ys d,oa ys xs->Q ys { s with drawn:=d })->wpAny (model P w) A (drawOrder n xs) Q E s
 |0,xs,s,Q,hn,q=>by
  have  :=ff.mp hn;subst this;exact π<|q [] _ .nil
 |n+1,[],s,Q,hn,q=>by cases hn
 |n+1,x::r,s,Q,hn,q=>by
  refine δ (zbg (by simp) λi d hi=>?_);rw[η hi];refine δ (nD n _ _ _ (by rw[wk hi,hn];rfl) λys d' p=>(π<|q _ d'<|(List.Perm.cons _ p).trans ?_));rw[ko];refine Hr.symm.trans ?_;rw[<-io hi,iu]
def zbh{Q:tQ}(hh:A.handled=none)(S:IntSet P w s.heap a ms)
    (q:∀ I h1 d1,(∀ b o,s.heap.get? b=some o->h1.get? b=some o)->WR P w A s.heap h1 a I ms->Q (.ref I) { s with heap:=h1,drawn:=d1 }):wpAny (model P w) A (Gi<|.ref a) Q E s:=by
  revert S;apply u4;rintro o es ep t ⟨ho,hex,hd,hel,hp,hb,hf,L⟩
  have T:s.TypeIs (.ref a) _:=⟨o,ho,hex.1⟩
  have A0:=au ho;refine Fo T PySem.F.slot_set_iter<|fq PySem.F.slot_set_iter T zbb (δ<|π<|δ<|δ<|kx ho hd hf<|π<|δ<|δ<|ka ho hd hf<|δ<|δ<|ky<|π<|π ?_) (PySem.F.args_set_iter_1 _)
  have plain:∀ (f:Nat->Nat) (ord:List _),f 0=0->ord.length=es.size->(∃ ks,qz _ ks/\ks.Perm ms) ->
      (∀ (s:ξ),s.heap.get? a=some o->∀ (i:Nat),i<=es.size->∀ (A':dk) (E':tQ) (Q':Option _->ξ->Prop),Q' ((ord[i]?).map _) s->wpAny _ A' (Fn a (f i) i ep) Q' E' s) ->
      WR P w A _ _ a _ ms:=λf ord f0 hl ⟨ks,hi,pk⟩ nx =>
    ⟨⟨_,_,ks,_,λb hb=>by
        simp only[aj,bx,or_false]at hb;rcases hb with rfl|rfl
        exact .inr<|υ _;exact .inl rfl,zbe hh (bd A0) hd hf hl nx,{aw _ rfl,ο _ ho},hi,pk⟩,υ _⟩
  have fin:∀ (W:WR P w A _ _ a _ ms),
      wpAny (model P w) A.in1 (do
        let first ← (pure<|lu 0)
        ret (← newFields _ [first,lu 0,.ref a,lu es.size,lu<|← setEpoch a])) (λfin s'=>∃ v,fin=.done (.ret v)/\∃ T' r,s'.TypeIs v T'/\Ks (.type T') _=pure (some r)/\Q v s') E s:=λW=>δ<|π<|δ<|Fs ho hd hf<|δ<|fz<|π {_,rfl,x2 _ _ {{_,aw _ rfl,rfl},HW.lookup,(q _ _ _ (λb u e=>ο _ e) W)}}
  show wpAny _ _ (if(!w.params.followText _&&(!t.plain&&decide _))=true then _ else _) _ _ s;cases ft:w.params.followText _ with
  |true =>
    have pk:=za1 (w.params.setOrder a ep) es
    have hl:(M_ (w.params.setOrder a ep) es).size=es.size:=by rw[<-cy,pk.length_eq,cy]
    refine fin (plain (λj=>0) _ rfl (by rw[ζ,cy,hl]) {_,WS<|hel.perm pk,(pk.map _).trans hp} λs1 h1 i hi A' E' Q' q'=>(za9 ft h1 hd hf ?_));rw[τ,jw,zy]at q';exact q'
  | false =>
    cases pl:(!t.plain&&decide (es.size > 1))with
    |false =>
      refine fin (plain _ (es.toList.map (·.2)) rfl (by rw[ζ,cy]) {_,WS hel,hp} λs1 h1 i hi A' E' Q' q'=>(zba ft h1 hd hf L pl hi ?_));rw[τ,jw,zy]at q';exact q'
    | true =>
      rw[if_pos (by simp)];refine δ<|nD es.size (ν es.size) s _ (cw) λys d p=>?_
      have hy:ys.length=es.size:=by rw[p.length_eq,cw]
      have hys:∀ x∈ys,x<es.size:=λx hx=>ak.mp<|p.mem_iff.mp hx;refine δ (wpAny_newTuple ?_ (by rw[ζ,hy];exact xm hb));refine δ<|Fs (o:=o) (ο _ ho) hd hf ?_;refine δ<|fz<|π {_,rfl,x2 "set_iterator" _ {{_,aw _ rfl,rfl},HW.lookup,?_}};refine q _ _ d (λb u e=>ο _<|ο _ e) ⟨⟨_,ys.map λp=>(es[p]?.map (·.2)).getD .none,ys.map λp=>(es[p]?.map λe=>iv e.2).getD 0,_,λb hb=>?_,
        zbf hh ?_ ?_ hd hf rfl (by rw[ζ]) λi p e=>?_,{aw _ rfl,ο _<|ο _ ho,ο _<|aw _ rfl},?_,?_⟩,?_⟩
      · simp only[aj,bx,or_false]at hb
        rcases hb with rfl|rfl|rfl
        ·right;rw[uq];exact jm _
        ·exact .inl rfl
        ·exact .inr<|υ _
      ·rw[uq];exact bd<|my A0
      ·rw[uq];exact bd<|fj _
      · have hp':p<es.size:=hys p (θ e)
        exact{es[p],dr hp',by rw[τ,e];simp[hp']}
      · have all:∀ (l:t3),(∀ x∈l,x<es.size)->qz (l.map λp=>(es[p]?.map (·.2)).getD .none) (l.map λp=>(es[p]?.map λe=>iv e.2).getD 0):=by
          intro l
          induction l with
          |nil=>exact λj=>.nil
          |cons x r ih =>
            intro hl
            have hx:=hl x<|χ ..;obtain⟨tk,z⟩:=WQ hel (e:=es[x]) (by simp)
            have e1:(es[x]?.map (·.2)).getD jp=uj (iv es[x].2) tk:=by rw[dr hx];exact z
            have e2:(es[x]?.map λe=>iv e.2).getD 0=iv es[x].2:=by rw[dr hx];rfl
            rw[dg,dg,e1,e2];exact .cons _ _<|ih λy hy=>hl y<|ρ _ hy
        exact all ys hys
      · refine(p.map _).trans (List.Perm.trans (List.Perm.of_eq ?_) hp)
        refine List.ext_getElem (by simp) λi h1 h2=>?_
        have hi:i<es.size:=by simpa using h1
        simp[hi]
      ·rw[uq];exact jm _
def zbi(T:s.TypeIs (.ref a) "set")(q:Q false s):wpAny (model P w) A (Builtin.List.listLengthHint<|.ref a) Q E s:=by
 refine δ<|vh T PySem.F.slot_set_len.lookup ?_;generalize hid:("set.__len__")=id0;subst hid;exact δ (om  (b:=true) T (by rw[isSubtype_type];kernel_rfl) (wpAny_ite_split (λz=>absurd z (by decide)) (λy=>(wpAny_ite_split (λy=>(δ<|yk T<|π q)) (λz=>absurd (by decide) z)))))
def zbj(hh:A.handled=none)(S:IntSet P w s.heap a ms)(hn:ms.length<=sizeLine)
  (q:∀ h' tk d vs ks,(∀ b o,s.heap.get? b=some o->h'.get? b=some o)->s.heap.objs.size<=h'.objs.size->qz vs ks->ks.Perm ms->R vs { s with heap:=h',toks:=tk,drawn:=d }):wpAny (model P w) A (collect<|.ref a) R E s:=by
 have A0:=let ⟨_,_,_,_,ho,_⟩:=S;au ho
 refine δ<|wpAny_runValue<|mh entry_proto_collect' ?_;refine δ<|fz<|π {xv PySem.F.plain_list_iadd _,mh entry_list_iadd' ?_}
 show wpAny _ A.in1 (Builtin.List.listExtendWith (.ref s.heap.objs.size) (.ref a) (.ref s.heap.objs.size)) _ _ _;generalize eN:s.heap.objs.size=N at A0 ⊢
 have gN:(s.heap.push { cls:=.type "list",data:=.seq ([]:sV).toArray }).get? N=some { cls:=.type "list",data:=.seq #[] }:=eN ▸ aw _ rfl
 have keep1:∀ b o,s.heap.get? b=some o->(s.heap.push { cls:=.type "list",data:=.seq ([]:sV).toArray }).get? b=some o:=λb o e=>ο _ e
 have S1:=S.at λo e=>keep1 a o e
 have big:(s.heap.push { cls:=.type "list",data:=.seq ([]:sV).toArray }).objs.size=N+1:=by rw[uq,eN]
 revert gN keep1 S1 big;generalize s.heap.push { cls:=.type "list",data:=.seq ([]:sV).toArray }=h0;intro gN keep1 S1 big
 have T1:∀ h':Heap,(∀ b o,h0.get? b=some o->h'.get? b=some o)->∀ tk d,({ s with heap:=h',toks:=tk,drawn:=d }:ξ).TypeIs (.ref a) "set":=λh' k tk d=>by
  revert S1;apply u4;rintro o x x x ⟨ho,hex,x⟩;exact{o,k _ _ ho,hex.1}
 have ne:xw (.ref N) (.ref a)=false:=by
  simp only[xw,beq_eq_false_iff_ne];exact iz A0
 refine δ<|yk (T:="set") (T1 h0 (λx x e=>e) s.toks s.drawn) ?_
 have n1:(ni "set" == ni "list")=false:=by decide
 have n2:(ni "set" == ni "tuple")=false:=by decide
 simp only[ne,n1,n2,pq,wq,if_false];refine δ (zbh (A:=A.in1) (s:={ s with heap:=h0 }) (by simpa using hh) S1 λI h1 d1 k1 W=>?_);obtain⟨⟨fp,ord,ks,St,hfp,W,st,hi,pk⟩,hI⟩:=W
 have CG:ord.length=ms.length:=by rw[Aa hi,pk.length_eq]
 have hI:=big ▸ hI;refine δ<|fm<|zbi (T1 h1 k1 s.toks d1) ?_;refine δ<|sj<|δ ?_
 have g1:=k1 _ _ gN
 have g2:=df (lq (·.push jp)) g1 rfl;refine δ (zb (s:={ s with heap:=h1,drawn:=d1 }) g1 rfl (zb (hz:=by seq_fits) g2 rfl ?_))
 have oth:∀ b o,b≠N->h1.get? b=some o->((h1.update N (lq (·.push jp))).update N (lq (·.pop))).get? b=some o:=λb o hb e =>
  (c_ _ _<|eh hb).trans ((c_ _ _<|eh hb).trans e)
 have Nfp:N∉fp:=λz=>by
  rcases hfp N z with y|y
  ·exact iz A0 y
  ·have y':h0.objs.size<=N:=y;rw[big]at y';exact absurd y'<|Nat.not_succ_le_self _
 refine π {xv PySem.F.plain_extend_loop _,(codeAny_extend_loopS W.toS (by rw[CG];exact hn) N Nfp (.ref N) ord.length 0 _ #[] _ rfl (bv _) (W.frame 0 _ _ st λb hb o e=>oth b o (λz=>Nfp<|z ▸ hb) e) (df (lq (·.pop)) g2 rfl) (ItemsOf.nil _) λs' BP c m g4 hacc=>?_)};refine δ<|wpAny_load g4 ?_;refine π ?_
 have eacc:BP.toList=ord:=by
  refine xo λi=>?_;by_cases hlt':i<ord.length
  ·have h3:i<BP.size:=by rw[hacc.1];exact hlt'
   have:=hacc.2 i BP[i] (dr h3);rw[jw,dr h3,this]
  ·have e1:BP.toList[i]? =none:=bt (by rw[cy,hacc.1];exact cj hlt')
   have e2:ord[i]? =none:=bt<|cj hlt';rw[e1,e2]
 rw[eacc];obtain⟨h3,gn3,dr3,tk3,os3⟩:=s'
 have a1:gn3=s.gens:=m.gens
 have a2:dr3=d1:=m.drawn
 have a3:os3=s.os:=m.os;subst a1;subst a2;subst a3;refine q _ _ dr3 ord ks (λb o e=>?_) (by rw[eN];exact li<|au g4) hi pk
 have hb:b<N:=eN ▸ au e;refine m.heap b o (λz=>?_) (oth b o (bd hb) (k1 _ _<|keep1 _ _ e));simp only[aj,bx,or_false]at z;rcases z with z|z
 ·exact bd hb z
 ·exact bd (ψ (my hb) hI) z
def zbk(hh:A.handled=none)(S:IntSet P w s.heap a ms)(hn:ms.length<64)
  (q:∀ D h' tk d c out ks,(∀ b o,s.heap.get? b=some o->h'.get? b=some o)->s.heap.objs.size<=D->h'.get? D=some (seqObj "list" out c)->qz out.toList ks->ks.Perm ms->ks.Pairwise (· <=·)->Q (.ref D) { s with heap:=h',toks:=tk,drawn:=d }) :
  wpAny (model P w) A (call (.builtin "sorted") [.ref a]) Q E s:=by
 refine Calls.call_function_entry kind_sorted plain_sorted entry_sorted (args_sorted1 _) (δ  (π<|δ<|zbj  (hh) S (oB hn rfl) λh1 tk d vs ks k1 size_le hi pk=>?_))
 have hl:vs.length<64:=by rw[Aa hi,pk.length_eq];exact hn
 have g:(h1.push _).get? _=some (seqObj "list" vs.toArray 0):=aw _ rfl;refine δ<|wpAny_newList (δ<|fm<|fq slot_list_sort ⟨_,g,rfl⟩ entry_list_sort (list_sort_tree g hi hl λout ks' i1 p1 r1=>{_,rfl,?_}) (args_list_sort _)) (oB hl rfl);obtain⟨c,gc⟩:=sortedHeap_at   g;refine π {_,rfl,q _ _ tk d c _ _ (λb o e=>?_) size_le gc i1 (p1.trans pk) r1}
 have hb:=au<|k1 _ _ e;rw[sortedHeap_old (bd hb) (by rw[uq];exact my hb)];exact ο _<|k1 _ _ e
end
end L2
namespace L2
open PySem PyProof.Rows
section
variable{P:bw}{w:World}{A:dk}{E:tQ}{s:ξ}
def zbl(hh:A.handled=none)(hl:s.heap.IsList l AJ)(hi:qz AJ.toList ns)(hb:AJ.size+1<wa)
  (q:∀ h' tk,IntSet P w h' s.heap.objs.size (wn (λi=>ns.getD i 0) AJ.size)->(∀ b o,s.heap.get? b=some o->h'.get? b=some o)->Q (.ref s.heap.objs.size) { s with heap:=h',toks:=tk }) :
  wpAny (model P w) A (call (.type "set") [.ref l]) Q E s:=by
 refine u2 ?_ PySem.F.called_set.mro;rintro c tl mro
 have made:=PySem.F.called_set.made
 have sub:=PySem.F.called_set.sub;refine yi<|codeAny_of_tree ?_
 show wpAny _ _ (callAny (.type "set") _) _ _ _;refine π {Code.quiet_builtin _ (by decide +kernel),mh PySem.F.entry_type_call ?_};rw[Around.under_plain (weight_type_call_type "set" [.ref l] []) rfl]
 have n1:=PySem.F.called_set.notType
 have n2:=PySem.F.called_set.canCreate
 have n3:=PySem.F.typeCall_set_1<|.ref l
 repeat (any_goals (first|assumption|wp_step))
 generalize eS:({ cls:=.type "set",dict:=none,data:=.set #[] 0 (.fresh 0 0<|leads w) }:Obj)=oS;refine lm (za4 (E:=E) (Q:=λx s1=>x=.ref s.heap.objs.size/\s1={ s with heap:=s.heap.push oS }) {rfl,by rw[<-eS]}) λr s1 hr=>?_;cases r with
 |error e=>exact hr
 | ok fl =>
  cases fl with
  | ret x =>
   obtain⟨rfl,rfl⟩:=hr
   have g0:(s.heap.push oS).get? s.heap.objs.size=some oS:=aw _ (by rw[<-eS];rfl)
   have T0:Shared.TypeIs { s with heap:=s.heap.push oS } (.ref s.heap.objs.size) "set":={_,g0,by rw[<-eS]}
   have i1:=PySem.F.called_set.init.lookup
   have i2:=PySem.F.called_set.init.bind<|.ref s.heap.objs.size
   repeat (any_goals (first|assumption|wp_step))
   refine lm (zu (R:=wants (λr s2=>r=.none/\∃ h' tk,s2={ s with heap:=h',toks:=tk }/\IntSet P w h' s.heap.objs.size (wn (λi=>ns.getD i 0) AJ.size) /\
    (∀ b o,s.heap.get? b=some o->h'.get? b=some o)) E) PySem.F.called_set.init.plain PySem.F.entry_set_init (check_set_init_1 T0 ?_)) λr2 s2 KQ=>?_
   ·obtain⟨ol,gl,cl,nl,dl⟩:=hl;obtain⟨c1,d1,dt1,sl1⟩:=ol;simp only at cl dl;subst cl;subst dl
    have gl':=ο oS gl
    have e1:=PySem.F.sub_list_set
    have e2:=PySem.F.sub_list_frozenset
    have e3:(ni "list" == ni "dict")=false:=by decide
    have DI:(s.heap.push oS).IsList l AJ:=⟨_,gl',rfl,nl,rfl⟩
    have A0:l<s.heap.objs.size:=au gl
    have big:=uq s.heap oS;revert gl' DI g0 T0 big
    have keep0:∀ b o,s.heap.get? b=some o->(s.heap.push oS).get? b=some o:=λb o e=>ο _ e;revert keep0;generalize s.heap.push oS=h0;intro keep0 g0 T0 gl' DI big;subst eS;unfold vt.«set.__init__» noKeywords I_;generalize hPI:Gi=PI
    wp_walk
    subst hPI;refine xk DI ?_;refine δ<|wpAny_runValue ?_
    have hh3:A.in1.in1.in1.handled=none:=by simp[hh]
    have ne1:l≠h0.objs.size:=bd (by rw[big];exact my A0)
    have nin:s.heap.objs.size∉[h0.objs.size,l]:=by
     simp only[aj,bx,or_false,not_or];exact{bd (by rw[big];exact fj _),iz A0}
    refine za3 ((Od hh3 _ l ne1 AJ).toS) s.heap.objs.size nin (λi=>ns.getD i 0) (λi v e=>IntsAre.int_at hi i v (by rw[jw];exact e)) hb (AJ.size-0) 0 _ (by omega) (bv _)
     {{_,aw _ rfl,rfl,rfl},DI.push _} (x4 _ (#[]) 0 _ {ο _ g0,⟨rfl,rfl,rfl⟩,rfl,λe he=>by simp at he,by exact .nil,by decide,by rfl,Led.fresh _}) λs3 m S3=>?_
    obtain⟨h3,g3,d3,tk3,os3⟩:=s3
    have a1:g3=s.gens:=m.gens
    have a2:d3=s.drawn:=m.drawn
    have a3:os3=s.os:=m.os;subst a1;subst a2;subst a3
    show wpAny _ _ _ _ _ _;refine π ?_
    show wpAny _ _ (ret jp) _ _ _;refine π {rfl,x2 h3 tk3 {rfl,S3,λb o e=>?_}}
    have hb:=au e;refine m.heap b o ?_<|ο _<|keep0 _ _ e;simp only[aj,bx,or_false,not_or];exact{bd hb,bd (by rw[big];exact my hb)}
   ·cases r2 with
    |error e=>exact KQ
    |ok fl2 =>
     cases fl2 with
     |ret r =>
      obtain⟨rfl,h',tk,rfl,S',k'⟩:=KQ
      repeat (any_goals (first|assumption|wp_step))
      exact q _ _ S' k'
     |_=>exact KQ.elim
  |_=>exact hr.elim
end
end L2
namespace L2
section
variable{X:Cx}
def Inv.drawn(I:Inv X AA σ H s)(d):Inv X AA σ H { s with drawn:=d } :=
 { ok:=I.ok,os:=I.os,bare:=I.bare,base:=I.base,loc:=I.loc,cell:=I.cell,free:=I.free,freeC:=I.freeC,pin:=I.pin,hok:=I.hok,len:=I.len }
theorem nH:∀ {ns:sZ} {us:sV},Vals (ns.map V.int) us->qz us ns
 | [],_,.nil=>.nil
 |n::r,_,.cons h t=>by
  obtain⟨tk,rfl⟩:=h;exact .cons _ _<|nH t
abbrev nJ(X:Cx)(a:Addr)(ms:sZ):HO:=.ext λh=>IntSet X.prog X.w h a ms
def zbm(hc:X.calm=true):EB X (.type "set") (λxs H Q=>∃ (p:Addr) (ns:sZ),xs=[.ref p]/\SqL X.K H p (ns.map V.int)/\ns.length<=1000 ∧
  ∀ (a:Addr),H a=none->Q (.ref a) (upd H a<|nJ X a<|wn (λi=>ns.getD i 0) ns.length)):=by
 intro AA s σ H xs us Q I r h;revert h;apply u2;rintro p ns ⟨rfl,hq,hn,q⟩;obtain⟨u,rfl,rfl⟩:=GQ r;obtain⟨AJ,r',pl,hz⟩:=I.list hq
 have hi:=nH r'
 have CG:=Aa hi
 have hz2:AJ.toArray.size=ns.length:=by rw[az,CG]
 refine zbl (I.ok.hd hc) pl.isList hi (by rw[az,CG];exact cm (Ht hn) (by decide)) λh' tk S k=>?_;rw[hz2]at S;refine x2 (.ref _) _ {I.laid k (υ _) ?_,rfl,q _<|I.hok.fresh<|υ _};exact{S,⟨_,S.choose_spec.choose_spec.choose_spec.choose_spec.1⟩,λh1 h2 z e=>z.at e}
def zbn(hc:X.calm=true):EB X (.builtin "sorted") (λxs H Q=>∃ (a:Addr) (ms:sZ),xs=[.ref a]/\H a=some (nJ X a ms)/\ms.length<64 ∧
  ∀ (D:Addr) (ks:sZ),H D=none->oa ks ms->ks.Pairwise (· <=·)->Q (.ref D) (upd H D<|.lst<|ks.map V.int)):=by
 intro AA s σ H xs us Q I r h;revert h;apply u2;rintro a ms ⟨rfl,ha,hn,q⟩;obtain⟨S,z,z⟩:=I.hok a _ ha;obtain⟨u,rfl,rfl⟩:=GQ r;refine zbk (I.ok.hd hc) S hn λD h' tk d c out ks k hD g hi pk hr=>(x2 (.ref D) _ {(I.laid  k hD ?_).drawn d,rfl,q D ks (I.hok.fresh hD) pk hr})
 exact{by rw[ζ];exact oB (by rw[pk.length_eq];exact hn) rfl,x2 _ c {VX hi,g}}
def zbo(val:Nat->Int)(n:Nat)(x:Int):x∈wn val n↔∃ i,i<n/\val i=x:=by
 have h:=firstMet_any val n x;rw[jf,dq,dq]at h;constructor;intro hx;obtain⟨y,hy,e⟩:=h.mp {x,hx,beq_self_eq_true x};obtain⟨i,hi,rfl⟩:=av.mp hy;exact{i,ak.mp hi,eq_of_beq e};rintro ⟨i,hi,rfl⟩;obtain⟨y,hy,e⟩:=h.mpr {_,av.mpr {i,ak.mpr hi,rfl},beq_self_eq_true _};exact eq_of_beq e ▸ hy
theorem WT(val:Nat->Int):∀ n,(wn val n).Nodup
 |0=>jr
 |n+1=>by
  rw[firstMet_succ];by_cases h:val n∈wn val n;rw[mZ h];exact WT _ n;rw[m7 h];exact mz.mpr {WT _ n,by simp,λa ha b hb e=>by rw[ae]at hb;subst hb e;exact h ha}
theorem nK:∀ {l:sZ},l.Pairwise (· <=·)->l.Nodup->l.Pairwise (· <·)
 | [],_,_=>.nil
 |x::r,h,n=>by
  obtain⟨n1,n2⟩:=gz.mp n;obtain⟨h1,h2⟩:=lx.mp h;refine lx.mpr {λy hy=>?_,nK h2 n2}
  have:=h1 y hy
  have:x≠y:=λz=>n1<|z ▸ hy
  lia
def SI(K:ι)(te:TE):TE:=λσ H Q=>te σ H λx H1=>∃ (p:Addr) (ns:sZ),x=.ref p/\SqL K H1 p (ns.map V.int)/\ns.length<64 /\
 ∀ (a:Addr) (o:HO) (D:Addr) (ks:sZ),H1 a=none->upd H1 a o D=none->ks.Pairwise (· <·)->(∀ x,x∈ks↔x∈ns)->ks.length<=ns.length->Q (.ref D) (upd (upd H1 a o) D (.lst<|ks.map V.int))
def clo(te:TE):TE:=λσ H Q=>∃ C:VK,te σ H C/\∀ x H1,C x H1->Q x H1
def PE.clo(h:PE X e te):PE X e (clo te):=(by rintro AA s σ H Q I ⟨C,q,m⟩;exact AS (h _ s σ H C I q) (by rintro v s' ⟨x,H1,I1,r1,q1⟩;exact x2 x H1 {I1,r1,m _ _ q1}))
def zbp(hc:X.calm=true)(g1:Gl X "sorted")(m1:X.mg "sorted"=none)(g2:Gl X "set")(m2:X.mg "set"=none)(h:PE X e te)
  (he:ay [e] X.env=[(false,eval e X.env)]:=by rfl) :
  PE X (.Call (.Name "sorted" p1) [.Call (.Name "set" p2) [e] [] p3] [] p4) (SI X.K te):=λAA s σ H Q I q=>by
 refine(NB (zbn hc) g1 m1 (rfl) (L4 (O0 (zbm hc) g2 m2 (rfl) (L4 h.clo R0 he) (he:=he)) R0)) _ s σ H Q I ({_,q,λx H1 hzz=>?_});obtain⟨p,ns,rfl,hq,hn,q1⟩:=hzz;refine x2 p ns {rfl,hq,oB hn rfl,λa ha=>x2 a _ {rfl,AF,(cm (wo ..) hn),λD ks hD pk hr=>?_}};refine q1 a _ D ks ha hD (nK hr<|pk.nodup_iff.mpr<|WT (λi=>ns.getD i 0) _) (λx=>?_) (by rw[pk.length_eq];exact wo ..);rw[pk.mem_iff,zbo];refine{λhzz=>?_,λhx=>?_};obtain⟨i,hi,e⟩:=hzz;rw[<-e];simp[hi];obtain⟨i,hi,e⟩:=ik hx;exact{i,hi,by simp[hi,e]}
end
def SJ(K:ι)(a:Addr)(n:Nat):It :=
 {λi H=>i<n/\∃ xs,SqL K H a xs/\xs.length=n,λi H x H'=>H'=H/\∀ xs,SqL K H a xs->xs[n-1-i]? =some x,λi _=>n<=i}
def zbq{P:bw}{w:World}{K:ι}{tg:Expr}(a it:Addr)(n:Nat):KS P w K tg (SJ K a n) [it] it (λi h=>i<=n/\h.IsRevIter it a ((n:Int)-1-(i:Int))) where
 mem:=by simp
 obj:=λi h ⟨_,st⟩ b hb=>by
  have e:b=it:=by simpa using hb
  subst e;obtain⟨o,e,c,d⟩:=st;exact{o,e,λv z=>by rw[d]at z;cases z}
 keep:=λi h h' ⟨l,st⟩ k=>{l,st.at λo e=>k it (by simp) o e}
 item:=by
  rintro X hP hw hK hc i AA s σ H E I hf ⟨hl,st⟩ ⟨hi,xs,hq,hn⟩;subst hP hw hK;obtain⟨AJ,rv,p,hz⟩:=I.list hq
  have A0:n-1-i<xs.length:=by omega
  have hx:=η A0;obtain⟨f0,f1,f2,f3,f4,f5⟩:=hf it (by simp)
  have e1:n-1-i=((n-1-i:Nat):Int):=by omega
  obtain⟨u,hu,ru⟩:=rv.get hx;rw[e1]at st
  have e2:((n-1-i:Nat))-1=n-1-((i+1):Int):=by omega
  refine wpAny_pyNext_rev_item st p.isList  (by simpa using hu) λh' st' sb=>?_;rw[e2]at st'
  have I1:Inv X _ σ H { s with heap:=h' }:=I.turned  (λb o hb e=>(sb.2 b hb).trans e) f0 f1 f3 f4 f5;obtain⟨o,e,c,d⟩:=id st';exact{u,rfl,OT  e c d (by decide) (x2 _ H {I1,ru,{rfl,λys hy=>by rw[I.list_inj hy hq];exact hx},⟨hi,st'⟩,λb hb=>(hf b hb).1})}
 done:=by
  intro X hP hw hK hc i AA s σ H E I hf ⟨hl,st⟩ hg;obtain⟨f0,f1,f2,f3,f4,f5⟩:=hf it (by simp)
  have e:=j_ hl hg;subst e
  have e1:i-1-(i:Int)= -1:=by lia
  rw[e1]at st;exact wpAny_pyNext_rev_end (I.ok.hd hc) st λh' eb=>{rfl,I.turned  (λb o hb e=>eb b o hb e) f0 f1 f3 f4 f5}
 self:=λy y y y y st h=>Ae st.2 h
def SK(K:ι)(ta:TA):TI:=λσ H R=>ta σ H λvs H1=>∃ a xs,vs=[.ref a]/\SqL K H1 a xs/\R (SJ K a xs.length) H1
def zbr:nz "reversed"=some (.type "reversed"):=rfl
section
variable{X:Cx}{tg:Expr}
def zbs{a:Expr}{ta:TA}{p pos:Pos}(hg:Gl X "reversed")(hm:X.mg "reversed"=none)(ha:PA X [a] ta)(hs:ay [a] X.env=[(false,eval a X.env)]:=by rfl):PI X tg (.Call (.Name "reversed" p) [a] [] pos) (SK X.K ta):=by
 refine λAA s σ H R I h=>Call_ (M8 I hg hm zbr (ji (AS (ha _ _ s σ H _ I h) λus s1 hzz=>?_) (by rw[hs];rfl) (rfl)));obtain⟨vs,H1,I1,r1,q1⟩:=hzz;revert q1;apply u2;rintro l xs ⟨rfl,hx,q⟩;obtain⟨AJ,rv,pl,hz⟩:=I1.list hx;obtain⟨u,rfl,rfl⟩:=GQ r1;refine call_reversed_list pl.isList ?_
 have st:(s1.heap.push<|revObj l _).IsRevIter _ l (xs.length-1-(0)):=⟨_,aw _ rfl,rfl,by
  show Data.fields #[.ref l,lu<|AJ.toArray.size-1]=_;rw[az,<-rv.length];simp⟩
 have I2:Inv X _ σ H1 { s1 with heap:=s1.heap.push (revObj l<|AJ.toArray.size-1) }:=I1.kept  λb o e=>ο _ e;refine Ae st ?_;exact⟨_,_,_,_,H1,rfl,I2,zbq l _ _,{bv _,st},λb hb=>by
  have e:b=s1.heap.objs.size:=by simpa using hb
  subst e;exact I1.fpOk (υ _) (I1.hok.fresh<|υ _),q⟩
def PU(K:ι):Oq->Hp->VK->Prop:=λxs H Q=>∃ (p:Addr) (kvs:tS),xs=[.ref p]/\H p=some (.dK kvs)/\∀ l,H l=none->Q (.ref l) (upd H l<|.dK kvs)
def zbt:EB X (.type "dict") (PU X.K):=by
 intro AA s σ H xs us Q I r h;revert h;apply u2;rintro p kvs ⟨rfl,hp,q⟩;obtain⟨u,rfl,rfl⟩:=GQ r;exact Ug I (.inl hp) λl s' hl I'=>x2 (.ref l) _ {I',rfl,q l hl}
def zbu{K:ι}{p:Addr}{H:Hp}{Q:VK}:PU K [.ref p] H Q=∃ kvs,H p=some (.dK kvs)/\∀ l,H l=none->Q (.ref l) (upd H l<|.dK kvs):=by simp[PU]
end
def zbv{K:ι}{as:TA}{g:TG}{s1:TS}{D:Ends}{σ:St}{H:Hp}:CJ (SK K as) g s1 D σ H=(as σ H λvs H1=>∃ a xs,vs=[.ref a]/\SqL K H1 a xs/\IW (SJ K a xs.length) g s1 D σ H1):=rfl
def zbw{K:ι}{σ:St}{H:Hp}{a:Addr}{xs:Oq}{g:TG}{tb:TS}{D:Ends}(Pv:tO)(h0:Pv 0 σ H)(ha:∀ i σ H,i<=xs.length->Pv i σ H->SqL K H a xs)
  (hs:∀ i x σ H,i<xs.length->xs[xs.length-1-i]? =some x->Pv i σ H->g x σ H λσ2 H2=>tb { D with nx:=Pv<|i+1,ct:=Pv<|i+1,bk:=D.nx } σ2 H2) (hd:∀ σ H,Pv xs.length σ H->D.nx σ H):IW (SJ K a xs.length) g tb D σ H:=by
 refine{λi m σ H=>i+m=xs.length/\Pv i σ H,{xs.length,by lia,h0},λi m σ H hzz=>?_};obtain⟨e,p⟩:=hzz
 have h1:=ha i σ H (by lia) p;by_cases hi:i<xs.length;refine .inr {⟨hi,xs,h1,rfl⟩,_,λσ' H' q=>{m-1,by lia,by lia,q},λv H' hzz=>?_};obtain⟨rfl,q1⟩:=hzz;exact hs i v σ _ hi (q1 _ h1) p
 have e:i=xs.length:=by lia
 subst e;exact .inl {υ _,hd _ _ p}
section
variable{K:ι}{tt:TT}{A7:t3}{σ:St}{H:Hp}{Q:VK}
abbrev _root_.sX:=Nat->Bool
def zbx(p:sX)(hn:n<=sizeLine)(ht:∀ i,i<n->∀ QB:Bool->Hp->Prop,QB (p i) H->tt (some (.int (i:Int))::CO A7 σ) H QB)
  (hd:∀ q,H q=none->Q (.ref q) (upd H q<|.lst<|((ν n).filter p).map λ(i:Nat)=>V.int i)):D8 (FO 0 n) (AE 0) tt (DU 0) 1 A7 σ H Q:=by
 refine{λi m σ' ys H'=>m=n-i/\i<=n/\H'=H/\(∃ x0,σ'=x0::CO _ σ)/\ys=((ν i).filter p).map λ(i:Nat)=>V.int i,{n,rfl,bv _,rfl,⟨_,rfl⟩,rfl},?_};rintro i m σ' ys H' ⟨rfl,hi,rfl,⟨x0,rfl⟩,rfl⟩;by_cases A0:i<n;refine .inr {A0,?_,λx H2 y=>?_};rw[ζ]
 have:=cr p<|ν i;rw[cw]at this;exact cm this<|ψ A0 hn;obtain⟨e,y⟩:=y;subst e y;rw[l8];refine ht i A0 _ ?_;cases hp:p i with
 |true =>
  refine{λv H4=>v=.int i/\H4=H2,λy H4 ⟨e1,e2⟩=>{_,by omega,rfl,A0,e2,⟨_,rfl⟩,?_},(by simp[DU])};rw[e1,bu];simp[hp]
 |false =>
  refine{_,by omega,rfl,A0,rfl,⟨_,rfl⟩,?_};rw[bu];simp[hp]
 have e:i=n:=by lia
 subst e;exact .inl {υ _,hd}
def WU(p:V->Bool)(hn:xs.length<=sizeLine)(hq:SqL K H b xs)(ht:∀ x∈xs,∀ QB:Bool->Hp->Prop,QB (p x) H->tt (some x::CO A7 σ) H QB)
  (hd:∀ q,H q=none->Q (.ref q) (upd H q<|.lst<|xs.filter p)):D8 (GB K b) (AE 0) tt (DU 0) 1 A7 σ H Q:=by
 refine{λi m σ' ys H'=>m=xs.length-i/\i<=xs.length/\H'=H/\(∃ x0,σ'=x0::CO _ σ)/\ys=(xs.take i).filter p,{xs.length,rfl,bv _,rfl,⟨_,rfl⟩,rfl},?_};rintro i m σ' ys H' ⟨rfl,hi,rfl,⟨x0,rfl⟩,rfl⟩;by_cases A0:i<xs.length;refine .inr {x2 xs (xs[i]) {hq,by simp[A0]},?_,λx H2 y=>?_}
 have:=cr p<|xs.take i;rw[ce]at this
 lia
 obtain⟨rfl,y⟩:=y
 have hx:=y xs hq
 have et:xs.take (i+1)=xs.take i++[x]:=by
  obtain⟨h1,h2⟩:=ε.mp hx;rw[<-h2,ki]
 refine ht x (θ hx) _ ?_;cases hp:p x with
 |true =>
  refine{λv H4=>v=x/\H4=H2,λy H4 ⟨e1,e2⟩=>{_,by omega,rfl,A0,e2,⟨_,rfl⟩,?_},(by simp[DU])};rw[et,e1];simp[hp]
 |false =>
  refine{_,by omega,rfl,A0,rfl,⟨_,rfl⟩,?_};rw[et];simp[hp]
 have e:i=xs.length:=by lia
 subst e;refine .inl {{xs,hq,υ _},λq hq'=>?_};rw[bz];exact hd q hq'
end
section
variable{K:ι}{td ty tv te:TE}{D:Ends}{σ:St}{H:Hp}{Q:VK}{QB:ZQ}
def zby:JV σ H Q=(∀ p,H p=none->Q (.ref p) (upd H p<|.dK [])):=rfl
def zbz:O7 σ H Q=(∀ p,H p=none->Q (.ref p) (upd H p<|.dT [])):=rfl
def zb0:SI K te σ H Q=(te σ H λx H1=>∃ (p:Addr) (ns:sZ),x=.ref p/\SqL K H1 p (ns.map V.int)/\ns.length<64 /\
 ∀ (a:Addr) (o:HO) (D:Addr) (ks:sZ),H1 a=none->upd H1 a o D=none->ks.Pairwise (· <·)->(∀ x,x∈ks↔x∈ns)->ks.length<=ns.length->Q (.ref D) (upd (upd H1 a o) D (.lst<|ks.map V.int))):=rfl
variable{a b:Addr}{i j:Int}{z:Str}{kvs:tS}{kvt:aH}{v:V}
def dI(e:H a=some (.dK kvs)):DGet H a (.int i) (BF kvs<|.inl i):=DGet.k (k:=.inl i) e
def dS(e:H a=some (.dK kvs)):DGet H a (.str z) (BF kvs<|.inr z):=DGet.k (k:=.inr z) e
def dT2(e:H a=some (.dT kvt))(eb:H b=some (.tup [.int i,.int j])):DGet H a (.ref b) (BF kvt [.inl i,.inl j]):=DGet.t  e eb
def dS'(e:H a=some (.dK kvs))(h:BF kvs (.inr z)=some v):DGet H a (.str z) (some v):=h ▸ dS e
def pI(e:H a=some (.dK kvs))(hl:kvs.length<100000):DPut H a (.int i) v (upd H a<|.dK<|CA kvs (.inl i) v):=DPut.k (k:=.inl i) e (ψ hl (by decide))
def pS(e:H a=some (.dK kvs))(hl:kvs.length<100000):DPut H a (.str z) v (upd H a<|.dK<|CA kvs (.inr z) v):=DPut.k (k:=.inr z) e (ψ hl (by decide))
def pT2(e:H a=some (.dT kvt))(eb:H b=some (.tup [.int i,.int j]))(hl:kvt.length<100000):DPut H a (.ref b) v (upd H a<|.dT<|CA kvt [.inl i,.inl j] v):=DPut.t  e eb (ψ hl (by decide))
end
section
variable{X:Cx}
abbrev SL(K:ι):R2:=kZ K false
def nQ(hu:X.A.units+64<cLine):B9 X (du .In) (SL X.K):=Sl
end
def SqT.same{K:ι}{H H':Hp}{a:Addr}{xs:Oq}(e:Same H H')(h:SqT K H a xs):SqT K H' a xs:=by
 rcases h with(h|⟨o,h⟩)|h
 exact .inl<|.inl<|e _ _ h;exact .inl<|.inr {o,e _ _ h};exact .inr h
def Dat(K:ι)(H:Hp)(n:Nat)(v:V)(d:vk):Prop:=Rep K H v d/\d.canLay0=true/\d.depth<=n
section
variable{K:ι}{H:Hp}{n:Nat}{Q:VK}
def Dat.int(i:Int):Dat K H n (.int i) (.int i):={.int i,rfl,bv _}
def Dat.non:Dat K H n .non .none:={.non,rfl,bv _}
theorem WV:∀ {xs:Oq} {ds:List vk},Paired (Dat K H n) xs ds->RepAll K H xs ds/\uc ds=true/\za ds<=n
 |_,_,.nil=>{.nil,rfl,bv _}
 |_,_,.cons h t=>by
  obtain⟨a1,a2,a3⟩:=WV t;refine{.cons h.1 a1,(by simp[uc,h.2.1,a2]),(Nat.max_le.mpr ⟨h.2.2,a3⟩)}
def Dat.lst(h:SqL K H p xs)(hs:Paired (Dat K H n) xs ds):Dat K H (n+1) (.ref p) (.list ds):=by
 obtain⟨a1,a2,a3⟩:=WV hs;exact{.lst h a1,a2,by simpa [Er]using a3}
def Dat.tup(h:SqT K H p xs)(hs:Paired (Dat K H n) xs ds):Dat K H (n+1) (.ref p) (.tuple ds):=by
 obtain⟨a1,a2,a3⟩:=WV hs;exact{.tup h a1,a2,by simpa [Er]using a3}
def Dat.shp(h:Dat K H n v d)(hn:n<=64):shp d:=by
 unfold L2.shp PySem.SeqAt.shaped;rw[h.2.1];simpa using ω h.2.2 hn
def zb4(hn:n<=64)(h1:Dat K H n (.ref p) d)(h2:Dat K H n (.ref q) d)(hq:Q (.bl false) H):K4 K (.ref p) (.ref q) H Q:=by
 refine y2 {h1.1,h2.1,h1.shp hn,h1.shp hn,?_};rw[mM (h1.shp hn)];exact hq
def zb5(hn:n<=63)(h1:SqL K H p xs)(hd:Paired (Dat K H n) xs ds)(h2:SqL K H q [])(hq:Q (.bl<|decide<|xs=[]) H):K3 K (.ref p) (.ref q) H Q:=by
 have e1:=Dat.lst h1 hd
 have e2:Dat K H 1 (.ref q) (.list []):=Dat.lst h2 .nil;refine y2 {e1.1,e2.1,e1.shp (by omega),e2.shp (by omega),?_};cases hd with
 |nil=>exact hq
 |cons _ _=>exact hq
end
section
variable{prog:bw}{w:World}{A:dk}{E:tQ}{s:ξ}{d it:Addr}{od:Obj}{es:Array DictEntry}{ep i:Nat}
end
theorem WW:∀ {ys:tY} {us:sV},Vals (ys.map V.str) us->StrsAre us ys
 | [],_,.nil=>.nil
 |y::r,_,.cons h t=>by
  obtain⟨tk,rfl⟩:=h;exact .cons _ _<|WW t
section
variable{X:Cx}
def WX(K:ι):V->Oq->Hp->VK->Prop:=λx vs H Q=>∃ (z:Str) (p:Addr) (ys:tY),x=.str z/\vs=[.ref p]/\SqL K H p (ys.map V.str)/\z.length<=16/\(ys.map (·.length)).sum+ys.length<=1048576/\Q (.str<|Txt.join z ys) H
def zb6:kP X "str.join" (WX X.K):=by
 intro AA s σ H x vs v us Q I rx rv h;revert h;apply u3;rintro z p ys ⟨rfl,rfl,hp,hz,hw,q⟩;obtain⟨u,rfl,rfl⟩:=rv.one;obtain⟨t,rfl⟩:=rx;obtain⟨AJ,r,pl,hz'⟩:=I.list hp;exact join_listW pl.isList (WW r) hz hw λt' k=>x2 (.str _) H {I.tok k,⟨t',rfl⟩,q}
end
section
variable{K:ι}{tt:TT}{te:TE}{A7:t3}{σ:St}{H:Hp}{Q:VK}
end
section
variable{X:Cx}{tg:Expr}
end
section
variable{K:ι}{tt:TT}{A7:t3}{σ:St}{H:Hp}{Q:VK}
end
def WY(n i:Nat)(P:Prop):Prop:=∃ m',m'<n-i/\m'=n-(i+1)/\i+1<=n/\P
def cnx(h:i<n)(p:P):WY n i P:={_,cq ‹_›,rfl,h,p}
def nR{K:ι}{g:TG}{tt:TT}{te:TE}{k:Nat}{A7:t3}{σ:St}{H:Hp}{Q:VK}{b:Addr}{xs:Oq}(hn:xs.length<=sizeLine)(Pv:Nat->St->Oq->Hp->Prop)(h0:Pv 0 (K1 k A7 σ) [] H)(hq:∀ i σ' ys H,Pv i σ' ys H->SqL K H b xs/\ys.length<=i)
  (hs:∀ i x σ' ys H,i<xs.length->xs[i]? =some x->Pv i σ' ys H->g x σ' H λσ2 H2=>tt σ2 H2 λc H3=>if c=true then ∃ N:VK,(∀ y H4,N y H4->WY xs.length i (Pv (i+1) σ2 (ys++[y]) H4))/\te σ2 H3 N else WY xs.length i (Pv (i+1) σ2 ys H3))
  (hd:∀ σ' ys H,Pv xs.length σ' ys H->∀ p,H p=none->Q (.ref p) (upd H p<|.lst ys)):D8 (GB K b) g tt te k A7 σ H Q:=by
 refine{λi m σ' ys H=>m=xs.length-i/\i<=xs.length/\Pv i σ' ys H,{xs.length,rfl,bv _,h0},?_};rintro i m σ' ys H ⟨rfl,hi,p⟩;obtain⟨q,hl⟩:=hq i _ ys H p;by_cases A0:i<xs.length;refine .inr {{xs,xs[i],q,by simp[A0]},by lia,λx H' y=>?_};obtain⟨rfl,y⟩:=y;exact hs i x _ ys _ A0 (y xs q) p
 have e:i=xs.length:=by lia
 subst e;exact .inl {{xs,q,υ _},hd _ ys H p}
section
variable{P:bw}{w:World}{A:dk}{E:tQ}{s:ξ}
end
section
variable{X:Cx}
end
section
variable{P:bw}{w:World}{A:dk}{E:tQ}{s:ξ}
def zb8{e it l:Addr}{i:Nat}{BW:Array Value}{x old:Value}{Q:Option Value->ξ->Prop}(he:IsEnum s.heap e it i old)(hi:s.heap.IsListIter it l i)(hl:s.heap.IsList l BW)(ex:BW[i]? =some x)(ne:e≠it)
  (q:∀ h',IsEnumOut h' e it (i+1) x s.heap.objs.size->h'.IsListIter it l (i+1)->h'.get? s.heap.objs.size=some { cls:=ni "tuple",data:=Data.seq #[uj i s.toks,x] }->(∀ b o,b≠e->b≠it->s.heap.get? b=some o->h'.get? b=some o) →
   Q (some<|.ref s.heap.objs.size) { s with heap:=h',toks:=s.toks+1 }):wpAny (model P w) A (zi<|.ref e) Q E s:=by
 have ty:s.TypeIs (.ref e) _:=⟨_,he,rfl⟩
 exact δ (kh (fe  ty mv (fq mv ty yt
  (enumerate_next_item he hi hl ex ne λh' a1 a2 a3 z a4=>π<|q h' a1 a2 a3 a4) (yd _))))
def zb9{e it l:Addr}{i:Nat}{BW:Array Value}{old:Value}{Q:Fin->ξ->Prop}(hh:A.handled=none)(he:IsEnum s.heap e it i old)(hi:s.heap.IsListIter it l i)(hl:s.heap.IsList l BW)(ex:BW[i]? =none)
  (q:∀ h' x,nr it s.heap h'->(∃ o,h'.get? x=some o/\o.cls=.type "StopIteration")->E (.ref x) { s with heap:=h' }):wpAny (model P w) A (vt.«enumerate.__next__» {[.ref e],[]}) Q E s:=by
 show wpAny _ A (field _ 2>>=_) _ _ s;exact δ<|jb he rfl  rfl (δ<|zan (k:=true) hh hi hl ex q)
def zca{e it l:Addr}{i:Nat}{BW:Array Value}{old:Value}{Q:Option Value->ξ->Prop}(hh:A.handled=none)(he:IsEnum s.heap e it i old)(hi:s.heap.IsListIter it l i)(hl:s.heap.IsList l BW)(ex:BW[i]? =none)
  (q:∀ h',nr it s.heap h'->Q none { s with heap:=h' }):wpAny (model P w) A (zi<|.ref e) Q E s:=by
 have ty:s.TypeIs (.ref e) _:=⟨_,he,rfl⟩
 exact δ<|kh<|fe  ty mv (fq mv ty yt (zb9 hh he hi hl ex λh' x kk ⟨o,e1,e2⟩=>(δ<|om   ⟨o,e1,e2⟩ z_ (π<|q _ kk))) (yd _))
end
def K6(K:ι)(a:Addr):It :=
  ⟨λi H=>∃ xs x,SqL K H a xs/\xs[i]? =some x,
   λi H v H'=>∃ t,H t=none/\v=.ref t/\∃ x,H'=upd H t (.tup [.int (i:Int),x])/\∀ xs,SqL K H a xs->xs[i]? =some x,
   λi H=>∃ xs,SqL K H a xs/\xs.length<=i⟩
def EnSt(e it l:Addr)(i:Nat)(h:Heap):Prop:=(∃ old,IsEnum h e it i old)/\h.IsListIter it l i
def EnSt.lt(q:EnSt e it l i h):∀ b∈[e,it],b<h.objs.size:=by
 obtain⟨⟨old,h1⟩,o,h2,z⟩:=q;intro b hb;simp only[aj,bx,or_false]at hb;rcases hb with rfl|rfl
 exact au h1;exact au h2
def zcb{P:bw}{w:World}{K:ι}{elts:wW}{kn:Nat}{pos:Pos}{e it l:Addr}(ne:e≠it) :
  KS P w K (.Tuple elts kn pos) (K6 K l) [e,it] e (λi h=>EnSt e it l i h) where
 mem:=by simp
 obj:=λi h st b hb=>by
  obtain⟨⟨old,h1⟩,h2⟩:=st;obtain⟨o4,e4,d4⟩:=ItK.ob (k:=true) h2;simp only[aj,bx,or_false]at hb;rcases hb with rfl|rfl
  exact{_,h1,λv q=>by cases q};exact{_,e4,λv q=>by rw[d4]at q;cases q}
 keep:=λi h h' {⟨old,h1⟩,h2} q=>{{_,q e (by simp) _ h1},ItK.up (k:=true) h2 λo x=>q it (by simp) o x}
 item:=by
  intro X hP hw hK hc i AA s σ H E I hf st hg;subst hP hw hK;revert hg;apply u2;rintro xs x ⟨hx,ex⟩;obtain⟨AJ,rv,d1⟩:=I.seqK (k:=true) hx
  have lt:=EnSt.lt st;obtain⟨⟨old,h1⟩,h2⟩:=st;obtain⟨u,hu,ru⟩:=rv.get ex
  have f':=λb hb=>bd<|lt b hb;refine zb8 h1 h2 d1  (by simpa using hu) ne λh' g1 g2 g3 kk=>{_,rfl,(wpAny_letOwnedTupleGo_enum g1 λh2' z2 sb=>?_)}
  have I2:Inv X AA σ (upd H s.heap.objs.size<|.tup [.int i,x]) { s with heap:=h2',toks:=s.toks+1 }:=by
   refine Inv.turnedS (s:={ s with heap:=s.heap.push _ })   (I.tnew   (.cons (⟨s.toks,rfl⟩) (.cons ru .nil)) (by show 2<=sizeLine;decide)) (λb o hb eo=>?_) λb hb=>(hf b hb).upd (f' b hb);simp only[aj,bx,or_false,not_or]at hb;rcases Heap.get?_push_cases eo with⟨e1,e2⟩|e1
   subst e1 e2;exact sb.extBut _ _ ((f' e (by simp)).symm) g3;exact sb.extBut _ _ hb.1<|kk _ _ hb.1 hb.2 e1
  exact⟨.ref _,_,I2,rfl,{_,I.fresh,rfl,x,rfl,λys' q=>by rw[I.seqK_inj (k:=true) q hx];exact ex},
   {⟨_,z2⟩,ItK.up (k:=true) g2 λo x=>sb.extBut _ _ ne.symm x},λb hb=>((hf b hb).upd (f' b hb)).1⟩
 done:=by
  rintro X hP hw hK hc i AA s σ H E I hf ⟨⟨old,h1⟩,h2⟩ ⟨xs,hx,en⟩;subst hP hw hK;obtain⟨AJ,rv,d1⟩:=I.seqK (k:=true) hx;refine zca (I.ok.hd hc) h1 h2 d1 (by simp;exact rv.length ▸ en) λh' kk=>{rfl,I.turnedS   (λb o hb eo=>?_) hf}
  simp only[aj,bx,or_false,not_or]at hb;exact kk _ _ hb.2 eo
 self:=λz z z z z st h=>by
  obtain⟨⟨old,h1⟩,z⟩:=st;exact Ft h1 h
section
variable{X:Cx}
def SN(K:ι)(ta:TA):TI:=λσ H R=>ta σ H λvs H1=>∃ a:Addr,vs=[.ref a]/\(∃ xs,SqL K H1 a xs)/\R (K6 K a) H1
def zcc{a:Expr}{ta:TA}{p pos p2:Pos}{elts:wW}{kn:Nat}(hg:Gl X "enumerate")(hm:X.mg "enumerate"=none)(ha:PA X [a] ta)(hs:ay [a] X.env=[(false,eval a X.env)]:=by rfl) :
  PI X (.Tuple elts kn p2) (.Call (.Name "enumerate" p) [a] [] pos) (SN X.K ta):=by
 refine λAA s σ H R I h=>Call_ (M8 I hg hm boot_enumerate (ji (AS (ha _ _ s σ H _ I h) λus s1 hzz=>?_) (by rw[hs];rfl) (rfl)));obtain⟨vs,H1,I1,r1,⟨l,rfl,⟨xs,hx⟩,q⟩⟩:=hzz;obtain⟨AJ,rv,d1⟩:=I1.seqK (k:=true) hx;obtain⟨u,rfl,rfl⟩:=GQ r1;refine call_enumerate_list d1 λh' z1 z2 sz kk=>Ft z1 ?_
 have I2:Inv X _ σ H1 { s1 with heap:=h' }:=I1.kept  kk;refine x5 _ _ _ _ H1 {rfl,I2,zcb<|iz<|fj _,{⟨_,z1⟩,z2},λb hb=>I1.fpOk ?_<|I1.hok.fresh ?_,q}
 all_goals
  simp only[aj,bx,or_false]at hb;rcases hb with rfl|rfl<;>omega
end
def WZ{K:ι}{σ:St}{H:Hp}{a:Addr}{xs:Oq}{g:TG}{tb:TS}{D:Ends}(Pv:tO)(h0:Pv 0 σ H)(ha:∀ i σ H,i<=xs.length->Pv i σ H->SqL K H a xs)
  (hs:∀ i x σ H t,xs[i]? =some x->Pv i σ H->H t=none->g (.ref t) σ (upd H t<|.tup [.int (i:Int),x]) λσ2 H2=>tb { D with nx:=Pv<|i+1,ct:=Pv<|i+1,bk:=D.nx } σ2 H2) (hd:∀ σ H,Pv xs.length σ H->D.nx σ H):IW (K6 K a) g tb D σ H:=by
 refine{λi m σ H=>i+m=xs.length/\Pv i σ H,{xs.length,by lia,h0},λi m σ H hzz=>?_};obtain⟨e,p⟩:=hzz
 have h1:=ha i σ H (by lia) p;by_cases hi:i<xs.length;refine .inr {x2 xs _ {h1,η hi},_,λσ' H' q=>{m-1,by lia,by lia,q},λv H' ⟨t,ht,e,x,e',q1⟩=>?_};subst e e';exact hs i x σ H t (q1 _ h1) p ht
 have e:i=xs.length:=by lia
 subst e;exact .inl {{xs,h1,υ _},hd _ _ p}
def PY(K:ι):R2:=λx y H Q=>SL K x y H Q\/∃ t ts p xs,x=.ref t/\SqT K H t ts/\y=.ref p/\SqT K H p xs/\(∀ z∈xs,z=.non\/∃ i,z=.int i)/\Q (.bl false) H
theorem nS:∀ {xs:Oq} {us:sV} {u:Value},Vals xs us->u∈us->∃ x∈xs,RelV x u
 |_,_,_,.nil,h=>by cases h
 |_,_,_,.cons r t,h=>by
  rcases aj.mp h with rfl|h
  exact{_,χ ..,r};obtain⟨x,hx,e⟩:=nS t h;exact{x,ρ _ hx,e}
def zcd(hu:X.A.units+64<cLine):B9 X (du .In) (PY X.K):=by
 intro AA s σ H x y v u Q I rx ry h;rcases h with h|⟨t,ts,p,xs,rfl,ht,rfl,hp,hx,q⟩
 exact nQ hu _ s σ H x y v u Q I rx ry h;subst rx;obtain⟨AJ,r,pl,hz⟩:=I.tuple hp;subst ry;obtain⟨tts,tr,tl,j⟩:=I.tuple ht
 have hin:X.A.in1.units<cLine:=by
  have:X.A.in1.units=X.A.units+1:=rfl
  lia
 refine G_ (λj=>false) pl (λz hz'=>?_) (x2 (.bl _) H {I,rfl,?_});obtain⟨z0,h0,r0⟩:=nS r (by simpa using hz');rcases hx z0 h0 with rfl|⟨i,rfl⟩
 subst r0;exact SeqAt.EqAt.none_tuple tl hin;obtain⟨tk,rfl⟩:=r0;exact SeqAt.EqAt.int_tuple _ _ tl hin
 have:AJ.toArray.any (λj=>false)=false:=by
  simp
 rw[this];exact q
section
variable{X:Cx}
theorem nT:∀ {us:sV} {ys:tY},StrsAre us ys->Vals (ys.map V.str) us
 |_,_,.nil=>.nil
 |_,_,.cons z t h=>.cons ⟨_,rfl⟩ (nT h)
def W1(K:ι):Oq->Hp->VK->Prop:=λxs H Q=>∃ (p:Addr) (ys:tY),xs=[.ref p]/\SqL K H p (ys.map V.str)/\ys.length<64 /\
  ∀ (D:Addr) (ks:tY),H D=none->ks.Perm ys->sortedS ks=true->Q (.ref D) (upd H D<|.lst<|ks.map V.str)
def zce(hc:X.calm=true):EB X (.builtin "sorted") (W1 X.K):=by
 intro AA s σ H xs us Q I r h;revert h;apply u2;rintro p ys ⟨rfl,hp,hn,q⟩;obtain⟨AJ,rv,pl,hz⟩:=I.list hp;obtain⟨u,rfl,rfl⟩:=GQ r
 have CG:AJ.length=ys.length:=by simpa using rv.length.symm
 refine sorted_strs pl.isList (WW rv) (by omega) λout ks ho pk hr=>?_;obtain⟨c,g⟩:=sortedAll_at s.heap AJ out
 have hD:s.heap.objs.size<=s.heap.objs.size+1:=jm _;refine x2 (.ref _) _ {I.laid  (λb o e=>sortedAll_old e) hD ?_,rfl,q _ ks (I.hok.fresh hD) pk hr}
 have hl:ks.length<64:=by rw[pk.length_eq];exact hn
 exact{by rw[ζ,sx];omega,x2 out.toList c {nT ho,g}}
end
section
variable{P:bw}{w:World}{A:dk}{E:tQ}{s:ξ}
end
section
variable{X:Cx}
end
section
variable{X:Cx}{AA:tI}{σ:St}{H:Hp}{s:ξ}
variable{tg iter ES:Expr}{ET:wW}{scope:Scope}{pos:Pos}{td:TE}{g:TG}{tt:TT}{te:TE}{tn cn:tY}{A7:t3}
end
def FnScope.go(h1:sc.kind=.function:=by exact rfl)(h2:sc.isCoroutine=false:=by exact rfl)(h3:sc.isGenerator=false:=by exact rfl)(h4:N.Nodup:=by decide +kernel)(h5:N.take P.length=P:=by exact rfl)(h6:∀ x∈P,sc.names.lookup x=some .local\/sc.names.lookup x=some .cell:=by decide +kernel)(h7:∀ y∈sc.names,y.2≠.free:=by decide +kernel):FnScope N P sc:=⟨h1,h2,h3,h4,h5,h6,h7⟩
def Room.m(r:Room k A)(h:j<=k:=by decide):Room j A:=r.mono h
abbrev FP(P:bw)(w:World)(K:ι)(mg:UN)(base:Heap)(k:Nat)(f:Addr)(fd:gq)(ps:tY)(sp:Sp):Prop:=FnOk P w K mg base (D6 P w) k f fd ps sp
def Fun.okF{P:bw}{w:World}{K:ι}{mg:UN}{base:Heap}{x qual:Str}{st:Stmt}{f:Addr}{fd:gq}{N ps:tY}{k:Nat}{sp:Sp}(F:Fun K x qual st f fd)(rd:(St->XK)->TS)(S:FnScope N ps (AT st))(len:∀ {vs H Q E},sp vs H Q E->vs.length=ps.length)
  (ok:∀ {vs H Q E},sp vs H Q E->rd (λ_=>E) { nx:=λz H'=>Q .non H',rt:=Q } (AW N vs) H)
  (hb:∀ (CF:Value) (A:dk) (outer:zY) (s:ξ) (H:Hp) (E:XK),Room k (A.deeper<|xp qual (AT st) s.heap.objs.size f CF)->XOk (IP (D6 P w) P w K mg base N qual (AT st) f CF A outer s H E) (λz=>E) ->
   E9 (IP (D6 P w) P w K mg base N qual (AT st) f CF A outer s H E) (HA st) (rd λz=>E)):FP P w K mg base (k+1) f fd ps sp :=
 F.okE S (λz z z z=>len) λCF A outer s H z z E hr h=>{_,hb _ A _ s H E hr Uz,ok h}
section
variable{X:Cx}{pos:Pos}
def psl(i:Nat)(hN:X.N.Nodup)(he:PE X e te)(hi:X.N[i]? =some x:=by exact rfl)(hx:M7 X.env.scope x:=by exact Hi rfl)(hs:v_ e (some<|.Name x pos') pos.line X.env=pure false:=by rfl)(hf:X.fn x=true\/X.env.scope.names.lookup x=some .local:=by first|exact .inl rfl|exact .inr rfl|assumption) :
  PS X (.Assign [.Name x pos'] e pos) (AQ te<|AE i):=jZ hN hi hx he hs hf
def nU(i:Nat)(hN:X.N.Nodup)(hi:X.N[i]? =some x:=by exact rfl)(hx:M7 X.env.scope x:=by exact Hi rfl)(hf:X.fn x=true\/X.env.scope.names.lookup x=some .local:=by first|exact .inl rfl|exact .inr rfl|assumption):PG X (.Name x pos) (AE i):=jY hN hi hx hf
end
section
variable{X:Cx}{pos:Pos}
def pei{j pos'}(ha:PE X a ta):PE X (.Subscript a (.Constant (.int i) j pos') pos) (AD (BX X.K) ta (tC<|.int i)):=kQ mB ha jW<|λz z=>rfl
def FnScope.cp(_:FnScope N P outer)(h:SF scope outer N cn A7=true:=by decide +kernel)(h1:X.env.scope=outer:=by exact rfl)(h2:X.N=N:=by exact rfl):JX X scope tn cn A7:=mG h1 h2 h
end
section
variable{X:Cx}{E:St->XK}{k j:Nat}{x m:Str}{ps:tY}{sp:Sp}{C:Addr}{p pos C1:Pos}{e o e1 e2 e3:Expr}{es:wW}{ta tb tc td:TE}{t:TA}
def nX(h:PE X e ta)(s:ay [e] X.env=(false,eval e X.env)::ay [] X.env:=by rfl):PA X [e] (DB ta BE):=L4 h R0 s
def nY(h:PE X e ta)(h1:PE X e1 tb)(s:ay [e,e1] X.env=(false,eval e X.env)::ay [e1] X.env:=by rfl)(s1:ay [e1] X.env=(false,eval e1 X.env)::ay [] X.env:=by rfl):PA X [e,e1] (DB ta<|DB tb BE):=L4 h (nX h1 s1) s
def oE(h:PE X e ta)(h1:PE X e1 tb)(h2:PE X e2 tc)(s:ay [e,e1,e2] X.env=(false,eval e X.env)::ay [e1,e2] X.env:=by rfl)(s1:ay [e1,e2] X.env=(false,eval e1 X.env)::ay [e2] X.env:=by rfl)(s2:ay [e2] X.env=(false,eval e2 X.env)::ay [] X.env:=by rfl):PA X [e,e1,e2] (DB ta<|DB tb<|DB tc BE):=L4 h (nY h1 h2 s1 s2) s
def zch(h:PE X e ta)(h1:PE X e1 tb)(h2:PE X e2 tc)(h3:PE X e3 td)(s:ay [e,e1,e2,e3] X.env=(false,eval e X.env)::ay [e1,e2,e3] X.env:=by rfl)(s1:ay [e1,e2,e3] X.env=(false,eval e1 X.env)::ay [e2,e3] X.env:=by rfl)(s2:ay [e2,e3] X.env=(false,eval e2 X.env)::ay [e3] X.env:=by rfl)(s3:ay [e3] X.env=(false,eval e3 X.env)::ay [] X.env:=by rfl):PA X [e,e1,e2,e3] (DB ta<|DB tb<|DB tc<|DB td BE):=L4 h (oE h1 h2 h3 s1 s2 s3) s
def pcx(c:R9 X.prog X.w X.K X.mg X.base k x ps sp)(hr:Room j X.A)(hx:XOk X E)(ha:PA X (e::es) t)(hj:k<=j:=by decide)(hg:Gl X x:=by exact rfl)(hdb:(x ==("__debug__":Str))=false:=by decide)
  (he:ay (e::es) X.env=(false,eval e X.env)::ay es X.env:=by rfl) (BV:(ja pos<|ay es X.env).any (·.1)=false:=by rfl):PE X (.Call (.Name x p) (e::es) [] pos) (L5 sp [] E t):=WB c (hr.mono hj) hx.passes hg ha hdb he BV
def pmx(he:PE X o ta)(cl:Cls X.K C)(c:NE X.prog X.w X.K X.mg X.base C k m ps sp)(hr:Room j X.A)(hx:XOk X E)(ha:PA X (e::es) t)(hj:k<=j:=by decide)
  (hst:ay (e::es) X.env=(false,eval e X.env)::ay es X.env:=by rfl) (BV:(ja pos<|ay es X.env).any (·.1)=false:=by rfl)
  (ht:eval (.Call (.Attribute o m C1) (e::es) [] pos) X.env=(do
   let ov ← eval o X.env
   yg C1.atName
   let (f,first) ← tq [ov] (ul ov m pl)
   zn pos f first (ja pos<|ay (e::es) X.env) (u_ pos<|k_ [] X.env)):=by rfl):PE X (.Call (.Attribute o m C1) (e::es) [] pos) (IN C m sp [] E ta t):=WC he cl c (hr.mono hj) hx.passes ha hst BV ht
def pmz(he:PE X o ta)(cl:Cls X.K C)(c:NE X.prog X.w X.K X.mg X.base C k m ps sp)(hr:Room j X.A)(hx:XOk X E)(hj:k<=j:=by decide)
  (ht:eval (.Call (.Attribute o m C1) [] [] pos) X.env=(do
   let ov ← eval o X.env
   yg C1.atName
   let (f,first) ← tq [ov] (ul ov m pl)
   zn pos f first (ja pos<|ay [] X.env) (u_ pos<|k_ [] X.env)):=by rfl):PE X (.Call (.Attribute o m C1) [] [] pos) (IN C m sp [] E ta BE):=Vb he cl c (hr.mono hj) hx.passes ht
end
def Fun.oK(P:bw)(w:World){K:ι}(mg:UN)(base:Heap){x qual:Str}{st:Stmt}{f:Addr}{fd:gq}{N ps:tY}(k:Nat){sp:Sp}(F:Fun K x qual st f fd)(rd:(St->XK)->TS)(S:FnScope N ps (AT st))
  (ok:∀ {vs H Q E},sp vs H Q E->rd (λ_=>E) { nx:=λz H'=>Q .non H',rt:=Q } (AW N vs) H)
  (hb:∀ (CF:Value) (A:dk) (outer:zY) (s:ξ) (H:Hp) (E:XK),Room k (A.deeper<|xp qual (AT st) s.heap.objs.size f CF)->XOk (IP (D6 P w) P w K mg base N qual (AT st) f CF A outer s H E) (λz=>E) ->
   E9 (IP (D6 P w) P w K mg base N qual (AT st) f CF A outer s H E) (HA st) (rd λz=>E))
  (len:∀ {vs H Q E},sp vs H Q E->vs.length=ps.length:=by
   intro z z z z h
   repeat (first|(obtain⟨rfl,z⟩:=h;rfl)|(refine Or.elim h ?_ ?_<;>(clear h;intro h))|obtain⟨z,h⟩:=h)):FP P w K mg base (k+1) f fd ps sp:=F.okF rd S len ok hb
abbrev A1(N:tY)(k:Nat)(sc:Scope):Prop:=FnScope N (N.take k) sc
abbrev CI(P:bw)(w:World)(K:ι)(mg:UN)(base:Heap)(k:Nat)(x:Str)(_:FnScope N ps sc)(sp:Sp):Prop:=R9 P w K mg base k x ps sp
abbrev BR(P:bw)(w:World)(K:ι)(mg:UN)(base:Heap)(C:Addr)(k:Nat)(x:Str)(_:FnScope N ps sc)(sp:Sp):Prop:=NE P w K mg base C k x ps sp
abbrev NI(P:bw)(w:World)(K:ι)(mg:UN)(base:Heap)(C:Addr)(k:Nat)(x:Str)(_:FnScope N ps sc)(sp:Sp):Prop:=WA P w K mg base C k x ps sp
def oF{α :Type}:Nat->(List α ->Prop)->Prop
 |0,P=>P []
 |n+1,P=>∀ a,oF n λl=>P (a::l)
theorem un{α :Type}:∀ {n:Nat} {P:List α ->Prop},oF n P->∀ us:List α,us.length=n->P us
 |0,_,h,[],_=>h
 |_+1,_,h,a::us,e=>un (h a) us (Nr e)
def W2(x qual:Str)(st:Stmt)(ps:tY):Prop:=∀ (kV doc pm:Value) (an:Option Addr) (CF ct:Value) (us:sV),us.length=ps.length->bindArgs (xq x qual (JW st) (HA st) (AT st) .none kV doc pm an CF ct) {us,[]}=pure (ps.zip us)
structure GF(K:ι)(x:Str)(st:Stmt):Prop where
 ex:∃ (f:Addr) (fd:gq),jj K bq x=some (some<|.ref f)/\Fun K x x st f fd
structure GM(K:ι)(C:Addr)(m q:Str)(st:Stmt):Prop where
 ex:∃ (f:Addr) (fd:gq),ca K (.ref C) m=some (some<|.ref f)/\Kn K (.ref f)=true/\Fun K m q st f fd
structure GC(K:ι)(C:Addr)(x:Str):Prop where
 ac:jj K bq x=some (some<|.ref C)
 c:Cls K C
structure GN(K:ι)(C:Addr)(x q:Str)(st:Stmt):Prop where
 m:GM K C "__init__" q st
 mks:Go K C=true
 kc:pi K (.ref C)=true
 ac:jj K bq x=some (some<|.ref C)
structure GX(K:ι)(C:Addr)(x:Str):Prop where
 ac:jj K bq x=some (some<|.ref C)
 ex:W.excIn K C [.type "ValueError",.type "Exception",.type "BaseException",.type "object"] "ValueError.__new__"=true
section
variable{K:ι}{x q:Str}{st:Stmt}{C f:Addr}{oc:Value}{od an:Option Addr}{osl:Array (Option Value)}{kV doc pm CF ct:Value}
def gf(a:jj K bq x=some (some<|.ref f))(l:K.lookup f=some {oc,od,.func<|xq x x (JW st) (HA st) (AT st) .none kV doc pm an CF ct,osl})
  (c:zo K CF x=true) (k:pi K (.ref f)=true):GF K x st:={_,_,a,lJ l c k}
def gm(a:ca K (.ref C) x=some (some<|.ref f))(l:K.lookup f=some {oc,od,.func<|xq x q (JW st) (HA st) (AT st) .none kV doc pm an CF ct,osl})
  (c:zo K CF q=true) (k:pi K (.ref f)=true) (i:Kn K (.ref f)=true):GM K C x q st:={_,_,a,i,lJ l c k}
def gn(a:ca K (.ref C) "__init__"=some (some<|.ref f))(l:K.lookup f=some {oc,od,.func<|xq "__init__" q (JW st) (HA st) (AT st) .none kV doc pm an CF ct,osl})
  (c:zo K CF q=true) (k:pi K (.ref f)=true) (i:Kn K (.ref f)=true) (m:Go K C=true) (n:pi K (.ref C)=true) (s:jj K bq y=some (some<|.ref C)):GN K C y q st:={gm a l c k i,m,n,s}
def gc(a:jj K bq x=some (some<|.ref C))(l:yh K C Mr=true)(c:zj K C=true)(k:Iq K C=true)(i:ca K (.ref C) "__setattr__"=some (some<|.builtin "object.__setattr__")):GC K C x:=⟨a,l,c,k,i⟩
end
section
variable{P:bw}{w:World}{K:ι}{h:Heap}{mg:UN}{base:Heap}{x q:Str}{st:Stmt}{C:Addr}{k:Nat}{ps:tY}{sp:Sp}
def gfc(P:bw:=by assumption)(w:World:=by assumption)(base:Heap:=by assumption)(ok:∀ {f fd},Fun K x x st f fd->FP P w K mg base k f fd ps sp)(g:GF K x st:=by assumption)(X:K.In h:=by assumption)(G:h.Ns bq mg:=by assumption)
  (b:W2 x x st ps:=by intro z z z z z z;apply un;(repeat intro z);rfl):R9 P w K mg base k x ps sp:=by
 refine u2 ?_ g.ex;rintro f fd ⟨a,F⟩;exact{f,fd,ok F,ii X G a,F.kp,F.binds b}
def gmc(P:bw:=by assumption)(w:World:=by assumption)(base:Heap:=by assumption)(ok:∀ {f fd},Fun K x q st f fd->FP P w K mg base k f fd ps sp)(g:GM K C x q st:=by assumption)
  (b:W2 x q st ps:=by intro z z z z z z;apply un;(repeat intro z);rfl):NE P w K mg base C k x ps sp:=by
 refine u2 ?_ g.ex;rintro f fd ⟨a,i,F⟩;exact{f,fd,ok F,⟨a,i,F.kp⟩,F.binds b}
def gnc(P:bw:=by assumption)(w:World:=by assumption)(base:Heap:=by assumption)(ok:∀ {f fd},Fun K "__init__" q st f fd->FP P w K mg base k f fd ps sp)(g:GN K C x q st:=by assumption)(X:K.In h:=by assumption)(G:h.Ns bq mg:=by assumption)
  (b:W2 "__init__" q st ps:=by intro z z z z z z;apply un;(repeat intro z);rfl):WA P w K mg base C k x ps sp:=by
 refine u2 ?_ g.m.ex;rintro f fd ⟨a,i,F⟩;exact{f,fd,ok F,⟨g.mks,a,i,g.kc⟩,ii X G g.ac,F.binds b}
def GF.law(g:GF K x st)(X:K.In h)(G:h.Ns bq mg)(hfa:mg x=some (.ref fa))
  (b:∀ (kV doc pm:Value) (an:Option Addr) (CF ct:Value) (s:ξ) (v:Value),xg s (xq x x (JW st) (HA st) (AT st) .none kV doc pm an CF ct) {[v],[]} [("script",v)]) :
  ∃ fd:gq,(∀ (s:ξ) (v:Value),xg s fd {[v],[]} [("script",v)])/\Fun K x x st fa fd:=by
 refine u2 ?_ g.ex;rintro f fd ⟨a,F⟩;cases (hfa.symm.trans<|ii X G a);refine u9 ?_ F.ex;rintro oc od kV doc pm an CF ct osl ⟨rfl,lk,GO⟩;exact{_,b kV _ pm an _ ct,F}
end
def SO(K:ι)(to ti tv:TE)(rd:V->V->Hp->VK->Prop):TS:=λD σ H=>to σ H λx H1=>ti σ H1 λy H2=>∃ p xs,∃ n:Nat,∃ v,x=.ref p/\y=.int n/\SqL K H2 p xs/\xs[n]? =some v/\tv σ H2 λz H3=>rd v z H3 λu H4=>O8 (.ref p) (.int n) u H4 λH5=>D.nx σ H5
def zco{K:ι}{to ti tv:TE}{rd:V->V->Hp->VK->Prop}{D:Ends}{σ:St}{H:Hp}:SO K to ti tv rd D σ H=(to σ H λx H1=>ti σ H1 λy H2=>∃ p xs,∃ n:Nat,∃ v,x=.ref p/\y=.int n/\SqL K H2 p xs/\xs[n]? =some v/\tv σ H2 λz H3=>rd v z H3 λu H4=>O8 (.ref p) (.int n) u H4 λH5=>D.nx σ H5):=rfl
section
variable{X:Cx}{o i value:Expr}{td ty tv:TE}{tpos pos:Pos}
def zcp(ho:PE X o td)(hi:PE X i ty)(hv:PE X value tv)(hop:VJ X op rd)
  (ha:∀ ov iv new,augStore i ov iv new=(do tq [new,ov,iv] (Nn ov iv new);release [new,ov,iv] [];pure .next):=by intros;rfl):PS X (.AugAssign (.Subscript o i tpos) op value pos) (SO X.K td ty tv rd):=by
 refine λAA s σ H D I h=>wpAny_AugAssign_SubscriptAny (AS (ho _ s σ H _ I h) λu s1 ⟨x,H1,I1,rx,q1⟩=>AS (hi _ s1 σ H1 _ I1 q1) λiv s2 hzz=>?_) ha;obtain⟨y,H2,I2,ry,p,xs,n,v,ex,ey,hq,hx,q2⟩:=hzz;subst ex ey
 have ry':=ry;obtain rfl:u=fk p:=rx;obtain⟨t,rfl⟩:=ry;obtain⟨AJ,r,pl,hz⟩:=I2.list hq
 have hn:=OV;obtain⟨w,ew,rw'⟩:=r.get hx
 have A0:=(ε.mp hx).1;exact wpAny_getItem_list pl.isList (by lia) (by lia)  (by simpa using ew) (AS (hv _ s2 σ H2 _ I2 q2) (by rintro w2 s4 ⟨y2,H3,I4,ry2,q3⟩;exact AS (hop _ s4 σ H3 v y2 w w2 _ I4 rw' ry2 q3) (by rintro w3 s5 ⟨z,H4,I5,rz,q4⟩;exact(AS (mD _ s5 σ H4 (.ref p) _ z _ _ _ _ I5 rfl ry' rz q4) (by rintro q s6 ⟨H5,I6,q5⟩;exact⟨σ,H5,I6,q5⟩)))))
end
def zcq(l:Addr)(BW:Array Value)(n:Nat)(b:Addr)(items2:Array Value)(n2:Nat)(d:Option Addr)(sl:Array (Option Value))(hs0:¬(!BW.isEmpty&&kg (BW.size+items2.size))=true)(hs1:BW.size<=sizeLine)(hs2:BW.size+items2.size<=sizeLine+1) :
  Meets (vt.«list.extend» {[.ref l,.ref b],[]}) (λ_ R s=>s.heap.get? l=some { cls:=.type "list",dict:=none,data:=.seq BW n,slots:= #[] }/\s.heap.get? b=some { cls:=.type "tuple",dict:=d,data:=.seq items2 n2,slots:=sl }/\R (.ok<|.ret jp) { s with heap:=s.heap.update l<|lq λx=>x++items2,toks:=s.toks }) :=
 .of_wp λprog w A R s h=>by
  obtain⟨hl,hb,h⟩:=h;have hz':(BW++items2).size<=sizeLine+1:=by rw[En];exact hs2
  wp_walk using (zb hl rfl (hz:=hs1) ),xx hl,xx hb;exact⟨_,rfl,h⟩
def W3(K:ι):V->Oq->Hp->VK->Prop:=λx vs H Q=>∃ l b xs zs,x=.ref l/\vs=[.ref b]/\H l=some (.lst xs)/\SqT K H b zs/\xs.length+zs.length<=sizeLine/\Q .non (upd H l<|.lst<|xs++zs)
def zcr:R3 X "list.extend" (W3 X.K):=by
 rintro AA s σ H x vs v us Q I rx rv ⟨l,b,xs,zs,rfl,rfl,hH,hB,hz,q⟩;subst rx;obtain⟨z,AJ,n,r,hl,e⟩:=I.lstM hH;obtain⟨u,rfl,rfl⟩:=rv.one;obtain⟨LW,r2,⟨o,e2,hc,n2,hd⟩,hz2⟩:=I.tuple hB
 have C9:=r2.length;obtain⟨oc,od,odat,osl⟩:=o;subst hc hd
 have hsz:AJ.toArray.size+LW.toArray.size<=sizeLine:=by rw[az,az];lia
 have hlong:¬ (!AJ.toArray.isEmpty&&kg (AJ.toArray.size+LW.toArray.size))=true:=by
  rw[k7 hsz,Af];exact ax
 refine si F.slot_list_extend ⟨_,e,rfl⟩ F.entry_list_extend (F.args_list_extend_2 _ _)
  (zcq l AJ.toArray n b LW.toArray n2 _ _ hlong (by lia) (by lia)) {e,e2,{.non,_,I.lset  hH e (by simp) (r.append r2) ?_,rfl,q}}
 rw[af];omega
section
variable{X:Cx}{tg:Expr}
end
section
variable{K:ι}{g:TG}{tt:TT}{te:TE}{k:Nat}{A7:t3}{σ:St}{H:Hp}{Q:VK}
def W8(p:sX)(hn:xs.length<=sizeLine)(Pv:Nat->Oq->Hp->Prop)(h0:Pv 0 [] H)(hq:∀ i ys H,i<=xs.length->Pv i ys H->SqL K H b xs/\ys.length<=i)
  (ht:∀ i x ys H,xs[i]? =some x->Pv i ys H->∀ QB:Bool->Hp->Prop,QB (p i) H->tt (some x::CO A7 σ) H QB)
  (hs:∀ i x ys H,xs[i]? =some x->p i=true->Pv i ys H->te (some x::CO A7 σ) H λy H3=>Pv (i+1) (ys++[y]) H3)
  (hf:∀ i x ys H,xs[i]? =some x->p i=false->Pv i ys H->Pv (i+1) ys H)
  (hd:∀ ys H,Pv xs.length ys H->∀ q,H q=none->Q (.ref q) (upd H q<|.lst ys)):D8 (GB K b) (AE 0) tt te 1 A7 σ H Q:=by
 refine{λi m σ' ys H=>m=xs.length-i/\i<=xs.length/\(∃ x0,σ'=x0::CO _ σ)/\Pv i ys H,{xs.length,rfl,bv _,⟨_,rfl⟩,h0},?_};rintro i m σ' ys H ⟨rfl,hi,⟨x0,rfl⟩,P⟩;obtain⟨q,hl⟩:=hq i ys H hi P;by_cases A0:i<xs.length;refine .inr {{xs,xs[i],q,by simp[A0]},by lia,λx H' y=>?_};obtain⟨rfl,y⟩:=y
 have ex:=y xs q;refine ht i x ys _ ex P _ ?_;cases hp:p i with
 |true =>
  exact{_,λy H4 q=>{_,by omega,rfl,A0,⟨_,rfl⟩,q},hs i x ys _ ex hp P}
 |false =>
  exact{_,by omega,rfl,A0,⟨_,rfl⟩,hf i x ys _ ex hp P}
 have e:i=xs.length:=by lia
 subst e;exact .inl {{xs,q,υ _},hd ys H P}
def W9(p:sX)(hn:xs.length<=sizeLine)(Pv:Nat->Oq->Hp->Prop)(h0:Pv 0 [] H)(hq:∀ i ys H,i<=xs.length->Pv i ys H->SqL K H b xs/\ys.length<=i)
  (hu:∀ i ys H t o,Pv i ys H->H t=none->Pv i ys (upd H t o))
  (ht:∀ i x ys H,xs[i]? =some x->Pv i ys H->∀ QB:Bool->Hp->Prop,QB (p i) H->tt (some (.int (i:Int))::some x::CO A7 σ) H QB)
  (hs:∀ i x ys H,xs[i]? =some x->p i=true->Pv i ys H->te (some (.int (i:Int))::some x::CO A7 σ) H λy H3=>Pv (i+1) (ys++[y]) H3)
  (hf:∀ i x ys H,xs[i]? =some x->p i=false->Pv i ys H->Pv (i+1) ys H)
  (hd:∀ ys H,Pv xs.length ys H->∀ q,H q=none->Q (.ref q) (upd H q<|.lst ys)):D8 (K6 K b) (FN K 2<|DK (AE 0) (DK (AE 1) FM)) tt te 2 A7 σ H Q:=by
 refine{λi m σ' ys H=>m=xs.length-i/\i<=xs.length/\(∃ x0 x1,σ'=x0::x1::CO _ σ)/\Pv i ys H,{xs.length,rfl,bv _,⟨_,_,rfl⟩,h0},?_};rintro i m σ' ys H ⟨rfl,hi,⟨x0,x1,rfl⟩,P⟩;obtain⟨q,hl⟩:=hq i ys H hi P;by_cases A0:i<xs.length;refine .inr {{xs,xs[i],q,by simp[A0]},by lia,λv H' hzz=>?_};obtain⟨t,ht0,e,x,e',q1⟩:=hzz
 have ex:=q1 xs q;subst e e'
 have P':=hu i ys H t (.tup [.int i,x]) P ht0;refine{t,_,rfl,SqT.of AF,rfl,({_,_,rfl,{_,_,rfl,{rfl,(ht i x ys _ ex P' _ ?_)}}})};cases hp:p i with
 |true =>
  exact{_,λy H4 q=>{_,by omega,rfl,A0,⟨_,_,rfl⟩,q},hs i x ys _ ex hp P'}
 |false =>
  exact{_,by omega,rfl,A0,⟨_,_,rfl⟩,hf i x ys _ ex hp P'}
 have e:i=xs.length:=by lia
 subst e;exact .inl {{xs,q,υ _},hd ys H P}
end
section
variable{prog:bw}{w:World}{K:Type}[DecidableEq K]{CW:HeapKind prog w K}{A:dk}{E:tQ}{s:ξ}
def zcs(hu:CW.room A)(hkey:CW.is s.heap k a)(hm:s.heap.DictOfH CW d xs)
  (hQ:∀ h',h'.DictOfH CW d (xh xs k a v)->gj d s.heap h'->Q () { s with heap:=h' }) (hsz:xs.length<=sizeLine) :
  wpAny (model prog w) A (dictSetHashed d (.ref a) (CW.hash k) v) Q E s:=by
 revert hm;apply u3;rintro o es ep ⟨ho,hc,hd,he,his,hn⟩
 have keep:∀ {f:Obj->Obj} {x:K × Addr × Value},x∈xs->CW.is (s.heap.update d f) _ _:=λhx=>CW.keeps (his _ hx) ho hd (e_ ..);unfold dictSetHashed
 try with_reducible refine fm ?_
 refine δ<|wpAny_dictFind_heap hu hkey ho hd he his hn (λhno=>?_) λj p hj=>?_;refine δ (sj (wpAny_updateDictKeys (hz:=by have e:=size_of_entries he;lia) ho hd (hQ _ ?_<|e_ ..)));rw[(storedH_new (atKey_none_of_get hno) a v)];refine x3 _ _ _ {df _ ho<|vn<|nv hd _,hc.mapDictKeys _,nv hd _,by simp[he,wb],λx hx=>?_,?_};rcases a_.mp hx with hx|hx
 exact keep hx;cases ae.mp hx;exact CW.keeps hkey ho hd<|e_ ..;rw[ai,mz];refine{hn,by simp,λx hx y hy e=>not_mem_keys_of_get hno ?_};rw[show k=y from(ae.mp hy).symm,<-e];exact hx;refine δ<|sj<|δ<|wpAny_updateDict ho hd<|Iv<|hQ _ ?_<|e_ ..;rw[(storedH_old (atKey_of_get hn hj) a v)];refine x3 _ _ ep {df _ ho<|vn<|Hu hd _,hc.mapDict _,Hu hd _,?_,λx hx=>?_,by rw[keys_map_putAt];exact hn}
 have:=modify_map_putAt (wb CW) (λe:DictEntry=>{ e with val:=v }) k v (λz z=>rfl) hn hj;rw[<-he]at this;simpa using this;obtain⟨y,hy,rfl⟩:=av.mp hx
 have kk:=λf=>keep (f:=f) hy;unfold putAt;split;exact kk _;exact kk _
def IY(xs ys:List (K × Addr × Value)):List (K × Addr × Value):=ys.foldl (λBP y=>xh BP y.1 y.2.1 y.2.2) xs
def zct(xs:List (K × Addr × Value))(k:K)(a:Addr)(v:Value):(xh xs k a v).length<=xs.length+1:=by
 unfold xh;split;rw[ζ];lia;rw[af];exact υ _
theorem oI:∀ (ys xs:List (K × Addr × Value)),(IY xs ys).length<=xs.length+ys.length
 | [],xs=>υ _
 |y::ys,xs=>by
  have h1:=oI ys<|xh xs y.1 y.2.1 y.2.2
  have h2:=zct xs y.1 y.2.1 y.2.2
  show(IY _ ys).length<=_;rw[de];lia
def zcu{xs ys:List (K × Addr × Value)}{y:K × Addr × Value}(h:ys[i]? =some y):IY xs (ys.take<|i+1)=xh (IY xs<|ys.take i) y.1 y.2.1 y.2.2:=by
 have:ys.take (i+1)=ys.take i++[y]:=by rw[ci,h];rfl
 unfold IY;rw[this,ke]
 rfl
def zcv(ho:s.heap.get? a=some o)(hc:o.cls=.type "tuple")(h:Q false s):wpAny (model prog w) A (Builtin.Dict.quietEq<|.ref a) Q E s:=δ<|vh ⟨o,ho,hc⟩ F.slot_tuple_eq.lookup (π h)
def XA(CW:HeapKind prog w K)(ys:List (K × Addr × Value)):Prop:=(ys.map λy=>CW.hash y.1).Nodup
def zcw{id:String}{d:Addr}{o:Obj}{es ep}{ys:List (K × Addr × Value)}{Q:Array DictEntry->ξ->Prop}(ho:s.heap.get? d=some o)(hd:o.data=.dict es ep)(he:es.toList=ys.map (wb CW))(ht:∀ y∈ys,∃ ob,s.heap.get? y.2.1=some ob/\ob.cls=.type "tuple")(ap:XA CW ys)(h:Q es s) :
  wpAny (model prog w) A (Builtin.Dict.entriesForEmpty id d) Q E s:=by
 refine δ<|m_ ho hd ?_
 have one:∀ e∈es.toList,(es.filter (·.hash==e.hash)).size<=1:=λe hm=>by
  rw[<-cy,Array.toList_filter,he,zd,ζ];rw[he]at hm;obtain⟨y,hy,rfl⟩:=av.mp hm
  have:(ys.filter<|(λx:DictEntry=>x.hash ==(wb CW y).hash) ∘ wb CW).length=(ys.map λy=>CW.hash y.1).count (CW.hash y.1):=by
   rw[List.count_eq_countP,List.countP_map,List.countP_eq_length_filter]
   rfl
  rw[this];exact Ai.mp ap _
 refine δ ?_;rw[<-Array.forIn_toList];refine H_ _ (λCH z s'=>s'=s/\∀ e∈CH,e∈es.toList) _ ?_ ?_ _ _ {rfl,λe h=>h};rintro e CH b s' ⟨rfl,hall⟩
 have hm:=hall e χ
 have hm':=hm;rw[he]at hm';obtain⟨y,hy,ey⟩:=av.mp hm'
 have ek:e.key=.ref y.2.1:=by rw[<-ey];rfl
 obtain⟨ob,h1,h2⟩:=ht y hy;rw[ek];refine δ<|zcv h1 h2 ?_;simp only[Bool.not_false,if_true];rw[if_neg (by have:=one e hm;omega)];exact π {rfl,λe' h'=>hall e'<|ρ _ h'};rintro b s' ⟨rfl,z⟩;exact π h
def zcx{xs ys:List (K × Addr × Value)}{Q:Unit->ξ->Prop}(hu:CW.room A)(hdo:d≠o)(hoS:(o == iw)=false)
  (hd:s.heap.DictOfH CW d xs) (ho:s.heap.DictOfH CW o ys) (ht:∀ y∈ys,∃ ob,s.heap.get? y.2.1=some ob/\ob.cls=.type "tuple") (ap:xs=[]->XA CW ys)
  (hQ:∀ h',(h'.DictOfH CW d (IY xs ys)\/(xs=[]/\h'.DictOfH CW d ys))->gj d s.heap h'->Q () { s with heap:=h' })
  (hsz:xs.length+ys.length<=sizeLine) :
  wpAny (model prog w) A (yu nm d o) Q E s:=by
 refine u3 ?_<|id hd;rintro od esd epd ⟨hod,GO,hdd,hed,hisd,hnd⟩;refine u3 ?_<|id ho;rintro oo IJ epo ⟨hoo,hco,hdo',heo,hiso,hno⟩
 have szo:=size_of_entries heo;unfold yu;rw[if_neg (by simpa using hdo)];unfold Builtin.Dict.showsAll;rw[if_neg (by rw[hoS];exact ax)];refine δ<|π<|δ<|m_ hoo hdo' ?_;dsimp only;split
 any_goals (refine δ<|m_ hod hdd ?_;split)
 rename_i hemp
 have hxs:xs=[]:=by
  rw[(Fu.mp hemp)]at hed;exact Bf.mp hed.symm
 refine δ<|zcw  hoo hdo' heo ht (ap hxs) ?_;split;refine δ (wpAny_updateDictKeysTo hod hdd (π (hQ _ (.inr ⟨hxs,_,_,_,df _ hod<|vn<|nv hdd _,GO.mapDictKeys _,
  nv hdd _,heo,λx hx=>CW.keeps (hiso x hx) hod hdd (e_ ..),hno⟩) (e_ ..))) (by lia))
 rename_i hne
 have h0:=Fu.mp (by simpa using hne)
 have hm0:=ff.mp (by rw[<-szo,h0];rfl);subst hm0;exact π<|hQ _ (.inl hd) (xn _ _)
 all_goals
  refine δ<|wpAny_dictEpoch hoo hdo'<|δ<|m_ hoo hdo'<|δ ?_;rw[An];refine H_ _
   (λCH _ s'=>∃ h' i,s'={ s with heap:=h' }/\CH=Oa i (IJ.size-i)/\i<=IJ.size/\h'.DictOfH CW d (IY xs<|ys.take i)/\gj d s.heap h')
   _ ?_ ?_ _ _ (x2 s.heap 0 {rfl,by simp,bv _,hd,xn _ _})
  rintro x CH b s' ⟨h',i,rfl,hr,hi,hd',hs'⟩
  have A0:i<IJ.size:=by
   rcases eq i IJ.size with h|h
   ·exact h
   ·rw[Nat.sub_eq_zero_of_le h]at hr;simp at hr
  obtain⟨rfl,hrest⟩:x=i/\CH=Oa (i+1) (IJ.size-(i+1)):=by
   rw[show IJ.size-i=(IJ.size-(i+1))+1 by omega,Ic]at hr;injection hr with h1 h2
   exact⟨h1,h2⟩
  have hoo':h'.get? o=some oo:=(hs'.2 o<|eh hdo).trans hoo;obtain⟨y,hy⟩:∃ y,ys[x]? =some y:={ys[x]'(by lia),η _}
  have hk:CW.is h' y.1 y.2.1:=CW.keeps (hiso y<|θ hy) hod hdd hs';refine δ<|m_ hoo' hdo' ?_;rw[entry_at heo x,hy]
  have hmx:(IY xs<|ys.take x).length<=sizeLine:=by
   have e1:=oI (ys.take x) xs
   have e2:(ys.take x).length<=ys.length:=by rw[ce];lia
   lia
  refine δ<|fm<|zcs (s:={ s with heap:=h' }) hu hk hd' (λh2 hd2 hs2=>?_) hmx
  have hoo2:h2.get? o=some oo:=(hs2.2 o<|eh hdo).trans hoo';refine δ<|wpAny_dictEpoch hoo2 hdo' ?_;rw[if_neg (by simp)];exact π (x2 h2 (x+1) {rfl,hrest,A0,by rw[zcu hy];exact hd2,hs'.trans hs2})
  ·rintro b s' ⟨h',i,rfl,hr,hi,hd',hs'⟩
   have hin:i=IJ.size:=by
    rcases eq i IJ.size with h|h
    ·rw[show IJ.size-i=(IJ.size-(i+1))+1 by omega,Ic]at hr;exact nomatch hr
    ·exact j_ hi h
   refine π<|hQ h' (.inl ?_) hs';rw[hin,szo,bz]at hd';exact hd'
def zcy(CW:HeapKind prog w K)(d o:Addr)(hdo:d≠o)(hoS:(o == iw)=false) :
  MeetsIn prog w (vt.«dict.update» {[.ref d,.ref o],[]}) (λA R s=>CW.room A.in1/\∃ xs ys,s.heap.DictOfH CW d xs/\s.heap.DictOfH CW o ys/\(∀ y∈ys,∃ ob,s.heap.get? y.2.1=some ob/\ob.cls=.type "tuple")/\(xs=[]->XA CW ys)/\xs.length+ys.length<=sizeLine ∧
   ∀ h',(h'.DictOfH CW d (IY xs ys)\/(xs=[]/\h'.DictOfH CW d ys))->gj d s.heap h'->R (.ok<|.ret .none) { s with heap:=h' }) :=
 .of_wp λA R s ⟨hu,xs,ys,hd,ho,ht,ap,hsz,h⟩=>by
  refine δ<|δ<|wpAny_notOrdered_dict hd.typeIs<|π ?_;exact δ<|yk ho.typeIs<|δ<|δ<|δ<|om ho.typeIs isSubtype_dict_dict<|δ<|vh ho.typeIs F.slot_dict_iter.lookup<|π<|δ<|π<|zcx hu hdo hoS hd ho ht ap (λh' hd' hs'=>(δ<|π<|π {_,rfl,h h' hd' hs'})) hsz
end
def EK(kvs more:aH):aH:=more.foldl (λBP kv=>CA BP kv.1 kv.2) kvs
def KT.merge:∀ {more:aH} {ys:tE} {kvs:aH} {xs:tE},KT H more ys->KT H kvs xs->KT H (EK kvs more) (IY xs ys):=by
 intro more ys kvs xs r
 induction r generalizing kvs xs with
 |nil=>intro q;exact q
 |@cons p q ps qs h t ih =>
  intro r0
  have e:KT H (CA kvs p.1 p.2) (xh xs q.1 q.2.1 q.2.2):=by
   rw[<-h.1];exact(r0.put _ h.2.1 h.2.2)
  exact ih e
theorem XB:∀ (more kvs:aH),(EK kvs more).length<=kvs.length+more.length
 | [],kvs=>υ _
 |p::r,kvs=>by
  have h2:=IS kvs p.1 p.2
  have h1:=XB r<|CA kvs p.1 p.2
  show(EK _ r).length<=_;rw[de];lia
theorem XC:∀ (more BP:aH),((BP++more).map (·.1)).Nodup->EK BP more=BP++more
 | [],BP,_=>by simp[EK]
 |p::r,BP,h=>by
  have e:CA BP p.1 p.2=BP++[p]:=by
   unfold CA;rw[if_neg];rw[dq];rintro ⟨x,hx,he⟩;rw[ai,mz]at h;exact h.2.2 _ (av.mpr ⟨x,hx,rfl⟩) _ (by simp) (of_decide_eq_true he)
  show EK (CA _ _ _) r=_;rw[e,XC r _ (by rw[dw];exact h),dw]
  rfl
def KT.keys(r:KT H kvs xs):kvs.map (·.1)=xs.map (·.1):=by
 induction r with
 |nil=>rfl
 |cons h t ih=>rw[dg,dg,ih,h.1]
def SQ(more:aH):Prop:=∀ (P:bw) (w:World),((more.map (·.1)).map (nw<|EH P w).hash).Nodup
def XD:V->Oq->Hp->VK->Prop:=λx vs H Q=>∃ d o kvs more,x=.ref d/\vs=[.ref o]/\d≠o/\H d=some (.dT kvs)/\H o=some (.dT more)/\(kvs=[]->SQ more)/\kvs.length+more.length<=sizeLine/\Q .non (upd H d<|.dT<|EK kvs more)
def zcz(hu:X.A.units+1<cLine):R3 X "dict.update" XD:=by
 intro AA s σ H x vs v us Q I rx rv h;revert h;apply u4;rintro d o kvs more ⟨rfl,rfl,hdo,hH,hO,ap,hz,q⟩;subst rx;obtain⟨z1,hd1,xs,rel1,dd1⟩:=R5 I.hok hH;obtain⟨u,rfl,rfl⟩:=rv.one;obtain⟨z2,hd2,ys,rel2,dd2⟩:=R5 I.hok hO
 have l1:=Paired.length rel1
 have l2:=Paired.length rel2
 have nd:(more.map (·.1)).Nodup:=by
  revert dd2;apply u3;rintro _ _ _ ⟨_,_,_,_,_,hn⟩;rw[rel2.keys];exact hn
 refine vq PySem.F.slot_dict_update dd1.typeIs PySem.F.entry_dict_update (PySem.F.args_dict_update_2 _ _) (zcy (nw<|EH X.prog X.w) d o hdo hd2) {iy hu,x2 xs ys {dd1,dd2,λy hy=>?_,λe=>?_,by lia,λh' dd hs=>?_}}
 ·revert dd2;apply u3;rintro _ _ _ ⟨_,_,_,_,his,_⟩;refine u3 ?_<|his y hy;rintro ob _ _ ⟨h1,h2,_⟩;exact⟨ob,h1,h2⟩
 ·have:=ap (ff.mp (by rw[l1,e];rfl)) X.prog X.w;rw[rel2.keys,oq]at this;exact this
 ·have tk:∀ {kvs':aH} {xs':tE},KT H kvs' xs'->KT (upd H d<|.dT<|EK kvs more) kvs' xs':=λr=>r.keeps λc ys ec=>by
   rw[AI (BH ec hH (λz=>nomatch z))];exact ec
  have fin:∀ {xs'},KT H (EK kvs more) xs'->h'.DictOfH (nw<|EH X.prog X.w) d xs'->EP X AA σ Q .none { s with heap:=h' }:=λ{xs'} r dd'=>by
   revert dd';apply u3;rintro ob es ep ⟨hq,h2,h3,h4,_,h5⟩;exact x2 (.non) _ {R6 (ob:=.dT<|EK kvs more) I (by rw[hH];exact rn) hs ⟨ob,hq⟩ {(by have:=XB more kvs;lia),hd1,_,tk r,x3 ob es ep ⟨hq,h2,h3,h4,h5⟩},rfl,q}
  rcases dd with dd|⟨e,dd⟩
  ·exact fin (rel2.merge rel1) dd
  ·have e0:kvs=[]:=ff.mp (by rw[l1,e];rfl);refine fin ?_ dd;rw[e0,XC more [] nd];exact rel2
def SR(H:Hp)(ps:List (V × V))(kvs:aH):Prop:=Paired (λ(q:V × V) (kv:List AO × V)=>(∃ b,q.1=.ref b/\H b=some (.tup<|kv.1.map kV))/\q.2=kv.2) ps kvs
def zc0:upd (upd H p o) p o'=upd H p o':=by
 funext x;by_cases e:x=p;rw[e,AF,AF];rw[AI e,AI e,AI e]
def zc1(h:H p=some o):upd H p o=H:=by
 funext x;by_cases e:x=p;rw[e,AF,h];rw[AI e]
def zc2(hu:X.A.units+1<cLine):∀ (ws:List (Value × Value)) (ps:List (V × V)) (kvs BP:aH) (s:ξ) (H:Hp) (Q:PUnit->ξ->Prop),Inv X AA σ H s->H d=some (.dT BP)->VV ps ws->SR H ps kvs->BP.length+kvs.length<=sizeLine ->
  (∀ s',Inv X AA σ (upd H d<|.dT<|EK BP kvs) s'->Q PUnit.unit s')->wpAny (model X.prog X.w) X.A (storeAll d ws) Q E s:=by
 intro ws
 induction ws with
 |nil =>
  intro ps kvs BP s H Q I e rel kr hz h;cases rel;cases kr;refine π<|h s ?_
  show Inv X _ σ (upd H d<|.dT BP) s;rw[zc1 e];exact I
 | cons x ws ih =>
  intro ps kvs BP s H Q I e rel kr hz h;cases rel with
  | @cons p _ ps _ rp rel =>
   cases kr with
   |@cons _ kv _ kvs hk kr =>
    obtain⟨⟨b,eb,hb⟩,ev⟩:=hk;obtain⟨u,v⟩:=x
    have r2:=rp.2
    have r1:=rp.1;rw[eb]at r1;rw[ev]at r2;cases (r1);rw[de]at hz;obtain⟨z,hd,xs,rl,dd⟩:=R5 I.hok e
    have hl:=IS BP kv.1 kv.2;unfold storeAll;rw[yz];refine δ (δ (wpAny_dictSet_heap (hsz:=(by rw[<-Paired.length rl];exact z))  (show X.A.units<cLine by lia) (KY I.hok hb) dd λh' dd' hs=>π ?_))
    have tk:∀ {o':HO} {c:Addr} {ys:Oq},H c=some (.tup ys)->upd H d o' c=some _:=λec=>by
     rw[AI (BH ec e (λz=>nomatch z))];exact ec
    revert dd';apply u3;rintro q es ep ⟨hq,h2,h3,h4,_,h5⟩
    have I':Inv X _ σ _ { s with heap:=h',toks:=s.toks+(nw<|EH X.prog X.w).draws kv.1 } :=
     R6 (ob:=.dT _) I (by rw[e];exact rn) hs ⟨q,hq⟩ {by omega,hd,_,(rl.put _ hb r2).keeps λc ys ec=>tk ec,x3 q es ep ⟨hq,h2,h3,h4,h5⟩}
    refine ih ps _ _ _ _ Q I' AF rel (Paired.mapP kr (by rintro q kv' ⟨⟨b',e1,e2⟩,e3⟩;exact{{b',e1,tk e2},e3})) (by omega) λs' i=>h s' ?_;rw[zc0]at i;exact i
def MC(trs:List (TE × TE)):TE:=λσ H Q=>∀ p,H p=none->L9 trs σ (upd H p<|.dT []) λps H2=>H2 p=some (.dT [])/\∃ kvs:aH,SR H2 ps kvs/\kvs.length<=15/\Q (.ref p) (upd H2 p<|.dT<|EK [] kvs)
def zc3(hu:X.A.units+1<cLine)(h:R7 X pos keys values trs)(hall:keys.all (·.isSome)=true)(hl:keys.length=values.length)(h0:keys≠[])
  (h15:keys.length<=15):PE X (.Dict keys values pos) (MC trs):=by
 refine λAA s σ H Q I q=>wpAny_Dict_any hall hl h0 h15<|AS (h _ _ σ _ _ (I.laid     (λz z q=>ο _ q) (υ _) (lH _ I.big)) (q _<|I.hok.fresh<|υ _)) λws s2 ⟨ps,H2,I2,rel,e,kvs,kr,lk,q2⟩=>(zc2 hu ws ps _ [] s2 H2 _ I2 e rel kr ?_ λs' i=>x2 (.ref _) _ ⟨i,rfl,q2⟩);rw[sx,mj];lia
def zc4:MC trs σ H Q=∀ p,H p=none->L9 trs σ (upd H p<|.dT []) λps H2=>H2 p=some (.dT [])/\∃ kvs:aH,SR H2 ps kvs/\kvs.length<=15/\Q (.ref p) (upd H2 p<|.dT<|EK [] kvs):=rfl
def zc5:VW td ty tx σ H Q=(td σ H λx H1=>∃ a,x=.ref a/\ND H1 a/\ty σ H1 λy H2=>tx σ H2 λz H3=>∃ o,DGet H3 a y o/\Q (o.getD z) H3):=rfl
def zc6:L9 [] σ H QP=QP [] H:=rfl
def zc7:L9 ((tk,tv)::r) σ H QP=(tk σ H λx H1=>tv σ H1 λy H2=>L9 r σ H2 λps H3=>QP ((x,y)::ps) H3):=rfl
section
variable{X:Cx}{tg:Expr}
end
section
variable{X:Cx}
end
def CQ(x:V)(P:zV):Prop:=match x with
 |.ref a=>P a
 |_=>False
def GR(x:V)(P:Int->Prop):Prop:=match x with
 |.int a=>P a
 |_=>False
def J2(x:V)(P:Bool->Prop):Prop:=match x with
 |.bl a=>P a
 |_=>False
def FC(xs:Oq)(P:V->Prop):Prop:=match xs with
 | [x]=>P x
 |_=>False
def PZ(xs:Oq)(P:V->Oq->Prop):Prop:=match xs with
 |x::r=>P x r
 |_=>False
def P7(xs:Oq)(P:Prop):Prop:=match xs with
 | []=>P
 |_=>False
def GG:CQ x P=∃ a,x=.ref a/\P a:=by cases x<;>simp[CQ]
def P8:GR x P=∃ a,x=.int a/\P a:=by cases x<;>simp[GR]
def XF:J2 x P=∃ a,x=.bl a/\P a:=by cases x<;>simp[J2]
def NJ:FC xs P=∃ x,xs=[x]/\P x:=by rcases xs with _|⟨x,_|⟨y,r⟩⟩<;>simp[FC]
def zc8:PZ xs P=∃ x r,xs=x::r/\P x r:=by
 rcases xs with _|⟨x,r⟩<;>simp[PZ]
 exact{λh=>{x,r,⟨rfl,rfl⟩,h},(by rintro ⟨z,z,⟨e,e'⟩,h⟩;exact e ▸ e' ▸ h)}
def zc9:P7 xs P=(xs=[]/\P):=by rcases xs with _|⟨x,r⟩<;>simp[P7]
section
variable{P:zV}{PI':Int->Prop}{PB:Bool->Prop}{P1:V->Prop}{P2:V->V->Prop}{PC':V->Oq->Prop}{Z:Prop}{p:Addr}{i:Int}{b:Bool}{x y:V}{r:Oq}
def zda:CQ (.ref p) P=P p:=rfl
def zdb:GR (.int i) PI'=PI' i:=rfl
def zdc:J2 (.bl b) PB=PB b:=rfl
def zdd:FC [x] P1=P1 x:=rfl
def zde:PZ (x::r) PC'=PC' x r:=rfl
def zdf:P7 [] Z=Z:=rfl
def zdg:@ite Prop (true=true) (instDecidableEqBool true true) A B=A:=rfl
def zdh:@ite Prop (false=true) (instDecidableEqBool false true) A B=B:=rfl
def zdi:(!true)=false:=rfl
def zdj:(!false)=true:=rfl
def zdk{α β :Type}:Ao f (a::l)=f a::Ao f l:=rfl
def zdl{α β :Type}:Ao f []=[]:=rfl
end
section
variable{K:ι}{ta tb tc to ti tv tl td ty tx:TE}{s1:TS}{r r':R2}{σ:St}{H:Hp}{Q:VK}{D:Ends}{QB:ZQ}{as:TA}{g:TG}{gs:G6}{tt:TT}{te:TE}{k i:Nat}{A7:t3}{f m:Str}{C:Addr}{sp:Sp}{E:St->XK}{v:V}{vs:Oq}{QG:St->Hp->Prop}{X:Cx}{e:Expr}{es:wW}{st:Stmt}{tg it:Expr}{QO:Option Int->Hp->Prop}{p q:Addr}{x y:Int}{b b':Bool}{s s':Str}
def AR(K:ι)(ta:TE)(f:Str):TE:=λσ H Q=>ta σ H λx H1=>CQ x λa=>∃ C dx fs,H1 a=some (.ins C dx fs)/\Cls K C/\NoAttr K C f/\∃ v,fs.lookup f=some v/\Q v H1
def zdm:AR K ta f=OX K ta f:=by funext σ H Q;simp only[AR,OX,GG];simp
def zdn:AR K ta f σ H Q=ta σ H λx H1=>CQ x λa=>∃ C dx fs,H1 a=some (.ins C dx fs)/\Cls K C/\NoAttr K C f/\∃ v,fs.lookup f=some v/\Q v H1:=rfl
def pFl(h:PE X e (OX K ta f)):PE X e (AR K ta f):=zdm ▸ h
def AN(C:Addr)(m:Str)(sp:Sp)(E:St->XK)(ta:TE)(t:TA):TE:=λσ H Q=>ta σ H λx H1=>CQ x λa=>∃ dx fs,H1 a=some (.ins C dx fs)/\fs.lookup m=none/\t σ H1 λvs H2=>sp (x::vs) H2 Q (E σ)
def zdp:AN C m sp E ta as=IN C m sp [] E ta as:=by funext σ H Q;simp only[AN,IN,GG];simp
def zdq:AN C m sp E ta as σ H Q=ta σ H λx H1=>CQ x λa=>∃ dx fs,H1 a=some (.ins C dx fs)/\fs.lookup m=none/\as σ H1 λvs H2=>sp (x::vs) H2 Q (E σ):=rfl
def SS(h:PE X e (IN C m sp [] E ta as)):PE X e (AN C m sp E ta as):=zdp ▸ h
def BL(sp:Sp)(E:St->XK)(t:TA):TE:=λσ H Q=>t σ H λvs H1=>sp vs H1 Q<|E σ
def zdr:BL sp E as=L5 sp [] E as:=by funext σ H Q;simp only[BL,L5,il]
def zds:BL sp E as σ H Q=as σ H λvs H1=>sp vs H1 Q (E σ):=rfl
def XG(h:PE X e (L5 sp [] E as)):PE X e (BL sp E as):=zdr ▸ h
def GS(C:Addr)(sp:Sp)(E:St->XK)(t:TA):TE:=λσ H Q=>t σ H λvs H1=>∀ x dx,H1 x=none->H1 dx=none->dx≠x->sp (.ref x::vs) (upd (upd H1 dx<|.own x) x (.ins C dx [])) (λv H2=>v=.non/\Q (.ref x) H2) (E σ)
def zdt:GS C sp E as=NA C sp [] E as:=by funext σ H Q;simp only[GS,NA,il]
def zdu:GS C sp E as σ H Q=as σ H λvs H1=>∀ x dx,H1 x=none->H1 dx=none->dx≠x->sp (.ref x::vs) (upd (upd H1 dx<|.own x) x (.ins C dx [])) (λv H2=>v=.non/\Q (.ref x) H2) (E σ):=rfl
def pMk(h:PE X e (NA C sp [] E as)):PE X e (GS C sp E as):=zdt ▸ h
def C2(K:ι)(ta tv:TE)(f:Str):TS:=λD σ H=>tv σ H λy H1=>ta σ H1 λx H2=>CQ x λa=>∃ C dx fs,H2 a=some (.ins C dx fs)/\Cls K C/\NoAttr K C f/\fs.length<1000/\D.nx σ (upd H2 a<|.ins C dx<|BQ f y fs)
def zdw:C2 K ta tv f=OY K ta tv f:=by funext D σ H;simp only[C2,OY,GG];simp
def zdx:C2 K ta tv f D σ H=tv σ H λy H1=>ta σ H1 λx H2=>CQ x λa=>∃ C dx fs,H2 a=some (.ins C dx fs)/\Cls K C/\NoAttr K C f/\fs.length<1000/\D.nx σ (upd H2 a<|.ins C dx<|BQ f y fs):=rfl
def pSf(h:PS X st (OY K ta tv f)):PS X st (C2 K ta tv f):=zdw ▸ h
def A8(t:TE):TT:=λσ H Q=>t σ H λx H'=>J2 x λk=>Q k H'
def XH:A8 ta=LY ta:=by funext σ H Q;simp only[A8,LY,XF]
def zdz:A8 ta σ H QB=ta σ H λx H'=>J2 x λk=>QB k H':=rfl
def K7(h:PT X e (LY ta)):PT X e (A8 ta):=XH ▸ h
def pTb(h:PT X e (tB ta)):PT X e (A8 ta):=by rw[XH];exact h
def FQ(r r':R2)(ta tb tc:TE):TE:=λσ H Q=>ta σ H λx H1=>tb σ H1 λy H2=>r x y H2 λz H3=>J2 z λk=>if k=true then tc σ H3 λw' H4=>r' y w' H4 Q else Q (.bl false) H3
def oJ:FQ r r' ta tb tc=LZ r r' ta tb tc:=by funext σ H Q;simp only[FQ,LZ,XF]
def zd1:FQ r r' ta tb tc σ H Q=ta σ H λx H1=>tb σ H1 λy H2=>r x y H2 λz H3=>J2 z λk=>if k=true then tc σ H3 λw' H4=>r' y w' H4 Q else Q (.bl false) H3:=rfl
def pCh(h:PE X e (LZ r r' ta tb tc)):PE X e (FQ r r' ta tb tc):=oJ ▸ h
def pCt(h:PT X e (LY<|LZ r r' ta tb tc)):PT X e (A8<|FQ r r' ta tb tc):=by rw[XH,oJ];exact h
def HX(ta tb:TE):TE:=λσ H Q=>ta σ H λx H1=>J2 x λc=>if c=true then tb σ H1 Q else Q (.bl false) H1
def zd4:HX ta tb=OR ta tb:=by funext σ H Q;simp only[HX,OR,XF]
def zd5:HX ta tb σ H Q=ta σ H λx H1=>J2 x λc=>if c=true then tb σ H1 Q else Q (.bl false) H1:=rfl
def pAv(h:PE X e (OR ta tb)):PE X e (HX ta tb):=zd4 ▸ h
def J3(K:ι)(x:V)(H:Hp)(Q:Bool->Prop):Prop:=match x with
 |.bl b=>Q b
 |.int i=>Q<|i != 0
 |.non=>Q false
 |x=>∃ k,IM K x H k/\Q k
def zd7{x:V}{Q:Bool->Prop}:J3 K x H Q=∃ k,IM K x H k/\Q k:=by cases x<;>simp[J3,IM]
def zd8{Q:Bool->Prop}:J3 K (.bl b) H Q=Q b:=rfl
def zd9{Q:Bool->Prop}:J3 K (.int x) H Q=Q (x != 0):=rfl
def zea{Q:Bool->Prop}:J3 K .non H Q=Q false:=rfl
def zeb{Q:Bool->Prop}:J3 K (.ref p) H Q=∃ k,IM K (.ref p) H k/\Q k:=rfl
def zec{Q:Bool->Prop}:J3 K (.str s) H Q=∃ k,IM K (.str s) H k/\Q k:=rfl
def FD(K:ι)(ta:TE):TT:=λσ H Q=>ta σ H λx H'=>J3 K x H' λk=>Q k H'
def zed:FD K ta=l9 K ta:=by funext σ H Q;simp only[FD,zd7]
def zee:FD K ta σ H QB=ta σ H λx H'=>J3 K x H' λk=>QB k H':=rfl
def pTr(h:PT X e (l9 K ta)):PT X e (FD K ta):=zed ▸ h
def NK(C:Int->Int->Prop)(g:Int->Int->V):R2:=λx y H Q=>GR x λi=>GR y λj=>C i j/\Q (g i j) H
def oM{C:Int->Int->Prop}{g:Int->Int->V}:NK C g=rI C g:=by funext x y H Q;simp only[NK,rI,P8];simp
def ST(g:Int->Int->V):R2:=λx y H Q=>GR x λi=>GR y λj=>Q (g i j) H
def zeg{g:Int->Int->V}:ST g=JT g:=by funext x y H Q;simp only[ST,JT,P8];simp
def SU(g:Int->V):V->Hp->VK->Prop:=λx H Q=>GR x λi=>Q (g i) H
def zeh{g:Int->V}:SU g=rU g:=by funext x H Q;simp only[SU,rU,P8]
abbrev SV:R2:=ST λi j=>.int<|i-j
abbrev CD:R2:=NK (λ_ j=>0<j) λi j=>.int<|i%j
abbrev EC:R2:=NK j5 λi j=>.int<|i/j
abbrev rPw:R2:=NK Nj λi j=>.int<|i^j.toNat
abbrev NL:V->Hp->VK->Prop:=SU λi=>.int (-i)
def zej{C:Int->Int->Prop}{g:Int->Int->V}:NK C g (.int x) (.int y) H Q=(C x y/\Q (g x y) H):=rfl
def zek{g:Int->Int->V}:ST g (.int x) (.int y) H Q=Q (g x y) H:=rfl
def zel{g:Int->V}:SU g (.int x) H Q=Q (g x) H:=rfl
def zem:B9 X (iq .Sub) SV:=by rw[SV,zeg];exact Nl
def zen:B9 X (iq .Mod) CD:=by rw[CD,oM];exact Nv
def zeo:B9 X (iq .FloorDiv) EC:=by rw[EC,oM];exact Nq
def zep:RV X (unaryOp .USub) NL:=by rw[NL,zeh];exact Ny
def rB(K:ι)(x y:V)(H:Hp)(R:ZQ):Prop:=match x,y with
 |.int i,.int j=>R (decide<|i=j) H
 |.str i,.str j=>R (decide<|i=j) H
 |.bl i,.bl j=>R (decide<|i=j) H
 |.non,.int _=>R false H
 |.int _,.non=>R false H
 |.non,.non=>R true H
 |x,y=>rD K x y H R
def CM(K:ι):R2:=λx y H Q=>rB K x y H λb=>Q<|.bl b
def DV(K:ι):R2:=λx y H Q=>rB K x y H λb=>Q<|.bl<|!b
def zeq:CM K (.int x) (.int y) H Q=Q (.bl<|decide<|x=y) H:=rfl
def zer:CM K (.str s) (.str s') H Q=Q (.bl<|decide<|s=s') H:=rfl
def zes:CM K (.bl b) (.bl b') H Q=Q (.bl<|decide<|b=b') H:=rfl
def zet:CM K .non (.int x) H Q=Q (.bl false) H:=rfl
def zeu:CM K (.int x) .non H Q=Q (.bl false) H:=rfl
def zev:CM K .non .non H Q=Q (.bl true) H:=rfl
def zew:CM K (.ref p) (.ref q) H Q=K3 K (.ref p) (.ref q) H Q:=rfl
def zex:CM K (.ref p) .non H Q=K3 K (.ref p) .non H Q:=rfl
def zey:CM K .non (.ref p) H Q=K3 K .non (.ref p) H Q:=rfl
def zez:CM K (.str s) .non H Q=K3 K (.str s) .non H Q:=rfl
def ze0:CM K .non (.str s) H Q=K3 K .non (.str s) H Q:=rfl
def ze1:DV K (.int x) (.int y) H Q=Q (.bl<|!decide (x=y)) H:=rfl
def ze2:DV K (.str s) (.str s') H Q=Q (.bl<|!decide (s=s')) H:=rfl
def ze3:DV K (.bl b) (.bl b') H Q=Q (.bl<|!decide (b=b')) H:=rfl
def ze4:DV K .non (.int x) H Q=Q (.bl true) H:=rfl
def ze5:DV K (.int x) .non H Q=Q (.bl true) H:=rfl
def ze6:DV K .non .non H Q=Q (.bl false) H:=rfl
def ze7:DV K (.ref p) (.ref q) H Q=K4 K (.ref p) (.ref q) H Q:=rfl
def ze8:DV K (.ref p) .non H Q=K4 K (.ref p) .non H Q:=rfl
def ze9:DV K .non (.ref p) H Q=K4 K .non (.ref p) H Q:=rfl
def nC{p q:Addr}(h:K4 K (.ref p) (.ref q) H Q):DV K (.ref p) (.ref q) H Q:=h
def oN(hu:X.A.units+64<cLine):B9 X (du .Eq) (CM X.K):=by
 intro AA s σ H x y v u Q I rx ry h;unfold CM rB at h;split at h;obtain⟨t,rfl⟩:=rx;obtain⟨w,rfl⟩:=ry;exact eq_int<|GD I h rfl;obtain⟨t,rfl⟩:=rx;obtain⟨w,rfl⟩:=ry;exact eq_str<|GD I h rfl;cases rx;cases ry;exact eq_bool<|GD I h rfl;cases rx;obtain⟨t,rfl⟩:=ry;exact PySem.EqNone.eq_none_int<|GD I h rfl;cases ry;obtain⟨t,rfl⟩:=rx;exact PySem.EqNone.eq_int_none<|GD I h rfl;cases rx;cases ry;exact PySem.EqNone.eq_none_none<|GD I h rfl;exact Vq hu AA s σ H _ _ v u Q I rx ry h
def oO(hu:X.A.units+64<cLine):B9 X (du .NotEq) (DV X.K):=by
 intro AA s σ H x y v u Q I rx ry h;unfold DV rB at h;split at h;obtain⟨t,rfl⟩:=rx;obtain⟨w,rfl⟩:=ry;exact ne_int<|GD I h rfl;obtain⟨t,rfl⟩:=rx;obtain⟨w,rfl⟩:=ry;exact ne_str<|GD I h rfl;cases rx;cases ry;exact ne_bool<|GD I h rfl;cases rx;obtain⟨t,rfl⟩:=ry;exact PySem.EqNone.ne_none_int<|GD I h rfl;cases ry;obtain⟨t,rfl⟩:=rx;exact PySem.EqNone.ne_int_none<|GD I h rfl;cases rx;cases ry;exact PySem.EqNone.ne_none_none<|GD I h rfl;exact Vv hu AA s σ H _ _ v u Q I rx ry h
def GT:R2:=λx y H Q=>match y with
 |.non=>Q (.bl<|decide<|x=.non) H
 |_=>False
def FR:R2:=λx y H Q=>match y with
 |.non=>Q (.bl<|!decide (x=.non)) H
 |_=>False
def zfa:GT v .non H Q=Q (.bl<|decide<|v=.non) H:=rfl
def zfb:FR v .non H Q=Q (.bl<|!decide (v=.non)) H:=rfl
def zfc:GT=lY:=by funext x y H Q;cases y<;>simp[GT,lY]
def zfd:FR=lZ:=by funext x y H Q;cases y<;>simp[FR,lZ]
def zfe:B9 X (du .Is) GT:=zfc ▸ Pd
def zff:B9 X (du .IsNot) FR:=zfd ▸ Pg
def FE(K:ι):Oq->Hp->VK->Prop:=λxs H Q=>FC xs λx=>∃ n,RW K x H n/\Q (.int n) H
def zfg:FE K=WH K:=by funext xs H Q;simp only[FE,WH,NJ];simp
def zfh:FE K vs H Q=FC vs λx=>∃ n:Nat,RW K x H n/\Q (.int n) H:=rfl
def zfi:EB X (.builtin "len") (FE X.K):=zfg ▸ Wy
def J5(K:ι):Oq->Hp->VK->Prop:=λxs H Q=>FC xs λx=>CQ x λp=>∃ ys,(SqL K H p ys\/SqT K H p ys)/\∀ l,H l=none->Q (.ref l) (upd H l<|.lst ys)
def zfj:J5 K=mE K:=by
 funext xs H Q;simp only[J5,NJ,GG];exact propext {(by rintro ⟨z,e,p,e',ys,h⟩;exact{p,ys,e' ▸ e,h}),(by rintro ⟨p,ys,e,h⟩;exact⟨_,e,p,rfl,ys,h⟩)}
def zfk:J5 K vs H Q=FC vs λx=>CQ x λp=>∃ ys,(SqL K H p ys\/SqT K H p ys)/\∀ l,H l=none->Q (.ref l) (upd H l<|.lst ys):=rfl
def zfl:EB X (.type "list") (J5 X.K):=zfj ▸ Wz
def K8(K:ι):Oq->Hp->VK->Prop:=λxs H Q=>FC xs λx=>CQ x λp=>∃ ys,((SqL K H p ys/\∀ l,H l=none->Q (.ref l) (upd H l<|.tup ys))\/(SqT K H p ys/\Q (.ref p) H))
def zfm:K8 K=mF K:=by
 funext xs H Q;simp only[K8,NJ,GG];exact propext {(by rintro ⟨z,e,p,e',ys,h⟩;exact{p,ys,e' ▸ e,h}),(by rintro ⟨p,ys,e,h⟩;exact⟨_,e,p,rfl,ys,h⟩)}
def zfn:K8 K vs H Q=FC vs λx=>CQ x λp=>∃ ys,((SqL K H p ys/\∀ l,H l=none->Q (.ref l) (upd H l<|.tup ys))\/(SqT K H p ys/\Q (.ref p) H)):=rfl
def zfo:EB X (.type "tuple") (K8 X.K):=zfm ▸ Xb
def NM(td ty:TE):TE:=λσ H Q=>td σ H λx H1=>ty σ H1 λy H2=>CQ x λa=>∃ v,DGet H2 a y (some v)/\Q v H2
def zfp:NM td ty=O3 td ty:=by funext σ H Q;simp only[NM,O3,GG];simp
def zfq:NM td ty σ H Q=td σ H λx H1=>ty σ H1 λy H2=>CQ x λa=>∃ v,DGet H2 a y (some v)/\Q v H2:=rfl
def pDg(h:PE X e (O3 td ty)):PE X e (NM td ty):=zfp ▸ h
def IZ(ty td:TE):TE:=λσ H Q=>ty σ H λy H1=>td σ H1 λx H2=>CQ x λa=>∃ o,DGet H2 a y o/\Q (.bl o.isSome) H2
def zfs:IZ ty td=O4 ty td:=by funext σ H Q;simp only[IZ,O4,GG];simp
def zft:IZ ty td σ H Q=ty σ H λy H1=>td σ H1 λx H2=>CQ x λa=>∃ o,DGet H2 a y o/\Q (.bl o.isSome) H2:=rfl
def pDi{op:CmpOp}{a b:Expr}(h:PC X op a b (O4 ty td)):PC X op a b (IZ ty td):=zfs ▸ h
def HY(ty td:TE):TE:=λσ H Q=>ty σ H λy H1=>td σ H1 λx H2=>CQ x λa=>∃ o,DGet H2 a y o/\Q (.bl<|!o.isSome) H2
def zfv:HY ty td=O5 ty td:=by funext σ H Q;simp only[HY,O5,GG];simp
def zfw:HY ty td σ H Q=ty σ H λy H1=>td σ H1 λx H2=>CQ x λa=>∃ o,DGet H2 a y o/\Q (.bl<|!o.isSome) H2:=rfl
def pDn{op:CmpOp}{a b:Expr}(h:PC X op a b (O5 ty td)):PC X op a b (HY ty td):=zfv ▸ h
def GU(td ty tv:TE):TS:=λD σ H=>tv σ H λv H1=>td σ H1 λx H2=>ty σ H2 λy H3=>CQ x λa=>∃ H4,DPut H3 a y v H4/\D.nx σ H4
def zfy:GU td ty tv=O6 td ty tv:=by funext D σ H;simp only[GU,O6,GG];simp
def zfz:GU td ty tv D σ H=tv σ H λv H1=>td σ H1 λx H2=>ty σ H2 λy H3=>CQ x λa=>∃ H4,DPut H3 a y v H4/\D.nx σ H4:=rfl
def pDp(h:PS X st (O6 td ty tv)):PS X st (GU td ty tv):=zfy ▸ h
def NN(td ty:TE):TE:=λσ H Q=>td σ H λx H1=>CQ x λa=>ND H1 a/\ty σ H1 λy H2=>∃ o,DGet H2 a y o/\Q (o.getD .non) H2
def zf1:NN td ty=R8 td ty:=by funext σ H Q;simp only[NN,R8,GG]
def zf2:NN td ty σ H Q=td σ H λx H1=>CQ x λa=>ND H1 a/\ty σ H1 λy H2=>∃ o,DGet H2 a y o/\Q (o.getD .non) H2:=rfl
def pD1(h:PE X e (R8 td ty)):PE X e (NN td ty):=zf1 ▸ h
def DG(ta:TA):TI:=λσ H R=>ta σ H λvs H1=>FC vs λx=>GR x λj=> -(2^62)<=j/\j<2^62/\R (FO 0 j.toNat) H1
def zf4:DG as=RR as:=by
 funext σ H R;simp only[DG,NJ,P8];congr 1;funext vs H1;exact propext {(by rintro ⟨z,e,j,e',h⟩;exact{j,e' ▸ e,h}),(by rintro ⟨j,e,h⟩;exact⟨_,e,j,rfl,h⟩)}
def pR1(h:PI X tg it (RR as)):PI X tg it (DG as):=zf4 ▸ h
def zf6:BT (DG as) g tt te k A7 σ H Q=as σ H λvs H1=>FC vs λx=>GR x λj=> -(2^62)<=j/\j<2^62/\D8 (FO 0 j.toNat) g tt te k A7 σ H1 Q:=rfl
def zf7:CJ (DG as) g s1 D σ H=as σ H λvs H1=>FC vs λx=>GR x λj=> -(2^62)<=j/\j<2^62/\IW (FO 0 j.toNat) g s1 D σ H1:=rfl
def B7(K:ι)(tl:TE):TI:=λσ H R=>tl σ H λx H1=>CQ x λa=>(((∃ xs,SqL K H1 a xs)/\R (GB K a) H1)\/((∃ xs,SqT K H1 a xs)/\R (IL K a) H1))
def zf8:B7 K tl=O9 K tl:=by funext σ H R;simp only[B7,O9,GG]
def pSq(h:PI X tg it (O9 K tl)):PI X tg it (B7 K tl):=zf8 ▸ h
def zga:BT (B7 K tl) g tt te k A7 σ H Q=tl σ H λx H1=>CQ x λa=>(((∃ xs,SqL K H1 a xs)/\D8 (GB K a) g tt te k A7 σ H1 Q)\/((∃ xs,SqT K H1 a xs)/\D8 (IL K a) g tt te k A7 σ H1 Q)):=rfl
def zgb:CJ (B7 K tl) g s1 D σ H=tl σ H λx H1=>CQ x λa=>(((∃ xs,SqL K H1 a xs)/\IW (GB K a) g s1 D σ H1)\/((∃ xs,SqT K H1 a xs)/\IW (IL K a) g s1 D σ H1)):=rfl
def FS(K:ι)(ta:TA):TI:=λσ H R=>ta σ H λvs H1=>FC vs λx=>CQ x λa=>(∃ xs,SqL K H1 a xs)/\R (K6 K a) H1
def zgc:FS K as=SN K as:=by
 funext σ H R;simp only[FS,NJ,GG];congr 1;funext vs H1;exact propext {(by rintro ⟨z,e,j,e',h⟩;exact{j,e' ▸ e,h}),(by rintro ⟨j,e,h⟩;exact⟨_,e,j,rfl,h⟩)}
def pEn(h:PI X tg it (SN K as)):PI X tg it (FS K as):=zgc ▸ h
def zge:BT (FS K as) g tt te k A7 σ H Q=as σ H λvs H1=>FC vs λx=>CQ x λa=>(∃ xs,SqL K H1 a xs)/\D8 (K6 K a) g tt te k A7 σ H1 Q:=rfl
def zgf:CJ (FS K as) g s1 D σ H=as σ H λvs H1=>FC vs λx=>CQ x λa=>(∃ xs,SqL K H1 a xs)/\IW (K6 K a) g s1 D σ H1:=rfl
def HB(ta:TE):TO:=λσ H Q=>ta σ H λx H1=>GR x λi=>Q (some i) H1
def zgg:HB ta=O1 ta:=by funext σ H Q;simp only[HB,O1,P8]
def zgh:HB ta σ H QO=ta σ H λx H1=>GR x λi=>QO (some i) H1:=rfl
def pPt(h:PO X o (O1 ta)):PO X o (HB ta):=zgg ▸ h
def J6(K:ι)(n:Nat)(t:G6):TG:=λv σ H Q=>CQ v λa=>∃ xs,SqT K H a xs/\xs.length=n/\t xs σ H Q
def zgj:J6 K k gs=FN K k gs:=by funext v σ H Q;simp only[J6,FN,GG];simp
def zgk:J6 K k gs v σ H QG=CQ v λa=>∃ xs,SqT K H a xs/\xs.length=k/\gs xs σ H QG:=rfl
def pTp(h:PG X e (FN K k gs)):PG X e (J6 K k gs):=zgj ▸ h
def J7:G6:=λvs σ H Q=>P7 vs<|Q σ H
def zgm:J7=FM:=by funext vs σ H Q;simp only[J7,FM,zc9]
def zgn:J7 vs σ H QG=P7 vs (QG σ H):=rfl
def pGn(h:IK X es FM):IK X es J7:=zgm ▸ h
def GW(g:TG)(gs:G6):G6:=λvs σ H Q=>PZ vs λv r=>g v σ H λσ' H'=>gs r σ' H' Q
def zgp:GW g gs=DK g gs:=by funext vs σ H Q;simp only[GW,DK,zc8]
def zgq:GW g gs vs σ H QG=PZ vs λv r=>g v σ H λσ' H'=>gs r σ' H' QG:=rfl
def pGc(h:IK X es (DK g gs)):IK X es (GW g gs):=zgp ▸ h
def DZ:V->Oq->Hp->VK->Prop:=λx vs H Q=>CQ x λl=>FC vs λy=>∃ xs,H l=some (.lst xs)/\xs.length<sizeLine/\Q .non (upd H l<|.lst<|xs++[y])
def zgs:DZ=k8:=by
 funext x vs H Q;simp only[DZ,NJ,GG];exact propext {(by rintro ⟨l,e,y,e',xs,h⟩;exact⟨l,xs,y,e,e',h⟩),(by rintro ⟨l,xs,y,e,e',h⟩;exact⟨l,e,y,e',xs,h⟩)}
def oP{x:V}:DZ x vs H Q=CQ x λl=>FC vs λy=>∃ xs,H l=some (.lst xs)/\xs.length<sizeLine/\Q .non (upd H l<|.lst<|xs++[y]):=rfl
def zgt:R3 X "list.append" DZ:=zgs ▸ Sw
end
section
variable{α :Sort _}{p: α ->Prop}{x: α}{b c d:Prop}
def qF:(∃ _: α,False)=False:=eq_false exists_false
def qD[Decidable b]:(decide b=false)=¬ b:=propext decide_eq_false_iff_not
def qR:(∃ x,p x/\b)=((∃ x,p x)/\b):=propext exists_and_right
def qL:(∃ x,b/\p x)=(b/\∃ x,p x):=propext exists_and_left
def q1:(∃ y,x=y/\p y)=p x:=propext exists_eq_left'
def q2:(∃ y,y=x/\p y)=p x:=propext exists_eq_left
def q3:(∃ y,x=y)=True:=eq_true exists_eq'
def q4:(∃ y,y=x)=True:=eq_true exists_eq
def qA:((b/\c)/\d)=(b/\c/\d):=propext and_assoc
def qC[Nonempty α]:(α ->b)=b:=propext<|forall_const α
end
abbrev Ad:=String->Addr
def SameBut(F:zV)(H H':Hp):Prop:=∀ b o,H b=some o->¬ F b->H' b=some o
structure DL(K:ι)(a:Ad):Prop where
 cl:Cls K (a "Plank")
 nC:NoAttr K (a "Plank") "contents"
 nW:NoAttr K (a "Plank") "width"
 nN:NoAttr K (a "Plank") "written"
def pf(cl:Addr)(w n:Int):ZP:=[("contents",.ref cl),("width",.int w),("written",.int n)]
def zgu:¬ ("contents":Str)="width":=by decide
def zgv:¬ ("contents":Str)="written":=by decide
def zgw:¬ ("width":Str)="written":=by decide
def SW(cl:Addr)(w n:Int):(pf cl w n).lookup ("contents":Str)=some (V.ref cl):=by simp[pf]
def oQ(cl:Addr)(w n:Int):(pf cl w n).lookup ("width":Str)=some (V.int w):=by
 simp[pf,ao,(beq_eq_false_iff_ne.mpr<|eh zgu)]
def oR(cl:Addr)(w n:Int):(pf cl w n).lookup ("written":Str)=some (V.int n):=by
 simp[pf,ao,(beq_eq_false_iff_ne.mpr<|eh zgv),(beq_eq_false_iff_ne.mpr<|eh zgw)]
def HZ(cl:Addr)(w n:Int){m:Str}(h1:¬ m="contents")(h2:¬ m="width")(h3:¬ m="written"):(pf cl w n).lookup m=none:=by
 simp[pf,ao,(beq_eq_false_iff_ne.mpr h1),(beq_eq_false_iff_ne.mpr h2),(beq_eq_false_iff_ne.mpr h3)]
abbrev _root_.sT:=List (List V)
structure PlankAt(a:Ad)(H:Hp)(p cl:Addr)(w:Nat)(rows:sT)(n:Nat):Prop where
 ob:∃ dx,H p=some (.ins (a "Plank") dx (pf cl w n))
 ls:∃ ts:tW,H cl=some (.lst<|ts.map V.ref)/\Paired (λt r=>H t=some (.tup r)) ts rows
 wd:∀ r∈rows,r.length=w
 sz:rows.length<=1000
 sw:w<=1000
def PlankAt.ne(P:PlankAt a H p cl w rows n):p≠cl:=by
 obtain⟨⟨dx,h1⟩,⟨ts,h2,y⟩,y⟩:=P;exact BH h1 h2 (by intro z;cases z)
def PlankAt.same(P:PlankAt a H p cl w rows n)(s:Same H H'):PlankAt a H' p cl w rows n:=by
 obtain⟨⟨dx,e1⟩,⟨ts,e2,e3⟩,r1,r2,r3⟩:=P;exact{{dx,s _ _ e1},{ts,s _ _ e2,Paired.mapP e3 λt r q=>s _ _ q},r1,r2,r3}
local macro_rules
 |`(command|example : ($x:ident) := $t:term)=>do
  let i:=Lean.mkIdent
  `(command|def $x:ident ($(i `K):ident : ι) ($(i `a):ident : Ad) : Sp := fun $(i `vs):ident $(i `H):ident $(i `Q):ident $(i `E):ident => $t)
example:(XI):=∃ (p dx:Addr) (m w:Nat),vs=[.ref p,.int m,.int w]/\DL K a/\H p=some (.ins (a "Plank") dx [])/\m<=1000/\1<=w/\w<=1000 ∧
 ∀ cl H',H cl=none->PlankAt a H' p cl w (bc m<|bc w .non) 0->SameBut (· =p) H H'->Q .non H'
example:(MD):=∃ p cl w rows n,vs=[.ref p]/\DL K a/\PlankAt a H p cl w rows n/\Q (.int rows.length) H
example:(XJ):=∃ (p cl:Addr) (w:Nat) (rows:sT) (n:Nat),vs=[.ref p]/\DL K a/\PlankAt a H p cl w rows n/\Q (.int w) H
example:(SY):=∃ (p cl:Addr) (w:Nat) (rows:sT) (n:Nat),vs=[.ref p]/\DL K a/\PlankAt a H p cl w rows n/\Q (.int n) H
example:(NO):=∃ (p cl:Addr) (w:Nat) (rows:sT) (n:Nat) (b:Int),vs=[.ref p,.int b]/\DL K a/\PlankAt a H p cl w rows n /\
 (0<=b->b<rows.length->Q .non H)/\(b<0\/rows.length<=b->E (.ref<|a "NoBlock") none H)
example:(K9):=∃ (p cl:Addr) (w:Nat) (rows:sT) (n:Nat) (b:Int),vs=[.ref p,.int b]/\DL K a/\PlankAt a H p cl w rows n /\
 (∀ (i:Nat) row,b=i->rows[i]? =some row->∀ l,H l=none->Q (.ref l) (upd H l<|.lst row))/\(b<0\/rows.length<=b->E (.ref<|a "NoBlock") none H)
example:(SZ):=∃ (p cl:Addr) (w:Nat) (rows:sT) (n:Nat) (b:Int) (v:Addr) (xs:Oq),vs=[.ref p,.int b,.ref v]/\DL K a/\PlankAt a H p cl w rows n/\SqL K H v xs/\xs.length<=2000 /\
 (∀ (i:Nat),b=i->i<rows.length->xs.length=w->∀ H',PlankAt a H' p cl w (rows.set i xs) (n+1)->SameBut (λx=>x=p\/x=cl) H H'->Q .non H') /\
 (b<0\/rows.length<=b\/xs.length≠w->E (.ref<|a "NoBlock") none H)
def BB{K:ι}{H:Hp}{p:Addr}{xs:Oq}{i:Int}{n:Nat}{v:V}{Q:VK}(h:H p=some (.tup xs))(hi:i=n)(hx:xs[n]? =some v)(q:Q v H):BX K (.ref p) (.int i) H Q :=
 .inr (.inl (x4 p xs i v {rfl,rfl,SqT.of h,by rw[hi];exact VO hx,q}))
def NP(h:fs≠fs'):HO.ins C dx fs≠HO.ins C' dx' fs':=by
 intro z;injection z with _ _ z
 exact h z
def oU(xs:Oq)(h:0<=k):FX xs none (some k)=xs.take k.toNat:=by
 unfold FX
 have e:HT.sIx xs.length xs.length (some k)=min k.toNat xs.length:=by
  show(if k<0 then(k+xs.length).toNat else min _ _)=_;rw[if_neg (by lia)]
 rw[HT.sIx_none,Lr,List.take_eq_take_iff]
 lia
def XL(xs:Oq)(h:0<=k):FX xs (some k) none=xs.drop k.toNat:=by
 unfold FX
 have e:HT.sIx xs.length 0 (some k)=min k.toNat xs.length:=by
  show(if k<0 then(k+xs.length).toNat else min _ _)=_;rw[if_neg (by lia)]
 rw[e];rcases eq _ _ with z|z
 rw[rf (li z),dz (by rw[jn];exact υ _)];rw[Ie z,List.drop_of_length_le z];simp
def S0{K:ι}{H:Hp}{p:Addr}{xs:Oq}{lo hi:Option Int}{Q:VK}(h:SqL K H p xs)(q:∀ r,H r=none->Q (.ref r) (upd H r<|.lst<|FX xs lo hi)):IV K (.ref p) lo hi H Q:=.inl<|x2 p xs ⟨rfl,h,q⟩
def SameBut.refl(H:Hp):SameBut F H H:=λz z e z=>e
def SameBut.trans(s:SameBut F H H')(t:SameBut F H' H2):SameBut F H H2:=λb o e n=>t _ _ (s _ _ e n) n
def SameBut.wide(s:SameBut F H H')(i:∀ x,F x->G x):SameBut G H H':=λb o e n=>s _ _ e λz=>n<|i _ z
def Same.sb(s:Same H H'):SameBut F H H':=λb o e z=>s b o e
def SameBut.upd(s:SameBut F H H')(h:F p\/H p=none):SameBut F H (upd H' p o):=λb u e n=>by
 have:b≠p:=by
  rcases h with h|h
  exact λz=>n<|z ▸ h;exact BI e h
 rw[AI this];exact s _ _ e n
structure Ch where
 blk:Nat
 cell:Nat
 val:V
 nd:sZ
abbrev _root_.z8:=List Ch
def ME:z8->Int->Int->Option Nat
 | [],_,_=>none
 |c::r,i,j=>if(c.blk:Int)=i/\(c.cell:Int)=j then some r.length else ME r i j
def DR(cs:z8)(i j:Int):Option Nat:=ME cs.reverse i j
def GY:z8->Nat->t3
 | [],_=>[]
 |c::r,b=>if c.blk=b then GY r b++[r.length]else GY r b
def DC(cs:z8)(b:Nat):t3:=GY cs.reverse b
def XM(cs:z8)(c:Ch)(i j:Int):DR (cs++[c]) i j=if(c.blk:Int)=i/\(c.cell:Int)=j then some cs.length else DR cs i j:=by
 simp[DR,ME]
def zgx(cs:z8)(c:Ch)(b:Nat):DC (cs++[c]) b=if c.blk=b then DC cs b++[cs.length]else DC cs b:=by
 simp[DC,GY]
theorem XN:∀ {l:z8} {i j:Int} {k:Nat},ME l i j=some k->k<l.length
 | [],_,_,_,h=>by cases h
 |c::r,i,j,k,h=>by
  unfold ME at h;split at h;obtain rfl:=μ h;simp;exact cu<|XN h
def MF(h:DR cs i j=some k):k<cs.length:=by
 have:=XN h
 rwa [gu]at this
theorem XO:∀ {l:z8} {b k:Nat},k∈GY l b->k<l.length
 | [],_,_,h=>by cases h
 |c::r,b,k,h=>by
  unfold GY at h;split at h;rcases a_.mp h with h|h
  exact cu<|XO h;rw[ae.mp h];simp;exact cu<|XO h
def S6(h:k∈DC cs b):k<cs.length:=by
 have:=XO h
 rwa [gu]at this
theorem oV:∀ (l:z8) (b:Nat),(GY l b).length<=l.length
 | [],_=>υ _
 |c::r,b=>by
  have:=oV r b;unfold GY;split<;>simp<;>omega
def oX(cs:z8)(b:Nat):(DC cs b).length<=cs.length:=by
 have:=oV cs.reverse b
 rwa [gu]at this
def GH(pl:Addr)(v:V)(nt:Addr):ZP:=[("place",.ref pl),("value",v),("needs",.ref nt)]
def bf(gp m mi lt ou:Addr):ZP:=[("ground",.ref gp),("made",.ref m),("made_in",.ref mi),("latest",.ref lt),("outs",.ref ou)]
def DS(a b:Str):Bool:=a==b
section
variable{pl nt gp m mi lt ou:Addr}{v:V}
def A9(h:DS a b=false):(a==b)=false:=h
def oY:(GH pl v nt).lookup ("place":Str)=some (V.ref pl):=by simp[GH]
def oZ:(GH pl v nt).lookup ("value":Str)=some v:=by
 simp[GH,ao,A9 (a:="value") (b:="place") (by decide)]
def o0:(GH pl v nt).lookup ("needs":Str)=some (V.ref nt):=by
 simp[GH,ao,A9 (a:="needs") (b:="place") (by decide),A9 (a:="needs") (b:="value") (by decide)]
def zgy(h:DS g f=false):BQ f y ((g,x)::r)=(g,x)::BQ f y r:=by
 have:¬ g=f:=λe=>by rw[e]at h;simp[DS]at h
 simp[BQ,this]
def P9:(bf gp m mi lt ou).lookup ("ground":Str)=some (V.ref gp):=by simp[bf]
def JA:(bf gp m mi lt ou).lookup ("made":Str)=some (V.ref m):=by
 simp[bf,ao,A9 (a:="made") (b:="ground") (by decide)]
def XQ:(bf gp m mi lt ou).lookup ("made_in":Str)=some (V.ref mi):=by
 simp[bf,ao,A9 (a:="made_in") (b:="ground") (by decide),A9 (a:="made_in") (b:="made") (by decide)]
def o5:(bf gp m mi lt ou).lookup ("latest":Str)=some (V.ref lt):=by
 simp[bf,ao,A9 (a:="latest") (b:="ground") (by decide),A9 (a:="latest") (b:="made") (by decide),A9 (a:="latest") (b:="made_in") (by decide)]
def QC:(bf gp m mi lt ou).lookup ("outs":Str)=some (V.ref ou):=by
 simp[bf,ao,A9 (a:="outs") (b:="ground") (by decide),A9 (a:="outs") (b:="made") (by decide),A9 (a:="outs") (b:="made_in") (by decide),A9 (a:="outs") (b:="latest") (by decide)]
def CT(h:(DS x "ground" || DS x "made" || DS x "made_in" || DS x "latest" || DS x "outs")=false:=by decide +kernel):(bf gp m mi lt ou).lookup x=none:=by
 simp only[h_]at h;obtain⟨⟨⟨⟨h1,h2⟩,h3⟩,h4⟩,h5⟩:=h;simp[bf,ao,A9 h1,A9 h2,A9 h3,A9 h4,A9 h5]
def zgz:BQ "outs" (.ref ou) (BQ "latest" (.ref lt) (BQ "made_in" (.ref mi) (BQ "made" (.ref m) (BQ "ground" (.ref gp) []))))=bf gp m mi lt ou:=by
 rfl
end
structure o6(K:ι)(C D:Addr):Prop where
 cl:Cls K C
 nG:NoAttr K C "ground"
 nM:NoAttr K C "made"
 nI:NoAttr K C "made_in"
 nL:NoAttr K C "latest"
 nO:NoAttr K C "outs"
 cc:Cls K D
 nP:NoAttr K D "place"
 nV:NoAttr K D "value"
 nN:NoAttr K D "needs"
def ChAt(D:Addr)(H:Hp)(x:Addr)(c:Ch):Prop:=∃ dx pl nt,H x=some (.ins D dx<|GH pl c.val nt)/\H pl=some (.tup [.int c.blk,.int c.cell])/\H nt=some (.tup<|c.nd.map V.int)
structure BA where
 b:Addr
 gp:Addr
 m:Addr
 mi:Addr
 lt:Addr
 ou:Addr
 ls:tW
 cl:Addr
def BA.F(A:BA)(x:Addr):Prop:=x=A.m\/x=A.mi\/x∈A.ls\/x=A.lt\/x=A.ou\/x=A.cl
def KeysOk(DQ:tS)(n:Nat):Prop:=(DQ.map (·.1)).Nodup/\∀ p∈DQ,∃ x:Nat,p.1=uv (x:Int)/\x<n
def KeysOk.mono(h:KeysOk DQ n)(hm:n<=m):KeysOk DQ m:={h.1,λp hp=>by obtain⟨x,e,hx⟩:=h.2 p hp;exact{x,e,ω hx hm}}
def KeysOk.len(h:KeysOk DQ n):DQ.length<=n:=by
 have:=ut  h.1 λk hk=>by
  obtain⟨p,hp,rfl⟩:=av.mp hk;obtain⟨x,e,hx⟩:=h.2 p hp;rw[e];exact av.mpr {x,ak.mpr hx,rfl}
 simpa using this
def KeysOk.put(h:KeysOk DQ n)(hk:k<n)(hn:BF DQ (.inl (k:Int))=none)(v:V):KeysOk (CA DQ (.inl (k:Int)) v) n:=by
 refine{Up v h.1 hn,λp hp=>?_};rw[lC v hn]at hp;rcases a_.mp hp with hp|hp
 exact h.2 p hp;rw[ae.mp hp];exact⟨k,rfl,hk⟩
structure BookIn(C D:Addr)(H:Hp)(A:BA)(w:Nat)(cs:z8)(outs:qW):Prop where
 ob:∃ dx,H A.b=some (.ins C dx<|bf A.gp A.m A.mi A.lt A.ou)
 made:∃ chs:tW,H A.m=some (.lst<|chs.map V.ref)/\Paired (ChAt D H) chs cs
 mil:H A.mi=some (.lst<|A.ls.map V.ref)
 mic:∀ (i:Nat) l,A.ls[i]? =some l->H l=some (.lst<|(DC cs i).map λ(k:Nat)=>V.int k)
 nd:A.ls.Nodup
 lat:∃ kvs,H A.lt=some (.dT kvs)/\(∀ i j:Int,BF kvs [.inl i,.inl j]=(DR cs i j).map λ(k:Nat)=>V.int k)/\kvs.length<=cs.length
 out:∃ DQ,H A.ou=some (.dK DQ)/\(∀ k:Int,(BF DQ<|.inl k).isSome=outs k)/\KeysOk DQ cs.length
 sz:cs.length<=990
 inn:∀ c∈cs,c.blk<A.ls.length/\c.cell<w
 need:∀ (k:Nat) c,cs[k]? =some c->(∀ x∈c.nd,0<=x/\x<k)/\c.nd.Pairwise (· <·)/\c.nd.length<=100
 ap:A.m≠A.mi/\A.m∉A.ls/\A.mi∉A.ls/\A.cl≠A.m/\A.cl≠A.mi/\A.cl∉A.ls
 chn:∀ (k:Nat) c,cs[k]? =some c->∀ j,DR (cs.take k) c.blk c.cell=some j->(j:Int)∈c.nd
structure BookAt(a:Ad)(C:Addr)(H:Hp)(A:BA)(w:Nat)(rows:sT)(n:Nat)(cs:z8)(outs:qW):Prop where
 bk:BookIn C (a "Change") H A w cs outs
 pk:PlankAt a H A.gp A.cl w rows n
 nb:A.ls.length=rows.length
def FF(o:Option HO):Prop:=(∀ xs,o≠some (.tup xs))/\∀ C dx fs,o≠some (.ins C dx fs)
def ChAt.sb(s:SameBut G H H')(g:∀ x,G x->FF (H x))(h:ChAt D H x c):ChAt D H' x c:=by
 revert h;apply u3;rintro dx pl nt ⟨e1,e2,e3⟩;exact x3 dx pl nt {s _ _ e1 λz=>(g _ z).2 _ _ _ e1,s _ _ e2 λz=>(g _ z).1 _ e2,s _ _ e3 λz=>(g _ z).1 _ e3}
def BookIn.sb(B:BookIn C D H A w cs outs)(s:SameBut G H H')(g:∀ x,G x->FF (H x))(f:∀ x,G x->¬ A.F x):BookIn C D H' A w cs outs:=by
 obtain⟨⟨dx,e1⟩,⟨chs,e2,e3⟩,e4,e5,e6,⟨kvs,e7,e8⟩,⟨DQ,e9,e10⟩,r1,r2,r3,r4,r5⟩:=B;refine⟨{dx,s _ _ e1 λz=>(g _ z).2 _ _ _ e1},{_,s _ _ e2 λz=>f _ z<|.inl rfl,Paired.mapP e3 λx c h=>h.sb s g},s _ _ e4 λz=>f _ z<|.inr<|.inl rfl,λi l h=>s _ _ (e5 i l h) λz=>f _ z<|.inr<|.inr<|.inl<|θ h,e6,
  {_,s _ _ e7 λz=>f _ z<|.inr<|.inr<|.inr<|.inl rfl,e8},{_,s _ _ e9 λz=>f _ z<|.inr<|.inr<|.inr<|.inr<|.inl rfl,e10},r1,r2,r3,r4,r5⟩
def PlankAt.sbL(P:PlankAt a H p cl w rows n)(s:SameBut G H H')(g:∀ x,G x->FF (H x))(h:¬ G cl):PlankAt a H' p cl w rows n:=by
 obtain⟨⟨dx,e1⟩,⟨ts,e2,e3⟩,r1,r2,r3⟩:=P;exact{{dx,s _ _ e1 λz=>(g _ z).2 _ _ _ e1},{ts,s _ _ e2 h,Paired.mapP e3 λt r q=>s _ _ q λz=>(g _ z).1 _ q},r1,r2,r3}
def BookAt.sb(B:BookAt a C H A w rows n cs outs)(s:SameBut G H H')(g:∀ x,G x->FF (H x))(f:∀ x,G x->¬ A.F x):BookAt a C H' A w rows n cs outs :=
 {B.bk.sb s g f,B.pk.sbL s g λz=>f _ z<|.inr<|.inr<|.inr<|.inr<|.inr rfl,B.nb}
def BookAt.same(B:BookAt a C H A w rows n cs outs)(s:Same H H'):BookAt a C H' A w rows n cs outs :=
 B.sb (G:=λy=>False) (Same.sb s) (λy z=>z.elim) λy z=>z.elim
def BookAt.off(B:BookAt a C H A w rows n cs outs)(h:H x=none):¬ A.F x:=by
 obtain⟨⟨y,⟨chs,e2,y⟩,e4,e5,y,⟨kvs,e7,y⟩,⟨DQ,e9,y⟩,y⟩,⟨y,⟨ts,e11,y⟩,y⟩,y⟩:=B;rintro (z|z|z|z|z|z);rw[z,e2]at h;cases h;rw[z,e4]at h;cases h;obtain⟨i,hi,e⟩:=ik z;rw[(e5 i x (by rw[<-e];exact η hi))]at h;cases h;rw[z,e7]at h;cases h;rw[z,e9]at h;cases h;rw[z,e11]at h;cases h
def QD{α :Type}{l:List α}{x: α}(h:x∈l):∃ i:Nat,l[i]? =some x:=by
 obtain⟨i,hi,e⟩:=ik h;exact{i,by rw[<-e];exact η hi}
def LA{H:Hp}{x:Addr}{xs:Oq}(h:H x=some (.lst xs)):FF (H x):=by
 rw[h];exact{λy z=>(by cases z),λy y y z=>(by cases z)}
def S7{H:Hp}{x:Addr}{xs:tS}(h:H x=some (.dK xs)):FF (H x):=by
 rw[h];exact{λy z=>(by cases z),λy y y z=>(by cases z)}
def zg0{H:Hp}{x:Addr}{xs:aH}(h:H x=some (.dT xs)):FF (H x):=by
 rw[h];exact{λy z=>(by cases z),λy y y z=>(by cases z)}
def BookAt.loose{A:BA}{outs:qW}(B:BookAt a C H A w rows n cs outs)(h:A.F x):FF (H x):=by
 obtain⟨⟨y,⟨chs,e2,y⟩,e4,e5,y,⟨kvs,e7,y⟩,⟨DQ,e9,y⟩,y⟩,⟨y,⟨ts,e11,y⟩,y⟩,y⟩:=B;rcases h with z|z|z|z|z|z
 exact LA<|z ▸ e2;exact LA<|z ▸ e4;obtain⟨i,e⟩:=QD z;exact LA<|e5 i x e;exact zg0<|z ▸ e7;exact S7<|z ▸ e9;exact LA<|z ▸ e11
structure KA(cs:z8)(outs:qW)(ns:sZ)(R:qW):Prop where
 all:∀ x∈ns,R x=true
 up:∀ (k:Nat) (c:Ch),cs[k]? =some c->outs k=false->R k=true->∀ y∈c.nd,R y=true
 only:∀ x,R x=true->x∈ns\/∃ (k:Nat) (c:Ch),cs[k]? =some c/\outs k=false/\R k=true/\x∈c.nd
theorem XR(hn:∀ (k:Nat) (c:Ch),cs[k]? =some c->∀ x∈c.nd,x<k)(h:∀ x∈ns,x∈ms)(hR:KA cs outs ns R)(hS:KA cs outs ms S):∀ (d:Nat) (x:Int),(cs.length:Int) - x<=d->R x=true->S x=true
 |0,x,hd,hx=>by
  rcases hR.only x hx with z|⟨k,c,e,_,_,hy⟩
  ·exact hS.all x<|h x z
  ·have:=hn k c e x hy
   have:=(ε.mp e).1;omega
 |d+1,x,hd,hx=>by
  rcases hR.only x hx with z|⟨k,c,e,ho,hk,hy⟩
  ·exact hS.all x<|h x z
  ·have:=hn k c e x hy;exact hS.up k c e ho (XR hn h hR hS d k (by omega) hk) x hy
def o7(hn:∀ (k:Nat) (c:Ch),cs[k]? =some c->∀ x∈c.nd,x<k)(h:∀ x,x∈ns↔x∈ms)(hR:KA cs outs ns R)(hS:KA cs outs ms S)(x:Int):R x=S x:=by
 rw[jf];exact{XR hn (λy hy=>(h y).mp hy) hR hS (cs.length-x).toNat x (by omega),XR hn (λy hy=>(h y).mpr hy) hS hR (cs.length-x).toNat x (by omega)}
def MG(nd:sZ)(there:qW):Option Int:=nd.find? λx=> !there x
def zg1(h:∀ x∈nd,there x=true):MG nd there=none:=jv.mpr λx hx=>by rw[h x hx];exact ax
structure Pass where
 out:t3
 held:List (Nat × Int)
 gone:Int->Bool
def DD(cs:z8)(outs:qW)(s:Pass)(k:Nat):Pass :=
 if outs k||s.gone k then s else
  match (cs[k]?).bind λc=>MG c.nd λx=>outs x||s.gone x with
  |none=>{s.out++[k],s.held,λx=>s.gone x||x ==(k:Int)}
  |some l=>{s.out,s.held++[(k,l)],s.gone}
def outcome(cs:z8)(outs taken:qW)(b:Nat):Pass:=(DC cs b).foldl (DD cs outs) {[],[],taken}
def HC(cs:z8)(outs:qW)(r:Oq)(k:Nat):Oq :=
 if outs k then match cs[k]? with
  |some c=>r.set c.cell c.val
  |none=>r
 else r
def EW(cs:z8)(outs:qW)(b:Nat)(row:Oq):Oq:=(DC cs b).foldl (HC cs outs) row
def C3(cs:z8)(outs:qW)(b:Nat):Int->Bool:=λx=>outs x||(outcome cs outs (λ_=>false) b).out.any λ(k:Nat)=>x ==(k:Int)
def zg2(r:Oq)(k:Nat):(HC cs outs r k).length=r.length:=by
 unfold HC;split;split;rw[jd]
 rfl
 rfl
theorem XS:∀ (l:t3) (r:Oq),(l.foldl (HC cs outs) r).length=r.length
 | [],r=>rfl
 |k::l,r=>by rw[gb,XS l,zg2]
def o8:(EW cs outs b row).length=row.length:=XS _ _
theorem o9:∀ (l:t3) (s:Pass),(l.foldl (DD cs outs) s).out.length+(l.foldl (DD cs outs) s).held.length<=s.out.length+s.held.length+l.length
 | [],s=>by simp
 |k::l,s=>by
  rw[gb]
  have h2:(DD cs outs s k).out.length+(DD cs outs s k).held.length<=s.out.length+s.held.length+1:=by
   unfold DD;split;exact jm _;split<;>simp<;>omega
  have h:=o9 (cs:=cs) (outs:=outs) l (DD cs outs s k);simp only[de]
  lia
def pA{α β :Type}(f: β -> α -> β)(b: β){l:List α}{i:Nat}{x: α}(h:l[i]? =some x):(l.take<|i+1).foldl f b=f ((l.take i).foldl f b) x:=by
 obtain⟨hi,e⟩:=ε.mp h;rw[<-e,<-ki hi,ke]
 rfl
theorem pB(b:Nat):∀ l:z8,GY l b=(ν l.length).filter λ(k:Nat)=>(l.reverse[k]?).any λc=>c.blk == b
 | []=>rfl
 |c::r=>by
  have e:(ν r.length).filter (λk=>((c::r).reverse[k]?).any λc=>c.blk==b)=GY r b:=by
   rw[(pB b r)];refine ud λk hk=>?_;rw[na,ba (by rw[gu];exact ak.mp hk)]
  have e2:(c::r).reverse[r.length]? =some c:=by
   simp
  rw[de,bu,l_,e]
  show(if c.blk=b then GY r b++[r.length]else GY r b)=_;by_cases h:c.blk=b;simp[h];simp[h]
def pC(cs:z8)(b:Nat):DC cs b=(ν cs.length).filter λ(k:Nat)=>(cs[k]?).any λc=>c.blk==b:=by
 have:=pB b cs.reverse;rw[vb,gu]at this;exact this
def zg3(cs:z8)(b:Nat):(DC cs b).Pairwise (· <·):=by
 rw[pC];exact ig.filter _
def S8:k∈DC cs b↔∃ c,cs[k]? =some c/\c.blk=b:=by
 rw[pC,dh,ak];constructor;rintro ⟨h,h2⟩;rw[η h]at h2 ⊢;exact{_,rfl,by simpa using h2};rintro ⟨c,e,rfl⟩;exact{(ε.mp e).1,by rw[e];simp}
def pD(s:Pass)(k:Nat):DD cs outs s k=s\/(outs k=false/\DD cs outs s k={s.out++[k],s.held,λx=>s.gone x||x ==(k:Int)})\/∃ l,DD cs outs s k={s.out,s.held++[(k,l)],s.gone}:=by
 unfold DD;split;exact .inl rfl;rename_i hc;simp only[vm,not_or,Ig]at hc;split;exact .inr<|.inl ⟨hc.1,rfl⟩;exact .inr<|.inr ⟨_,rfl⟩
theorem S9:∀ (l:t3) (s:Pass),∃ l',(l.foldl (DD cs outs) s).out=s.out++l'/\l'.Sublist l/\(∀ k∈l',outs k=false)/\∀ x,(l.foldl (DD cs outs) s).gone x=(s.gone x||l'.any λ(k:Nat)=>x ==(k:Int))
 | [],s=>{[],by simp,.slnil,by simp,by simp}
 |k::l,s=>by
  rw[gb];obtain⟨l',h1,h2,h3,h4⟩:=S9   l (DD cs _ s k);rcases pD   s k with e|⟨ho,e⟩|⟨l0,e⟩
  rw[e]at h1 h4 ⊢;exact{l',h1,h2.cons _,h3,h4};rw[e]at h1 h4 ⊢;refine{_,by rw[h1];simp,h2.cons_cons _,λx hx=>?_,λx=>(by rw[h4,pr,kj])};rcases aj.mp hx with rfl|hx
  exact ho;exact h3 x hx;rw[e]at h1 h4 ⊢;exact{l',h1,h2.cons _,h3,h4}
def TC:(outcome cs outs (λ_=>false) b).out.Pairwise (· <·)/\(∀ k∈(outcome cs outs (λ_=>false) b).out,outs k=false/\k∈DC cs b)/\∀ x,(outcome cs outs (λ_=>false) b).gone x=(outcome cs outs (λ_=>false) b).out.any λ(k:Nat)=>x ==(k:Int):=by
 obtain⟨l',h1,h2,h3,h4⟩:=S9   _ _
 have e:(outcome cs outs (λz=>false) b).out=l':=by unfold outcome;rw[h1];rfl
 rw[e];exact{(zg3 cs b).sublist h2,λk hk=>{h3 k hk,h2.subset hk},λx=>by unfold outcome;rw[h4];simp}
def XT(H:Hp)(t ol hl:Addr)(out:t3)(held:List (Nat × Int)):Prop:=H t=some (.tup [.ref ol,.ref hl])/\H ol=some (.lst<|out.map λ(k:Nat)=>V.int k)/\∃ hs:tW,H hl=some (.lst<|hs.map V.ref)/\Paired (λx (p:Nat × Int)=>H x=some (.tup [.int p.1,.int p.2])) hs held
def XU(cs:z8)(r:Oq)(k:Nat):Oq:=match cs[k]? with
 |some c=>r.set c.cell c.val
 |none=>r
def TD(cs:z8)(ks:t3)(row:Oq):Oq:=ks.foldl (XU cs) row
def zg4(cs:z8)(O:qW)(b:Nat)(row:Oq):EW cs O b row=TD cs ((DC cs b).filter λ(k:Nat)=>O k) row:=by
 unfold EW TD;rw[List.foldl_filter]
 rfl
def JB(cs:z8):t3->Nat->Option Ch
 | [],_=>none
 |k::r,j=>match JB cs r j with
  |some c=>some c
  |none=>(cs[k]?).filter λc=>c.cell==j
def XV(cs:z8)(k:Nat)(r:t3)(j:Nat):JB cs (k::r) j=match JB cs r j with
  |some c=>some c
  |none=>(cs[k]?).filter λc=>c.cell==j:=rfl
theorem pE(cs:z8)(j:Nat):∀ (ks:t3) (row:Oq),(TD cs ks row)[j]? =(row[j]?).map λv=>((JB cs ks j).map (·.val)).getD v
 | [],row=>by
  show row[j]? =_;cases row[j]? <;>rfl
 | k::r,row=>by
  show(TD cs r _)[j]? =_;rw[pE cs j r,XV];cases h:JB cs r j with
  |some c =>
   unfold XU;cases e:cs[k]? with
   |none=>rfl
   |some c0 =>
    rw[FJ];by_cases hj:c0.cell=j;subst hj;rw[if_pos rfl];by_cases hl:c0.cell<row.length;rw[if_pos hl,η hl];rfl;rw[if_neg hl,bt<|cj hl];rw[if_neg hj]
  |none =>
   unfold XU;cases e:cs[k]? with
   |none=>rfl
   |some c0 =>
    rw[FJ];by_cases hj:c0.cell=j;subst hj;rw[if_pos rfl];by_cases hl:c0.cell<row.length;rw[if_pos hl,η hl];simp[Bs];rw[if_neg hl,bt<|cj hl];rfl;rw[if_neg hj]
    have:(Bs (λc=>c.cell==j) (some c0))=none:=by simp[hj]
    rw[this]
theorem pF:∀ {ks:t3},JB cs ks j=some c->∃ k∈ks,cs[k]? =some c/\c.cell=j/\(ks.Pairwise (· <·)->∀ k'∈ks,k<k'->∀ c',cs[k']? =some c'->c'.cell≠j)
 | [],h=>by cases h
 | k::r,h=>by
  rw[XV]at h;cases e:JB cs r j with
  |some c1 =>
   rw[e]at h;cases h;obtain⟨k1,h1,h2,h3,h4⟩:=pF e;refine{k1,ρ _ h1,h2,h3,λhp k' hk' A0 c' ec=>?_};obtain⟨p1,p2⟩:=lx.mp hp;rcases aj.mp hk' with rfl|hk'
   have:=p1 k1 h1;lia;exact h4 p2 k' hk' A0 c' ec
  | none =>
   rw[e]at h;cases ec:cs[k]? with
   |none=>rw[ec]at h;cases h
   |some c0 =>
    rw[ec]at h
    have hc:c0.cell=j/\c0=c:=by
     simp only[Bs]at h;split at h;rename_i hh;obtain rfl:=μ h;exact{by simpa using hh,rfl};cases h
    obtain⟨hc,rfl⟩:=hc;refine{k,χ ..,ec,hc,λhp k' hk' A0 c' ec'=>?_};rcases aj.mp hk' with rfl|hk'
    lia
    exact lastAt_no e k' hk' c' ec'
where
 lastAt_no {cs:z8} {j:Nat}:∀ {ks:List _},JB cs ks j=none->∀ k∈ks,∀ c,cs[k]? =some c->c.cell≠j
  | [],_,k,hk=>by cases hk
  |k0::r,h,k,hk=>λc ec hj=>by
   rw[XV]at h;cases e:JB cs r j with
   |some c1=>rw[e]at h;cases h
   |none =>
    rw[e]at h;rcases aj.mp hk with rfl|hk
    rw[ec]at h;simp[hj]at h;exact lastAt_no e k hk c ec hj
theorem pG:∀ {l:z8} {k:Nat} {c:Ch},l.reverse[k]? =some c->(c.blk:Int)=i->(c.cell:Int)=j->∃ j0 c0,ME l i j=some j0/\k<=j0/\l.reverse[j0]? =some c0/\(c0.blk:Int)=i/\(c0.cell:Int)=j
 | [],k,c,h,_,_=>by simp at h
 |c1::r,k,c,h,h1,h2=>by
  have hk:=(ε.mp h).1;rw[gu]at hk;unfold ME;by_cases hp:c1.blk=i/\c1.cell=j;rw[if_pos hp];refine x2 _ c1 {rfl,fg hk,?_,hp};simp;rw[if_neg hp]
  have A0:k<r.length:=by
   rcases eq k _ with z|z
   exact z;exfalso
   have  :=j_ (fg hk) z;subst this;simp at h;subst h;exact hp ⟨h1,h2⟩
  rw[na,ba (by rw[gu];exact A0)]at h;refine u2 ?_<|pG h h1 h2;rintro j0 c0 ⟨e1,e2,e3,e4⟩;refine x2 j0 c0 {e1,e2,?_,e4};rw[na,ba (by rw[gu];exact(XN e1))];exact e3
def zg5(h:cs[k]? =some c):∃ j0 c0,DR cs c.blk c.cell=some j0/\k<=j0/\cs[j0]? =some c0/\c0.blk=c.blk/\c0.cell=c.cell:=by
 refine u2 ?_ (pG    (by rw[vb];exact h) rfl rfl);rintro j0 c0 ⟨e1,e2,e3,e4,e5⟩;rw[vb]at e3;exact x2 j0 c0 {e1,e2,e3,cg e4,cg e5}
def TF(cs:z8)(outs:qW):Prop:=∀ (k:Nat) (c:Ch),cs[k]? =some c->outs k=true->∀ y∈c.nd,outs y=true
def zg6(s:Pass)(k:Nat)(h:(DD cs outs s k).out=s.out++[k]):∀ c,cs[k]? =some c->∀ y∈c.nd,(outs y||s.gone y)=true:=λc ec y hy=>by
 unfold DD at h;split at h;exact absurd h (by intro z;have:=congrArg nj z;simp at this);rw[ec]at h;split at h;rename_i hn
 have:=jv.mp hn y hy;cases e:(outs y||s.gone y)with
 |true=>rfl
 |false =>
  have this:¬ (!(outs y||s.gone y))=true:=this;rw[e]at this;exact absurd rfl this
 exact absurd h (by intro z;have:=congrArg nj z;simp at this)
theorem pH:∀ (l:t3) (s:Pass),(∀ k∈s.out,∀ c,cs[k]? =some c->∀ y∈c.nd,(outs y||s.gone y)=true)->∀ k∈(l.foldl (DD cs outs) s).out,∀ c,cs[k]? =some c->∀ y∈c.nd,(outs y||(l.foldl (DD cs outs) s).gone y)=true
 | [],s,h=>h
 |k::l,s,h=>by
  refine pH l _ ?_;rcases pD   s k with e|⟨ho,e⟩|⟨l0,e⟩
  rw[e];exact h;rw[e];intro k' hk' c ec y hy;rcases a_.mp hk' with hk'|hk'
  rw[<-kj,(h k' hk' c ec y hy),n_];rw[ae.mp hk']at ec;rw[<-kj,((zg6   s k (by rw[e])) c ec y hy),n_];rw[e];exact h
def zg7(cut:TF cs outs)(b:Nat):TF cs (C3 cs outs b):=λk c ec ho y hy=>by
 obtain⟨z,z,hg⟩:=TC;unfold C3 at ho ⊢;rw[vm]at ho;rcases ho with ho|ho
 rw[cut k c ec ho y hy,n_];obtain⟨k',hk',e⟩:=dq.mp ho
 have e:(k:Int)=k':=by simpa using e
 have e:=cg e;subst e;rw[<-hg y];exact(pH   _ _ (by simp) k hk' c ec y hy)
def pJ{cs:z8}{outs:qW}{b k:Nat}:C3 cs outs b k=true↔outs k=true\/k∈(outcome cs outs (λ_=>false) b).out:=by
 unfold C3;rw[vm,dq];constructor;rintro (h|⟨k',hk',e⟩);exact .inl h;exact .inr ((cg (by simpa using e)) ▸ hk');rintro (h|h);exact .inl h;exact .inr {k,h,by simp}
theorem TJ{outs tk:qW}:∀ (l:t3) (s s':Pass),s.out=s'.out->s.held=s'.held->(∀ x,s.gone x=(tk x||s'.gone x))->(l.foldl (DD cs outs) s).out=(l.foldl (DD cs λx=>outs x||tk x) s').out
 | [],s,s',h,_,_=>h
 |k::l,s,s',h1,h2,h3=>by
  rw[gb,gb]
  have ef:(λx=>outs x||s.gone x)=λx=>(outs x||tk x)||s'.gone x:=by funext x;rw[h3,kj]
  have e0:=congrFun ef k;obtain⟨o',h',g'⟩:=s';simp only at h1 h2 h3 ef e0;subst h1 h2;unfold DD;simp only[e0,ef];split;exact TJ l _ _ rfl rfl h3;split;exact TJ l _ _ rfl rfl λx=>by simp only[h3,kj]
  exact TJ l _ _ rfl rfl h3
def zg8{outs tk:qW}:(outcome cs outs tk b).out=(outcome cs (λx=>outs x||tk x) (λ_=>false) b).out:=TJ _ _ _ rfl rfl λx=>by simp
def zg9{cs:z8}{outs:qW}{k:Nat}{c:Ch}(ec:cs[k]? =some c)(ho:outs k=false)(hn:∀ x∈c.nd,outs x=true):C3 cs outs c.blk k=true:=by
 obtain⟨l1,l2,e⟩:=List.append_of_mem<|S8.mpr ⟨c,ec,rfl⟩;rw[pJ];refine .inr ?_;unfold outcome;obtain⟨l',h1,_,_,h4⟩:=S9   l1 _;rw[e,ke,gb];generalize yn (DD cs _) _ l1=s at h1 h4
 have st:k∈(DD cs outs s k).out:=by
  unfold DD;split;rename_i h;rw[ho,h4]at h;obtain⟨y,hy,e⟩:∃ y,y∈l'/\k=(y:Int):=by simpa using h
  rw[h1]
  have:y=k:=by lia
  exact ck _<|this ▸ hy;rw[ec,Ih,zg1 λx hx=>by rw[hn x hx,n_]];simp
 obtain⟨l'',h5,_⟩:=S9   l2 _;rw[h5];exact i_ _ st
inductive EX(cs:z8):(Int->Bool)->t3->t3->Prop
 |nil {outs:qW}:EX cs outs [] []
 |cons {outs:qW} {k:Nat} {r row:t3} {c:Ch} (e:cs[k]? =some c) (h:EX cs (C3 cs outs c.blk) ((k::r).filter λ(x:Nat)=> !C3 cs outs c.blk x) row):EX cs outs (k::r) (c.blk::row)
abbrev D1(n:Nat)(outs R:qW):t3:=((ν n).filter λ(k:Nat)=> !outs k).filter λ(k:Nat)=>R k
def XW(h:outs x=true):C3 cs outs b x=true:=by unfold C3;rw[h,n_]
def pK(cs:z8)(n:Nat)(outs R:qW)(b:Nat):(D1 n outs R).filter (λ(x:Nat)=> !C3 cs outs b x)=D1 n (C3 cs outs b) R:=by
 simp only[Cs];refine ud λx z=>?_;cases h:outs x with
 |true=>rw[XW h];simp
 |false=>cases R x<;>simp
def zha(n:Nat)(outs R:qW):(D1 n outs R).Pairwise (· <·):=(ig.filter _).filter _
def NQ:k∈D1 n outs R↔k<n/\outs k=false/\R k=true:=by
 simp only[dh,ak];constructor;rintro ⟨⟨h1,h2⟩,h3⟩;exact{h1,by simpa using h2,h3};rintro ⟨h1,h2,h3⟩;exact{{h1,by rw[h2];rfl},h3}
def pL{cs:z8}{outs R:qW}{k:Nat}{r:t3}{c:Ch}(hn:∀ (k:Nat) (c:Ch),cs[k]? =some c->∀ x∈c.nd,0<=x/\x<k)(up:∀ (k:Nat) (c:Ch),cs[k]? =some c->outs k=false->R k=true->∀ y∈c.nd,R y=true)(e:D1 cs.length outs R=k::r)(ec:cs[k]? =some c):C3 cs outs c.blk k=true:=by
 have hk:=NQ.mp (show k∈D1 _ _ R by rw[e];exact χ ..);refine zg9 ec hk.2.1 λx hx=>?_;obtain⟨h1,h2⟩:=hn k c ec x hx;cases ho:outs x with
 |true=>rfl
 |false =>
  obtain⟨y,rfl⟩:∃ y:Nat,x=y:={x.toNat,by lia}
  have rise:=zha cs.length outs R
  have hy:y∈D1 cs.length _ R:=NQ.mpr {by omega,ho,up k c ec hk.2.1 hk.2.2 y hx};rw[e]at hy rise;rcases aj.mp hy with h|h
  omega
  have:=(lx.mp rise).1 y h;omega
def zhb{l:t3}{p:sX}(h:k∈l)(hp:p k=false):(l.filter p).length<l.length:=(List.length_filter_lt_length_iff_exists  ).mpr {k,h,by rw[hp];exact ax}
structure D2(K:ι)(a:Ad):Prop where
 cl:Cls K (a "Layout")
 n1:NoAttr K (a "Layout") "name_blocks"
 n2:NoAttr K (a "Layout") "record_blocks"
 n3:NoAttr K (a "Layout") "piece_blocks"
 n4:NoAttr K (a "Layout") "width"
section
variable{n r c w:Int}
def lf(n r c w:Int):ZP:=[("name_blocks",.int n),("record_blocks",.int r),("piece_blocks",.int c),("width",.int w)]
def TK:(lf n r c w).lookup ("name_blocks":Str)=some (V.int n):=by simp[lf]
def QE:(lf n r c w).lookup ("record_blocks":Str)=some (V.int r):=by
 simp[lf,ao,A9 (a:="record_blocks") (b:="name_blocks") (by decide)]
def XX:(lf n r c w).lookup ("piece_blocks":Str)=some (V.int c):=by
 simp[lf,ao,A9 (a:="piece_blocks") (b:="name_blocks") (by decide),A9 (a:="piece_blocks") (b:="record_blocks") (by decide)]
def NR:(lf n r c w).lookup ("width":Str)=some (V.int w):=by
 simp[lf,ao,A9 (a:="width") (b:="name_blocks") (by decide),A9 (a:="width") (b:="record_blocks") (by decide),A9 (a:="width") (b:="piece_blocks") (by decide)]
def B8(h:(DS x "name_blocks" || DS x "record_blocks" || DS x "piece_blocks" || DS x "width")=false:=by decide +kernel):(lf n r c w).lookup x=none:=by
 simp only[h_]at h;obtain⟨⟨⟨h1,h2⟩,h3⟩,h4⟩:=h;simp[lf,ao,A9 h1,A9 h2,A9 h3,A9 h4]
end
structure LayAt(a:Ad)(H:Hp)(p:Addr)(n r c w:Nat):Prop where
 ob:∃ dx,H p=some (.ins (a "Layout") dx (lf n r c w))
 hn:n<=100
 hr:r<=100
 hc:c<=100
 h1:1<=w
 hw:w<=100
def LayAt.same(L:LayAt a H p n r c w)(s:Same H H'):LayAt a H' p n r c w:=by
 obtain⟨⟨dx,e⟩,z1,z2,z3,z4,z5⟩:=L;exact{{dx,s _ _ e},z1,z2,z3,z4,z5}
def LayAt.sb(L:LayAt a H p n r c w)(s:SameBut F H H')(f:¬ F p):LayAt a H' p n r c w:=by
 obtain⟨⟨dx,e⟩,z1,z2,z3,z4,z5⟩:=L;exact{{dx,s _ _ e f},z1,z2,z3,z4,z5}
example:(XY):=∃ (p dx:Addr) (n r c w:Nat),vs=[.ref p,.int n,.int r,.int c,.int w]/\D2 K a/\H p=some (.ins (a "Layout") dx [])/\n<=100/\r<=100/\c<=100/\1<=w/\w<=100 ∧
 ∀ H',LayAt a H' p n r c w->SameBut (· =p) H H'->Q .non H'
def GZ(x y:Int)(Q:VK)(H:Hp):Prop:=∀ t,H t=none->Q (.ref t) (upd H t<|.tup [.int x,.int y])
example:(MH):=∃ (p:Addr) (n r c w k:Nat) (b:Int),vs=[.ref p,.int b,.int k]/\D2 K a/\LayAt a H p n r c w/\GZ (b+k/w) (k%w) Q H
example:(KB):=∃ (p:Addr) (n r c w k:Nat),vs=[.ref p,.int k]/\D2 K a/\LayAt a H p n r c w/\GZ (0+k/w) (k%w) Q H
example:(HD):=∃ (p:Addr) (n r c w k:Nat),vs=[.ref p,.int k]/\D2 K a/\LayAt a H p n r c w/\GZ (n+k/w) (k%w) Q H
example:(MI):=∃ (p:Addr) (n r c w k:Nat),vs=[.ref p,.int k]/\D2 K a/\LayAt a H p n r c w/\GZ (n+r+k/w) (k%w) Q H
example:(KC):=∃ (p:Addr) (n r c w k:Nat),vs=[.ref p,.int k]/\D2 K a/\LayAt a H p n r c w/\GZ (n+r+c+k/w) (k%w) Q H
example:(KD):=∃ (p:Addr) (n r c w k:Nat),vs=[.ref p,.int k]/\D2 K a/\LayAt a H p n r c w/\GZ (n+r+c+r+k/w) (k%w) Q H
example:(QF):=∃ (p:Addr) (n r c w:Nat),vs=[.ref p]/\D2 K a/\LayAt a H p n r c w/\Q (.int<|n+r+c) H
example:(XZ):=∃ (p:Addr) (n r c w:Nat),vs=[.ref p]/\D2 K a/\LayAt a H p n r c w/\Q (.int<|n+r+c+r+c) H
example:(MJ):=∃ (p:Addr) (n r c w:Nat),vs=[.ref p]/\D2 K a/\LayAt a H p n r c w/\∀ t,H t=none->Q (.ref t) (upd H t<|.tup [.int (n*w),.int<|r*w,.int<|c*w])
example:(X0):=∃ (p:Addr) (n r c w:Nat),vs=[.ref p]/\D2 K a/\DL K a/\LayAt a H p n r c w /\
 ∀ x cl H',H x=none->H cl=none->PlankAt a H' x cl w (bc (n+r+c+r+c) (bc w .non)) 0->Same H H'->Q (.ref x) H'
inductive CV where
 |no
 |nm (z:Str) (k:Nat)
 |mk (i:Nat)
 |rc (m:Nat) (ps:t3)
 |tx (z:Str)
abbrev Md:=Nat->Nat->CV
def Md.put(M:Md)(kind k:Nat)(x:CV):Md:=λi j=>if i=kind/\j=k then x else M i j
structure AC where
 kind:Nat
 k:Nat
 x:CV
 nd:t3
abbrev _root_.Oz:=List AC
def sh(M0:Md)(C:sX):Oz->Md
 | []=>M0
 |a::r=>if C r.length then(sh M0 C r).put a.kind a.k a.x else sh M0 C r
abbrev hnd(M0:Md)(as:Oz):Md:=sh M0 (λ_=>true) as
def HE(kind k:Nat):Oz->Option Nat
 | []=>none
 |a::r=>if a.kind=kind/\a.k=k then some r.length else HE kind k r
def GI(C:sX):Oz->Prop
 | []=>True
 |a::r=>GI C r/\(C r.length=true->(∀ y∈a.nd,C y=true)/\∀ j,HE a.kind a.k r=some j->C j=true)
section
variable{M0 S:Md}{C:sX}{as:Oz}{kind k m0:Nat}{x:CV}
def CU:S.put kind k x kind k=x:=if_pos ⟨rfl,rfl⟩
def MK(h:i≠kind):S.put kind k x i j=S i j:=if_neg λz=>h z.1
def DM(h:j≠k):S.put kind k x i j=S i j:=if_neg λz=>h z.2
def TM(h:∀ j,HE kind k as=some j->C j=true):sh M0 C as kind k=hnd M0 as kind k:=by
 induction as with
 |nil=>rfl
 |cons a r ih =>
  unfold HE at h;simp only[sh,if_true];by_cases e:a.kind=kind/\a.k=k;rw[if_pos e]at h;obtain⟨rfl,rfl⟩:=e;rw[h _ rfl];simp only[if_true];rw[CU,CU];rw[if_neg e]at h
  have:=ih h
  have e':¬ (kind=a.kind/\k=a.k):=λz=>e ⟨z.1.symm,z.2.symm⟩;unfold Md.put;rw[if_neg e'];by_cases c:C r.length=true;rw[if_pos c,if_neg e'];exact this;rw[if_neg c];exact this
def KF(h:GI C (a::as))(c:C as.length=true):sh M0 C as a.kind a.k=hnd M0 as a.kind a.k:=TM (h.2 c).2
def IA:hnd M0 (a::as)=(hnd M0 as).put a.kind a.k a.x:=rfl
def CZ(c:C as.length=true):sh M0 C (a::as)=(sh M0 C as).put a.kind a.k a.x:=if_pos c
def ED(c:¬ C as.length=true):sh M0 C (a::as)=sh M0 C as:=if_neg c
def GJ:CV->Nat->Bool
 |.nm _ r',r=>r'==r
 |_,_=>false
def ld(m0:Nat)(S:Md)(r:Nat):Nat:=(ν m0).countP λk=>GJ (S 0 k) r
def zhc(h:kind≠0):ld m0 (S.put kind k x) r=ld m0 S r:=by
 unfold ld
 congr 1
 funext j;rw[MK h.symm]
def X1:∀ {m0:Nat},k<m0->ld m0 (S.put 0 k x) r+(if GJ (S 0 k) r then 1 else 0)=ld m0 S r+(if GJ x r then 1 else 0):=by
 intro m0;unfold ld
 induction m0 with
 |zero=>intro h;exact nZ h
 |succ n ih =>
  rw[bu,sv,sv];simp only[ye,Ja];by_cases e:k=n;subst e
  have:(ν k).countP (λj=>GJ ((S.put 0 k x) 0 j) r)=(ν k).countP (λj=>GJ _ r):=F_ λj hj=>by
   rw[DM (bd<|ak.mp hj)]
  rw[CU]
  lia
  rw[DM (λz=>e z.symm)]
  lia
structure Snd(m0:Nat)(S:Md):Prop where
 nl:∀ k z r,k<m0->S 0 k=.nm z r->∃ m ps,S 3 r=.rc m ps
 ct:∀ r m ps,S 3 r=.rc m ps->ld m0 S r<=m
 mr:∀ r m ps,S 3 r=.rc m ps->S 1 r=.mk 1
 nd:∀ r m ps,S 3 r=.rc m ps->ps.Nodup
 pm:∀ r m ps,S 3 r=.rc m ps->∀ p∈ps,S 2 p=.mk 1/\∃ t,S 4 p=.tx t
 dj:∀ r r' m m' ps ps',r≠r'->S 3 r=.rc m ps->S 3 r'=.rc m' ps'->∀ p∈ps,p∉ps'
 un:∀ k k' z r r',k<m0->k'<m0->S 0 k=.nm z r->S 0 k'=.nm z r'->k=k'
def Snd.rmark(I:Snd m0 S)(h:i=1\/∀ m ps,S 3 r≠.rc m ps):Snd m0 (S.put 1 r<|.mk i):=by
 refine{I.nl,λr' m ps e=>I.ct r' m ps e,λr' m ps e=>?_,I.nd,I.pm,I.dj,I.un};by_cases z:r'=r;subst z;rw[CU];rcases h with h|h
 rw[h];exact absurd e<|h m ps;rw[DM z];exact I.mr r' m ps e
def Snd.pmark(I:Snd m0 S)(h:i=1\/∀ r m ps,S 3 r=.rc m ps->p∉ps):Snd m0 (S.put 2 p<|.mk i):=by
 refine{I.nl,λr' m ps e=>I.ct r' m ps e,I.mr,I.nd,λr' m ps e q hq=>{?_,(I.pm r' m ps e q hq).2},I.dj,I.un};by_cases z:q=p;subst z;rw[CU];rcases h with h|h
 rw[h];exact absurd hq<|h r' m ps e;rw[DM z];exact(I.pm r' m ps e q hq).1
def Snd.text(I:Snd m0 S):Snd m0 (S.put 4 p<|.tx t):=by
 refine{I.nl,λr' m ps e=>I.ct r' m ps e,I.mr,I.nd,λr' m ps e q hq=>{(I.pm r' m ps e q hq).1,?_},I.dj,I.un};by_cases z:q=p;subst z;exact⟨t,CU⟩;rw[DM z];exact(I.pm r' m ps e q hq).2
def Snd.gone(I:Snd m0 S)(hk:k<m0):Snd m0 (S.put 0 k .no):=by
 have at':∀ {j z r},(S.put 0 k .no) 0 j=.nm z r->S 0 j=.nm z r:=λ{j z r} e=>by
  by_cases h:j=k;subst h;rw[CU]at e;cases e;rw[DM h]at e;exact e
 refine{λj z r hj e=>I.nl j z r hj<|at' e,λr m ps e=>?_,I.mr,I.nd,I.pm,I.dj,λj j' z r r' h h' e e'=>I.un j j' z r r' h h' (at' e) (at' e')}
 have l:=X1 (S:=S) (x:=.no) (r:=r) hk
 have c:=I.ct r m ps e;rw[show GJ .no r=false from rfl]at l;simp only[wq]at l
 lia
def Snd.fill(I:Snd m0 S)(hk:k<m0)(h3:S 3 r=.rc m ps)(hl:ld m0 S r+1<=m)(hz:∀ j r',j<m0->S 0 j≠.nm z r')(h0:∀ z r,S 0 k≠.nm z r):Snd m0 (S.put 0 k<|.nm z r):=by
 have at':∀ {j y q},(S.put 0 k<|.nm z r) 0 j=.nm y q->(j=k/\y=z/\q=r)\/(j≠k/\S 0 j=.nm y q):=λ{j y q} e=>by
  by_cases h:j=k;subst h;rw[CU]at e;cases e;exact .inl ⟨rfl,rfl,rfl⟩;rw[DM h]at e;exact .inr ⟨h,e⟩
 refine{λj y q hj e=>?_,λq m' ps' e=>?_,I.mr,I.nd,I.pm,I.dj,λj j' y q q' h h' e e'=>?_};rcases at' e with⟨_,_,rfl⟩|⟨_,e⟩
 exact x2 m ps h3;exact I.nl j y q hj e
 have l:=X1 (S:=S) (x:=.nm z r) (r:=q) hk
 have e:S 3 q=.rc m' _:=e;simp only[GJ]at l;by_cases z:r=q;subst z;rw[e]at h3;cases h3;simp at l;exact l ▸ hl;simp[z]at l;exact l ▸ (I.ct q m' _ e);rcases at' e with⟨e1,e2,_⟩|⟨e1,e2⟩<;>rcases at' e' with⟨f1,f2,_⟩|⟨f1,f2⟩
 rw[e1,f1];subst e2;exact absurd f2<|hz _ _ h';subst f2;exact absurd e2<|hz _ _ h;exact I.un j j' y q q' h h' e2 f2
def Snd.recd(I:Snd m0 S)(hl:ld m0 S r<=m')(hm:S 1 r=.mk 1)(hn:ps'.Nodup)(hp:∀ p∈ps',(S 2 p=.mk 1/\∃ t,S 4 p=.tx t)/\∀ q m ps,q≠r->S 3 q=.rc m ps->p∉ps):Snd m0 (S.put 3 r<|.rc m' ps'):=by
 have at':∀ {q m ps},(S.put 3 r<|.rc m' ps') 3 q=.rc m ps->(q=r/\m=m'/\ps=ps')\/(q≠r/\S 3 q=.rc m ps):=λ{q m ps} e=>by
  by_cases h:q=r;subst h;rw[CU]at e;cases e;exact .inl ⟨rfl,rfl,rfl⟩;rw[DM h]at e;exact .inr ⟨h,e⟩
 refine{λj z q hj e=>?_,λq m ps e=>?_,λq m ps e=>?_,λq m ps e=>?_,λq m ps e p h=>?_,λq q' m m1 ps ps1 ne e e' p h=>?_,I.un};by_cases h:q=r;subst h;exact x2 m' _ CU;rw[DM h];exact I.nl j z q hj e;rcases at' e with⟨rfl,rfl,_⟩|⟨_,e⟩
 exact hl;exact I.ct q m ps e;rcases at' e with⟨rfl,_,_⟩|⟨_,e⟩
 exact hm;exact I.mr q m ps e;rcases at' e with⟨_,_,rfl⟩|⟨_,e⟩
 exact hn;exact I.nd q m ps e;rcases at' e with⟨_,_,rfl⟩|⟨_,e⟩
 exact(hp p h).1;exact I.pm q m ps e p h;rcases at' e with⟨e1,_,rfl⟩|⟨e1,e2⟩<;>rcases at' e' with⟨f1,_,rfl⟩|⟨f1,f2⟩
 exact absurd (e1.trans f1.symm) ne;exact(hp p h).2 q' m1 _ (λz=>ne<|e1.trans z.symm) f2;exact λz=>(hp p z).2 q m ps (λy=>ne<|y.trans f1.symm) e2 h;exact I.dj q q' m m1 ps _ ne e2 f2 p h
def Snd.count(I:Snd m0 S)(h3:S 3 r=.rc m ps)(hl:ld m0 S r<=m'):Snd m0 (S.put 3 r<|.rc m' ps) :=
 I.recd hl (I.mr r m ps h3) (I.nd r m ps h3) λp hp=>{I.pm r m ps h3 p hp,λq m1 ps1 ne e=>I.dj r q m m1 ps _ ne.symm h3 e p hp}
def Snd.less(I:Snd m0 S)(h3:S 3 r=.rc m ps)(hs:ps'.Sublist ps):Snd m0 (S.put 3 r<|.rc m ps') :=
 I.recd (I.ct r m ps h3) (I.mr r m ps h3) ((I.nd r m ps h3).sublist hs) λp hp=>{I.pm r m ps h3 p<|hs.subset hp,λq m1 ps1 ne e=>I.dj r q m m1 ps _ ne.symm h3 e p<|hs.subset hp}
def Snd.more(I:Snd m0 S)(h3:S 3 r=.rc m ps)(h2:S 2 p=.mk 1)(h4:S 4 p=.tx t)(hu:∀ q m ps,S 3 q=.rc m ps->p∉ps):Snd m0 (S.put 3 r<|.rc m<|ps++[p]):=by
 refine I.recd (I.ct r m ps h3) (I.mr r m ps h3) (mz.mpr {I.nd r m ps h3,by simp,λx hx y hy e=>?_}) λy hy=>?_;rw[ae]at hy;subst hy e;exact hu r m ps h3 hx;rcases a_.mp hy with hy|hy
 exact{I.pm r m ps h3 y hy,λq m1 ps1 ne e=>I.dj r q m m1 ps _ ne.symm h3 e y hy};rw[ae.mp hy];exact{⟨h2,t,h4⟩,λq m1 ps1 z e=>hu q m1 _ e}
def Snd.drop(I:Snd m0 S)(hl:ld m0 S r=0):Snd m0 (S.put 3 r .no):=by
 have at':∀ {q m ps},(S.put 3 r .no) 3 q=.rc m ps->S 3 q=.rc m ps:=λ{q m ps} e=>by
  by_cases h:q=r;subst h;rw[CU]at e;cases e;rw[DM h]at e;exact e
 refine{λj z q hj e=>?_,λq m ps e=>(I.ct q m ps<|at' e),λq m ps e=>I.mr q m ps<|at' e,λq m ps e=>I.nd q m ps<|at' e,λq m ps e=>I.pm q m ps<|at' e,λq q' m m1 ps ps1 ne e e'=>I.dj q q' m m1 ps _ ne (at' e) (at' e'),I.un};by_cases h:q=r;subst h
 have:0<ld m0 S q:=vo.mpr {j,ak.mpr hj,by have e:S 0 j=.nm z q:=e;simp[e,GJ]};exact absurd (hl ▸ this) (by decide);rw[DM h];exact I.nl j z q hj e
structure Hist(m0:Nat)(M0:Md)(as:Oz)(t o:Str->Option Nat):Prop where
 sd:∀ C,GI C as->Snd m0 (sh M0 C as)
 k1:∀ z k r,k<m0->hnd M0 as 0 k=.nm z r->HE 0 k as=o z
 k2:∀ z,(∀ k r,k<m0->hnd M0 as 0 k≠.nm z r)->t z=o z
 k3:∀ C z,GI C as->(∀ j,o z=some j->C j=true)->∀ k r,k<m0->(sh M0 C as 0 k=.nm z r↔hnd M0 as 0 k=.nm z r)
theorem pM:∀ as:Oz,GI (λ_=>true) as
 | []=>trivial
 |_::r=>{pM r,λ_=>{λ_ _=>rfl,λ_ _=>rfl}}
variable{t o:Str->Option Nat}
def Hist.now(I:Hist m0 M0 as t o):Snd m0 (hnd M0 as):=I.sd _<|pM as
def Hist.step(I:Hist m0 M0 as t o)(ha:a.kind≠0)(h:∀ C,GI C (a::as)->C as.length=true->Snd m0 ((sh M0 C as).put a.kind a.k a.x)):Hist m0 M0 (a::as) t o:=by
 have s0:∀ (C:sX) (k:Nat),sh M0 C _ 0 k=sh M0 C as 0 k:=λC k=>by
  by_cases c:C as.length=true;rw[CZ c,MK ha.symm];rw[ED c]
 have s1:∀ k:Nat,hnd M0 _ 0 k=hnd M0 as 0 k:=s0 _;refine{λC hC=>?_,λz k r hk e=>?_,λz e=>I.k2 z λk r hk=>by rw[<-s1];exact e k r hk,λC z hC ho k r hk=>?_};by_cases c:C as.length=true;rw[CZ c];exact h C hC c;rw[ED c];exact I.sd C hC.1;rw[s1]at e;unfold HE;rw[if_neg λz=>ha z.1];exact I.k1 z k r hk e;rw[s0,s1];exact I.k3 C z hC.1 ho k r hk
def EL(f:Str->Option Nat)(z:Str)(j:Nat):Str->Option Nat:=λy=>if y=z then some j else f y
def Hist.fill(I:Hist m0 M0 as t o)(hk:k<m0)(h0:hnd M0 as 0 k=.no)(hz:∀ j r,j<m0->hnd M0 as 0 j≠.nm z r)(ht:∀ j,t z=some j->j∈nd)
  (h:∀ C,GI C ({0,k,.nm z r,nd}::as)->C as.length=true->∃ m ps,sh M0 C as 3 r=.rc m ps/\ld m0 (sh M0 C as) r+1<=m):Hist m0 M0 ({0,k,.nm z r,nd}::as) t (EL o z as.length):=by
 have hnk:∀ {j y q},j<m0->hnd M0 as 0 j=.nm y q->j≠k/\y≠z:=λ{j y q} hj e=>{λe'=>(by rw[e',h0]at e;cases e),λe'=>hz j q hj<|e' ▸ e}
 have free:∀ C,GI C ({0,k,.nm z r,nd}::as)->C _=true->sh M0 C as 0 k=.no/\∀ j q,j<m0->sh M0 C as 0 j≠.nm z q:=λC hC c=>{by rw[KF  hC c];exact h0,λj q hj e=>(hz j q hj ((I.k3 C z hC.1 (λi ei=>(hC.2 c).1 i (ht i (by rw[(I.k2 z hz),ei]))) j q hj).mp e))}
 refine{λC hC=>?_,λy j q hj e=>?_,λy e=>?_,λC y hC ho j q hj=>?_};by_cases c:C as.length=true;refine u2 ?_<|h C hC c;rintro m ps ⟨h3,hl⟩;obtain⟨f1,f2⟩:=free C hC c;rw[CZ c];exact(I.sd C hC.1).fill hk h3 hl f2 λz r e=>by rw[f1]at e;cases e
 rw[ED c];exact I.sd C hC.1;rw[IA]at e;unfold HE;by_cases z':j=k;subst z';rw[CU]at e;cases e;rw[if_pos ⟨rfl,rfl⟩];exact(if_pos rfl).symm;rw[DM z']at e;rw[if_neg λw=>z' w.2.symm];unfold EL;rw[if_neg (hnk hj e).2];exact I.k1 y j q hj e
 have ny:y≠z:=λw=>by
  subst w;exact e k r hk (by rw[IA,CU])
 unfold EL;rw[if_neg ny];refine I.k2 y λj q hj e'=>e j q hj ?_;rw[IA,DM (hnk hj e').1];exact e';rw[IA];by_cases c:C as.length=true;obtain⟨f1,f2⟩:=free C hC c;rw[CZ c];by_cases z':j=k;subst z';rw[CU,CU];rw[DM z',DM z'];by_cases w:y=z;subst w;exact{λe=>absurd e<|f2 j q hj,λe=>absurd e<|hz j q hj};unfold EL at ho;rw[if_neg w]at ho;exact I.k3 C y hC.1 ho j q hj;rw[ED c];unfold EL at ho;by_cases w:y=z;subst w;rw[if_pos rfl]at ho;exact absurd (ho _ rfl) c;rw[if_neg w]at ho
 have k3:=I.k3 C y hC.1 ho j q hj;by_cases z':j=k;subst z';rw[CU];refine{λe=>?_,λe=>absurd (by cases e;rfl) w}
 have:=k3.mp e;rw[h0]at this;cases this;rw[DM z'];exact k3
def Hist.gone(I:Hist m0 M0 as t o)(hk:k<m0)(h0:hnd M0 as 0 k=.nm z r):Hist m0 M0 ({0,k,.no,nd}::as) (EL t z as.length) (EL o z as.length):=by
 have un:=I.now.un
 have only:=λ{j q} hj e=>un j k z q r hj hk e h0;refine{λC hC=>?_,λy j q hj e=>?_,λy e=>?_,λC y hC ho j q hj=>?_};by_cases c:C as.length=true;rw[CZ c];exact(I.sd C hC.1).gone hk;rw[ED c];exact I.sd C hC.1;rw[IA]at e;by_cases z':j=k;subst z';rw[CU]at e;cases e;rw[DM z']at e;unfold HE EL;rw[if_neg λw=>z' w.2.symm,if_neg λw=>z'<|only hj (w ▸ e)];exact I.k1 y j q hj e;unfold EL;by_cases w:y=z;rw[if_pos w,if_pos w];rw[if_neg w,if_neg w];refine I.k2 y λj q hj e'=>e j q hj ?_
 have:j≠k:=λz'=>by rw[z',h0]at e';cases e';exact w rfl
 rw[IA,DM this];exact e';rw[IA];unfold EL at ho;by_cases c:C as.length=true;rw[CZ c];by_cases z':j=k;subst z';rw[CU,CU];rw[DM z',DM z'];by_cases w:y=z;subst w;exact{λe=>absurd ((I.sd C hC.1).un j k y q r hj hk e (by rw[KF  hC c];exact h0)) z',λe=>absurd (only hj e) z'};rw[if_neg w]at ho;exact I.k3 C y hC.1 ho j q hj;rw[ED c];by_cases w:y=z;subst w;rw[if_pos rfl]at ho;exact absurd (ho _ rfl) c;rw[if_neg w]at ho
 have k3:=I.k3 C y hC.1 ho j q hj;by_cases z':j=k;subst z';rw[CU];refine{λe=>?_,λe=>by cases e}
 have:=k3.mp e;rw[h0]at this;cases this;exact absurd rfl w;rw[DM z'];exact k3
def Snd.ld0(I:Snd m0 S)(h:∀ m ps,S 3 r≠.rc m ps):ld m0 S r=0:=by
 refine List.countP_eq_zero.mpr λk hk e=>?_;cases e0:S 0 k with
 |nm z q =>
  simp only[e0,GJ,beq_iff_eq]at e;subst e;refine u2 ?_<|I.nl k z q (ak.mp hk) e0;rintro m ps e;exact h m ps e
 |_=>simp[e0,GJ]at e
def Hist.make(I:Hist m0 M0 as t o)(hk:k<m0)(h0:hnd M0 as 0 k=.no)(hz:∀ j r,j<m0->hnd M0 as 0 j≠.nm z r)(h1:hnd M0 as 1 r≠.mk 1)(hn:as.length+1∈nd)(ht:∀ j,t z=some j->j∈nd) :
  Hist m0 M0 ({0,k,.nm z r,nd}::{3,r,.rc 1 [],[as.length]}::{1,r,.mk 1,[]}::as) t (EL o z<|as.length+2):=by
 have I1:=I.step (a:={1,r,_,[]}) (by simp) λC hC y=>(I.sd C hC.1).rmark (.inl rfl)
 have no:∀ C,GI C ({3,r,.rc 1 [],[as.length]}::{1,r,_,[]}::as)->C _=true->ld m0 _ r=0:=λC hC c=>by
  refine(I1.sd C hC.1).ld0 λm ps e=>?_;rw[KF  hC c]at e;exact h1<|I.now.mr r m ps e
 have I2:=I1.step (a:={3,r,_,_}) (by simp) λC hC c=>by
  refine(I1.sd C hC.1).recd (by rw[no C hC c];decide) ?_ jr (by simp);rw[CZ ((hC.2 c).1 _ (by simp)),CU]
 refine I2.fill hk (h0) (λj q hj=>hz j q hj) ht λC hC c=>?_
 have cL:=(hC.2 c).1 _ hn;refine x2 1 [] {by rw[CZ cL,CU],?_};rw[CZ cL,zhc (by simp),no C hC.1 cL];exact υ 1
def Hist.link(I:Hist m0 M0 as t o)(hk:k<m0)(h0:hnd M0 as 0 k=.no)(hz:∀ j r,j<m0->hnd M0 as 0 j≠.nm z r)(h3:hnd M0 as 3 r=.rc m ps)(hn:as.length∈nd)(ht:∀ j,t z=some j->j∈nd) :
  Hist m0 M0 ({0,k,.nm z r,nd}::{3,r,.rc (m+1) ps,[]}::as) t (EL o z<|as.length+1):=by
 have a3:∀ C,GI C ({3,r,.rc (m+1) ps,[]}::as)->C _=true->sh M0 C as 3 r=.rc m ps:=λC hC c=>by
  rw[KF  hC c];exact h3
 refine(I.step  (by simp) λC hC c=>(I.sd C hC.1).count (a3 C hC c) (cu<|(I.sd C hC.1).ct r m ps (a3 C hC c))).fill hk (h0) (λj q hj=>hz j q hj) ht λC hC c=>?_
 have cL:=(hC.2 c).1 _ hn;refine x2 _ ps {by rw[CZ cL,CU],?_};rw[CZ cL];exact Ht<|(I.sd C hC.1.1).ct r m ps (a3 C hC.1 cL)
def Hist.fewer(I:Hist m0 M0 as t o)(hk:k<m0)(h0:hnd M0 as 0 k=.nm z r)(h3:hnd M0 as 3 r=.rc m ps)(hb:b.kind=3/\b.k=r/\as.length∈b.nd)(hC:GI C (b::{0,k,.no,nd}::as))(c:C (as.length+1)=true) :
  sh M0 C ({0,k,.no,nd}::as) 3 r=.rc m ps/\ld m0 (sh M0 C ({0,k,.no,nd}::as)) r+1<=m/\sh M0 C as 3 r=.rc m ps:=by
 obtain⟨b1,b2,b3⟩:=hb
 have cL:=(hC.2 c).1 _ b3
 have e3:sh M0 C ({0,k,.no,nd}::as) 3 r=.rc m ps:=by
  have:=KF (M0:=M0) hC c;rw[b1,b2]at this;rw[this];exact h3
 have f3:sh M0 C as 3 r=.rc m ps:=by
  rw[CZ cL]at e3;exact e3
 have f0:sh M0 C as 0 k=.nm z r:=by rw[KF  hC.1 cL];exact h0
 have l:=X1 (S:=sh M0 C as) (x:=.no) (r:=r) hk;refine{e3,?_,f3};rw[f0,show GJ _ r=true from by simp[GJ]]at l
 have e:ld m0 (sh M0 C ({0,k,.no,nd}::as)) r=ld m0 ((sh M0 C as).put 0 k .no) r:=by rw[CZ cL]
 exact e ▸ l ▸ ((I.sd C hC.1.1).ct r m ps f3)
def Hist.unlead(I:Hist m0 M0 as t o)(hk:k<m0)(h0:hnd M0 as 0 k=.nm z r)(h3:hnd M0 as 3 r=.rc (m+1) ps) :
  Hist m0 M0 ({3,r,.rc m ps,[as.length]}::{0,k,.no,nd}::as) (EL t z as.length) (EL o z as.length):=by
 have I1:=I.gone (nd:=nd) hk h0;exact I1.step  (by simp) λC hC c=>by
  obtain⟨e1,e2,y⟩:=I.fewer hk h0 h3 {rfl,rfl,by simp} hC c;exact(I1.sd C hC.1).count e1 (yv e2)
theorem Hist.unmark:∀ {ps:t3} {bs:Oz},Hist m0 M0 bs t o->(∀ C,GI C bs->C d=true->∀ q m ps',sh M0 C bs 3 q=.rc m ps'->∀ p∈ps,p∉ps')->Hist m0 M0 ((ps.map λp=>({2,p,.mk 0,[d]}:AC)).reverse++bs) t o
 | [],bs,I,_=>I
 | p::ps,bs,I,h=>by
  have:=Hist.unmark  (I.step (a:={2,p,.mk 0,[d]}) (by simp) λC hC c=>(I.sd C hC.1).pmark (.inr λr m ps' e=>h C hC.1 ((hC.2 c).1 d (by simp)) r m _ e p χ)) λC hC cd q m ps' e p' hp'=>by
   have e':sh M0 C bs 3 q=.rc m ps':=by
    by_cases c:C bs.length=true;rw[CZ c]at e;exact e;rw[ED c]at e;exact e
   exact h C hC.1 cd q m _ e' p'<|ρ _ hp'
  rw[dg,na,dw];exact this
def zhd(h:∀ a∈cs,a.kind≠i):sh M0 C (cs++as) i j=sh M0 C as i j:=by
 induction cs with
 |nil=>rfl
 |cons a r ih =>
  have ih:=ih λb hb=>h b<|ρ _ hb;rw[um];by_cases c:C (r++as).length=true;rw[CZ c,MK (h a χ).symm];exact ih;rw[ED c];exact ih
def Hist.dropped(I:Hist m0 M0 as t o)(hk:k<m0)(h0:hnd M0 as 0 k=.nm z r)(h3:hnd M0 as 3 r=.rc m ps)(hm:m<=1) :
  Hist m0 M0 ({1,r,.mk 0,[as.length+1]}::((ps.map λp=>({2,p,.mk 0,[as.length+1]}:AC)).reverse++{3,r,.no,[as.length]}::{0,k,.no,nd}::as)) (EL t z as.length) (EL o z as.length):=by
 have I1:=I.gone (nd:=nd) hk h0
 have I2:=I1.step (a:={3,r,_,[as.length]}) (by simp) λC hC c=>by
  obtain⟨e1,e2,x⟩:=I.fewer hk h0 h3 {rfl,rfl,by simp} hC c;exact(I1.sd C hC.1).drop (Nat.le_zero.mp<|yv<|ω e2 hm)
 have I3:=Hist.unmark   I2 λC hC cd q m' ps' e p hp=>by
  obtain⟨x,x,f3⟩:=I.fewer hk h0 h3 {rfl,rfl,by simp} hC cd;rw[CZ cd]at e;by_cases z:q=r;subst z;rw[CU]at e;cases e;rw[DM z,CZ ((hC.2 cd).1 _ (by simp))]at e;exact(I.sd C hC.1.1).dj r q m m' ps _ (λy=>z y.symm) f3 e p hp
 refine I3.step  (by simp) λC hC c=>(I3.sd C hC.1).rmark (.inr λm' ps' e=>?_);rw[zhd (λa ha=>by
  obtain⟨p,x,rfl⟩:=av.mp<|Ii.mp ha;simp),CZ ((hC.2 c).1 _ (by simp)),CU]at e
 cases e
def Hist.put(I:Hist m0 M0 as t o){r m p:Nat}{ps:t3}{x:Str}(h2:hnd M0 as 2 p≠.mk 1)(h3:hnd M0 as 3 r=.rc m ps) :
  Hist m0 M0 ({3,r,.rc m<|ps++[p],[as.length+1]}::{4,p,.tx x,[as.length]}::{2,p,.mk 1,[]}::as) t o:=by
 have I1:=I.step (a:={2,p,_,[]}) (by simp) λC hC z=>(I.sd C hC.1).pmark (.inl rfl)
 have I2:=I1.step (a:={4,p,.tx x,[as.length]}) (by simp) λC hC z=>(I1.sd C hC.1).text;refine I2.step  (by simp) λC hC c=>?_
 have c1:C (as.length+1)=true:=(hC.2 c).1 _ (by simp)
 have c0:C as.length=true:=(hC.1.2 c1).1 _ (by simp);refine(I2.sd C hC.1).more  ?_ ?_ (by rw[CZ c1,CU]) λq m' ps' e hp=>?_;rw[KF  hC c];exact h3;rw[CZ c1,MK (by simp),CZ c0,CU];rw[CZ c1,CZ c0]at e
 have:=((I.sd C hC.1.1.1).pm q m' _ e p hp).1;rw[KF  hC.1.1 c0]at this;exact h2 this
def Hist.take(I:Hist m0 M0 as t o)(h3:hnd M0 as 3 r=.rc m ps)(hi:ps[i]? =some p) :
  Hist m0 M0 ({2,p,.mk 0,[as.length]}::{3,r,.rc m<|ps.eraseIdx i,[]}::as) t o:=by
 have a3:∀ C,GI C ({3,r,.rc m<|ps.eraseIdx i,[]}::as)->C _=true->sh M0 C as 3 r=.rc m ps:=λC hC c=>by
  rw[KF  hC c];exact h3
 have I1:=I.step  (by simp) λC hC c=>(I.sd C hC.1).less (a3 C hC c) (List.eraseIdx_sublist ..);refine I1.step  (by simp) λC hC c=>(I1.sd C hC.1).pmark (.inr λq m' ps' e=>?_)
 have c0:C as.length=true:=(hC.2 c).1 _ (by simp)
 have e3:=a3 C hC.1 c0;rw[CZ c0]at e;by_cases z:q=r;subst z;rw[CU]at e;cases e;exact λh=>by
  obtain⟨j,hj,ej⟩:=List.mem_eraseIdx_iff_getElem?.mp h;exact hj ((List.getElem?_inj ((ε.mp hi).1) ((I.sd C hC.1.1).nd q m ps e3)).mp (hi.trans ej.symm)).symm
 rw[DM z]at e;exact(I.sd C hC.1.1).dj r q m m' ps _ (λy=>z y.symm) e3 e p (θ hi)
end
abbrev HF(a:Ad):Addr:=a "Hold"
def TN(ns:sZ)(k:Nat):Int:=ns.getD k 0
example:(TQ):=∃ (s:Addr) (ns:sZ) (k:Nat),vs=[.ref s,.int k]/\SqL K H s (ns.map V.int)/\ns.length<=1000/\Q (.int<|TN ns k) H
abbrev TB(K:ι)(a:Ad):Prop:=o6 K (HF a) (a "Change")
abbrev DW(a:Ad)(H:Hp)(A:BA)(w:Nat)(rows:sT)(n:Nat)(cs:z8)(outs:qW):Prop:=BookAt a (HF a) H A w rows n cs outs
def NS:Option Nat->V
 |none=>.non
 |some k=>.int k
def FT(n:Nat)(outs:qW):t3:=(ν n).filter λ(k:Nat)=> !outs k
def AM(l:t3):Oq:=l.map λ(k:Nat)=>V.int k
abbrev onPl(rows:sT)(w:Nat)(i j:Int):Prop:=0<=i/\i<rows.length/\0<=j/\j<w
example:(X2):=∃ x dx pl v nt,vs=[.ref x,.ref pl,v,.ref nt]/\TB K a/\H x=some (.ins (a "Change") dx [])/\Q .non (upd H x<|.ins (a "Change") dx (GH pl v nt))
example:(TR):=∃ (b gp cl dx:Addr) (w:Nat) (rows:sT) (n:Nat),vs=[.ref b,.ref gp]/\TB K a/\DL K a/\PlankAt a H gp cl w rows n/\H b=some (.ins (HF a) dx []) /\
 ∀ (m mi lt ou:Addr) (ls:tW) (H':Hp),H m=none->H mi=none->H lt=none->H ou=none->(∀ l∈ls,H l=none)->DW a H' ⟨b,gp,m,mi,lt,ou,ls,cl⟩ w rows n [] (λ_=>false)->SameBut (· =b) H H'->Q .non H'
example:(X3):=∃ (nl:Addr) (ns:sZ) (o:Option Nat),vs=[.ref nl,NS o]/\SqL K H nl (ns.map V.int)/\ns.length<=60 /\
 ∀ (t:Addr) (ks:sZ) (H':Hp),Same H H'->H' t=some (.tup<|ks.map V.int)->ks.Pairwise (· <·)->(∀ x,x∈ks↔x∈ns\/∃ k:Nat,o=some k/\x=k)->ks.length<=ns.length+1->Q (.ref t) H'
example:(X4):=∃ (A:BA) (w:Nat) (rows:sT) (n:Nat) (cs:z8) (outs:qW) (pl:Addr) (i j:Int),vs=[.ref A.b,.ref pl]/\TB K a/\DL K a/\DW a H A w rows n cs outs/\H pl=some (.tup [.int i,.int j]) /\
 (onPl rows w i j->Q .non H)/\(¬ onPl rows w i j->E (.ref<|a "NoBlock") none H)
example:(ML):=∃ (A:BA) (w:Nat) (rows:sT) (n:Nat) (cs:z8) (outs:qW) (pl:Addr) (i j:Int),vs=[.ref A.b,.ref pl]/\TB K a/\DL K a/\DW a H A w rows n cs outs/\H pl=some (.tup [.int i,.int j]) /\
 (onPl rows w i j->Q (NS<|DR cs i j) H)/\(¬ onPl rows w i j->E (.ref<|a "NoBlock") none H)
abbrev known(cs:z8)(x:Int):Prop:=0<=x/\x<cs.length
example:(TU):=∃ (A:BA) (w:Nat) (rows:sT) (n:Nat) (cs:z8) (outs:qW) (nl:Addr) (ns:sZ),vs=[.ref A.b,.ref nl]/\TB K a/\DW a H A w rows n cs outs/\SqL K H nl (ns.map V.int) /\
 ((∀ x∈ns,known cs x)->Q .non H)/\((∃ x∈ns,¬ known cs x)->E (.ref<|a "NoChange") none H)
example:(GK):=∃ (A:BA) (w:Nat) (rows:sT) (n:Nat) (cs:z8) (outs:qW) (pl nl:Addr) (v:V) (ns:sZ) (i j:Int),vs=[.ref A.b,.ref pl,v,.ref nl]/\TB K a/\DL K a/\DW a H A w rows n cs outs/\H pl=some (.tup [.int i,.int j])/\SqL K H nl (ns.map V.int)/\ns.length<=60/\cs.length<990 /\
 (onPl rows w i j->(∀ x∈ns,known cs x)->∀ (nd:sZ) (H':Hp),nd.Pairwise (· <·)->(∀ x,x∈nd↔x∈ns\/∃ k:Nat,DR cs i j=some k/\x=k)->DW a H' A w rows n (cs++[⟨i.toNat,j.toNat,v,nd⟩]) outs->SameBut A.F H H'->Q (.int cs.length) H') /\
 (¬ onPl rows w i j->E (.ref<|a "NoBlock") none H)/\(onPl rows w i j->(∃ x∈ns,¬ known cs x)->E (.ref<|a "NoChange") none H)
example:(TX):=∃ (A:BA) (w:Nat) (rows:sT) (n:Nat) (cs:z8) (outs:qW),vs=[.ref A.b]/\TB K a/\DW a H A w rows n cs outs /\
 ∀ (l:Addr) (H':Hp),H l=none->Same H H'->H' l=some (.lst<|AM<|FT cs.length outs)->Q (.ref l) H'
example:(X5):=∃ (A:BA) (w:Nat) (rows:sT) (n:Nat) (cs:z8) (outs:qW) (nl:Addr) (ns:sZ),vs=[.ref A.b,.ref nl]/\TB K a/\DW a H A w rows n cs outs/\SqL K H nl (ns.map V.int)/\ns.length<=1000 /\
  ((∀ x∈ns,known cs x)->∀ (l:Addr) (H':Hp) (R:qW),(∀ x∈ns,R x=true)->(∀ (k:Nat) (c:Ch),cs[k]? =some c->outs k=false->R k=true->∀ y∈c.nd,R y=true)->(∀ x,R x=true->x∈ns\/∃ (k:Nat) (c:Ch),cs[k]? =some c/\outs k=false/\R k=true/\x∈c.nd) ->
    H l=none->Same H H'->H' l=some (.lst<|AM<|(FT cs.length outs).filter λ(k:Nat)=>R k)->Q (.ref l) H') /\
  ((∃ x∈ns,¬ known cs x)->E (.ref<|a "NoChange") none H)
def EM(cs:z8)(rows:sT)(i j:Int):Option V:=match DR cs i j with
 |some k=>(cs[k]?).map (·.val)
 |none=>(rows[i.toNat]?).bind λr=>r[j.toNat]?
example:(LB):=∃ (A:BA) (w:Nat) (rows:sT) (n:Nat) (cs:z8) (outs:qW) (pl:Addr) (i j:Int),vs=[.ref A.b,.ref pl]/\TB K a/\DL K a/\DW a H A w rows n cs outs/\H pl=some (.tup [.int i,.int j]) /\
 (onPl rows w i j->∀ (v:V) (H':Hp),EM cs rows i j=some v->Same H H'->Q v H')/\(¬ onPl rows w i j->E (.ref<|a "NoBlock") none H)
def X6:Option Int->V
 |none=>.non
 |some k=>.int k
abbrev BY(kvs:tS)(x:Int):Bool:=(BF kvs<|.inl x).isSome
example:(X7):=∃ (A:BA) (w:Nat) (rows:sT) (n:Nat) (cs:z8) (outs:qW) (k:Nat) (c:Ch) (g:Addr) (kvg:tS),vs=[.ref A.b,.int k,.ref g]/\TB K a/\DW a H A w rows n cs outs/\cs[k]? =some c/\H g=some (.dK kvg) /\
 Q (X6 (MG c.nd λx=>outs x||BY kvg x)) H
example:(TY):=∃ (A:BA) (w:Nat) (rows:sT) (n:Nat) (cs:z8) (outs:qW) (b:Nat) (tk:Addr) (kvt:tS),vs=[.ref A.b,.int b,.ref tk]/\TB K a/\DW a H A w rows n cs outs/\b<rows.length/\H tk=some (.dK kvt)/\kvt.length<=1000 /\
 ∀ (t ol hl:Addr) (H':Hp),H ol=none->H hl=none->ol≠hl->Same H H'->XT H' t ol hl (outcome cs outs (BY kvt) b).out (outcome cs outs (BY kvt) b).held->Q (.ref t) H'
example:(X8):=∃ (A:BA) (w:Nat) (rows:sT) (n:Nat) (cs:z8) (outs:qW) (b:Nat) (vl:Addr) (row:Oq),vs=[.ref A.b,.ref vl,.int b]/\TB K a/\DW a H A w rows n cs outs/\b<rows.length/\H vl=some (.lst row)/\row.length=w /\
 ∀ (l:Addr) (H':Hp),H l=none->Same H H'->H' l=some (.lst<|EW cs outs b row)->Q (.ref l) H'
example:(X9):=∃ (A:BA) (w:Nat) (rows:sT) (n:Nat) (cs:z8) (outs:qW) (b:Int),vs=[.ref A.b,.int b]/\TB K a/\DL K a/\DW a H A w rows n cs outs /\
 (∀ (b':Nat) (row:Oq) (t ol hl:Addr) (H':Hp),b=b'->rows[b']? =some row->H ol=none->H hl=none->ol≠hl->XT H' t ol hl (outcome cs outs (λ_=>false) b').out (outcome cs outs (λ_=>false) b').held ->
  DW a H' A w (rows.set b'<|EW cs (C3 cs outs b') b' row) (n+1) cs (C3 cs outs b')->SameBut (λx=>A.F x\/x=A.gp) H H'->Q (.ref t) H') /\
 (b<0\/rows.length<=b->E (.ref<|a "NoBlock") none H)
example:(YA):=∃ (A:BA) (w:Nat) (rows:sT) (n:Nat) (cs:z8) (outs:qW) (k:Nat) (c:Ch),vs=[.ref A.b,.int k]/\TB K a/\DW a H A w rows n cs outs/\cs[k]? =some c/\Q (.int c.blk) H
example:(TZ):=∃ (A:BA) (w:Nat) (rows:sT) (n:Nat) (cs:z8) (outs:qW) (nl:Addr) (ns:sZ),vs=[.ref A.b,.ref nl]/\TB K a/\DW a H A w rows n cs outs/\SqL K H nl (ns.map V.int)/\ns.length<=1000 /\
 ((∀ x∈ns,known cs x)->∀ (l:Addr) (row:t3) (R:qW) (H':Hp),KA cs outs ns R->EX cs outs (D1 cs.length outs R) row->row.length<=cs.length->H l=none->Same H H'->H' l=some (.lst<|AM row)->Q (.ref l) H') /\
 ((∃ x∈ns,¬ known cs x)->∀ H',Same H H'->E (.ref<|a "NoChange") none H')
def GoodV:Nat->Hp->V->Prop
 |0,_,_=>False
 |_+1,_,.int _=>True
 |_+1,_,.non=>True
 |_+1,_,.str z=>gk z=true
 |n+1,H,.ref p=>∃ xs,H p=some (.tup xs)/\xs.length<=100/\∀ v∈xs,GoodV n H v
 |_,_,_=>False
def T2(v:V):Prop:=v=.non\/∃ i,v=.int i
def BG(n r c w kind k:Nat):Nat:=(if kind=0 then 0 else if kind=1 then n+r+c else if kind=2 then n+r+c+r else if kind=3 then n else n+r)+k/w
def BJ(n r c w kind:Nat):Nat:=(if kind=0 then n else if kind=1 then r else if kind=2 then c else if kind=3 then r else c)*w
def LC(kind:Nat)(v:V):Bool:=decide (v=.non)||(decide (0<kind)&&decide (v=.int 0))
def EN(f:sX)(m:Nat):Int:=match (ν m).find? f with
 |some k=>k
 |none=> -1
def QH(H:Hp)(rows:sT):Prop:=∀ r∈rows,∀ v∈r,GoodV 4 H v
def goodH(H:Hp)(cs:z8)(rows:sT):Prop:=QH H rows/\∀ c∈cs,GoodV 4 H c.val
def MM(cs:z8)(rows:sT)(n r c w kind:Nat)(k:Nat):Bool:=match EM cs rows (BG n r c w kind k:Nat) (k%w:Nat)with
 |some v=>LC kind v
 |none=>false
example:(NT):=∃ (A:BA) (w:Nat) (rows:sT) (n:Nat) (cs:z8) (outs:qW) (pl vl:Addr) (ts:tW) (xs:Oq) (f:sX) (m:Nat),vs=[.ref A.b,.ref pl,.ref vl]/\TB K a/\DL K a/\DW a H A w rows n cs outs/\H pl=some (.lst<|ts.map V.ref)/\ts.length=m/\m<=1000/\H vl=some (.tup xs)/\(∀ z∈xs,T2 z) /\
 (∀ k t,ts[k]? =some t->∃ i j v,H t=some (.tup [.int i,.int j])/\onPl rows w i j/\EM cs rows i j=some v/\GoodV 4 H v/\f k=decide (v∈xs)) /\
 (∀ k:Nat,EN f m=k->∀ H',Same H H'->Q (.int k) H')/\(EN f m= -1->∀ H',Same H H'->E (.ref<|a "NoRoom") none H')
def T3(kind:Nat)(K:ι)(a:Ad)(p b:Addr)(H:Hp)(Q:VK)(E:XK):Prop:=∃ (A:BA) (n r c w:Nat) (rows:sT) (nn:Nat) (cs:z8) (outs:qW),b=A.b/\TB K a/\DL K a/\D2 K a/\LayAt a H p n r c w/\n<=6/\r<=6/\c<=6/\w<=6/\DW a H A w rows nn cs outs/\rows.length=n+r+c+r+c/\(∀ i j v,EM cs rows i j=some v->GoodV 4 H v) /\
 (∀ k:Nat,EN (MM cs rows n r c w kind) (BJ n r c w kind)=k->∀ H',Same H H'->Q (.int k) H')/\(EN (MM cs rows n r c w kind) (BJ n r c w kind)= -1->∀ H',Same H H'->E (.ref<|a "NoRoom") none H')
example:(T5):=∃ p b,vs=[.ref p,.ref b]/\T3 0 K a p b H Q E
example:(YB):=∃ p b,vs=[.ref p,.ref b]/\T3 1 K a p b H Q E
example:(YC):=∃ p b,vs=[.ref p,.ref b]/\T3 2 K a p b H Q E
def LD(c:Nat):Bool:=decide (32<=c)&&decide (c<=126)&&decide (c≠37)
def QI(c:Nat):Bool:=decide (97<=c)&&decide (c<=122)
def BO(z:Str):Bool:=decide (1<=z.length)&&decide (z.length<=8)&&z.cps.toList.all QI
def IB(z:Str):Bool:=decide (1<=z.length)&&decide (z.length<=40)&&z.cps.toList.all LD
example:(YD):=∃ c:Nat,vs=[.str {#[c]}]/\Q (.bl<|LD c) H
example:(YE):=∃ z:Str,vs=[.str z]/\z.length<=1000/\∀ H',Same H H'->Q (.bl<|BO z) H'
example:(YF):=∃ z:Str,vs=[.str z]/\z.length<=1000/\∀ H',Same H H'->Q (.bl<|IB z) H'
structure QJ(K:ι)(a:Ad):Prop where
 cl:Cls K (a "Store")
 n1:NoAttr K (a "Store") "plan"
 n2:NoAttr K (a "Store") "book"
 n3:NoAttr K (a "Store") "taken_out"
def sf(lp b tk:Addr):ZP:=[("plan",.ref lp),("book",.ref b),("taken_out",.ref tk)]
structure SA where
 A:BA
 st:Addr
 lp:Addr
 tk:Addr
structure Hs where
 b:Md
 as:Oz
abbrev Hs.f(M:Hs):Md:=hnd M.b M.as
instance:CoeFun Hs λ_=>Nat->Nat->CV:=⟨Hs.f⟩
def Hs.put(M:Hs)(kind k:Nat)(x:CV)(nd:t3):Hs:={M.b,⟨kind,k,x,nd⟩::M.as}
def Hs.put_at{M:Hs}:(M.put kind k x nd) i j=if i=kind/\j=k then x else M i j:=rfl
def RepC(H:Hp):CV->V->Prop
 |.no,v=>v=.non
 |.nm z k,v=>∃ t,v=.ref t/\H t=some (.tup [.str z,.int k])
 |.mk i,v=>v=.int i
 |.rc m ps,v=>∃ t u,v=.ref t/\H t=some (.tup [.int m,.ref u])/\H u=some (.tup<|AM ps)
 |.tx z,v=>v=.str z
def DX:Nat->CV->Prop
 |_,.no=>True
 |0,.nm _ _=>True
 |1,.mk i=>i<=1
 |2,.mk i=>i<=1
 |3,.rc _ _=>True
 |4,.tx _=>True
 |_,_=>False
inductive LaidA(n r c w:Nat)(H:Hp):z8->Oz->Prop
 |nil:LaidA n r c w H [] []
 |snoc {cs:z8} {as:Oz} {ch:Ch} {x:AC}:LaidA n r c w H cs as->ch.blk=BG n r c w x.kind x.k->ch.cell=x.k%w->RepC H x.x ch.val->(∀ y:Int,y∈ch.nd↔(∃ j∈x.nd,y=(j:Nat))\/∃ j:Nat,HE x.kind x.k as=some j/\y=j)->x.kind<5->x.k<BJ n r c w x.kind->LaidA n r c w H (cs++[ch]) (x::as)
structure SM(a:Ad)(H:Hp)(S:SA)(n r c w:Nat)(rows:sT)(nn:Nat)(cs:z8)(outs:qW)(tks:tS)(M:Hs):Prop where
 ob:∃ dx,H S.st=some (.ins (a "Store") dx (sf S.lp S.A.b S.tk))
 ly:LayAt a H S.lp n r c w
 bk:DW a H S.A w rows nn cs outs
 tk:H S.tk=some (.dK tks)
 tl:tks.length<=cs.length
 tv:∀ z v,BF tks (.inr z)=some v->∃ k:Nat,v=.int k/\k<cs.length
 ap:¬ S.A.F S.tk
 sz:n<=6/\r<=6/\c<=6/\w<=6/\rows.length=n+r+c+r+c
 gd:goodH H cs rows
 rp:∀ kind k v,kind<5->k<BJ n r c w kind->EM cs rows (BG n r c w kind k:Nat) (k%w:Nat)=some v->RepC H (M kind k) v
 ok:∀ kind k,kind<5->k<BJ n r c w kind->DX kind (M kind k)
 la:LaidA n r c w H cs M.as
def D9(M:Hs)(k:Nat):Option (Str × Nat):=match M 0 k with
 |.nm z r=>some (z,r)
 |_=>none
def LE(M:Hs)(m:Nat):tY:=(ν m).filterMap λk=>(D9 M k).map (·.1)
def cellOf(M:Hs)(m:Nat)(z:Str):Option Nat:=(ν m).find? λk=>(D9 M k).any λp=>decide<|p.1=z
def G0(kind:Nat):CV->Bool
 |.no=>true
 |.mk i=>decide (0<kind)&&decide (i=0)
 |_=>false
def G1(M:Hs)(kind m:Nat):Int:=EN (λk=>G0 kind<|M kind k) m
abbrev CN(K:ι)(a:Ad):Prop:=TB K a/\DL K a/\D2 K a/\QJ K a
abbrev pN(cs:z8)(i j:Int)(x:Int):Prop:=∃ k:Nat,DR cs i j=some k/\x=k
structure SX where
 S:SA
 n:Nat
 r:Nat
 c:Nat
 w:Nat
 rows:sT
 nn:Nat
 outs:Int->Bool
abbrev SX.at(X:SX)(a:Ad)(H:Hp)(cs:z8)(tks:tS)(M:Hs):Prop:=SM a H X.S X.n X.r X.c X.w X.rows X.nn cs X.outs tks M
abbrev SX.m0(X:SX):Nat:=X.n*X.w
example:(QK):=∃ (x dx lp gp cl:Addr) (n r c w:Nat) (rows:sT) (nn:Nat) (M:Md),vs=[.ref x,.ref lp,.ref gp]/\CN K a/\H x=some (.ins (a "Store") dx [])/\LayAt a H lp n r c w/\PlankAt a H gp cl w rows nn/\(n<=6/\r<=6/\c<=6/\w<=6/\rows.length=n+r+c+r+c)/\QH H rows/\(∀ kind k v,kind<5->k<BJ n r c w kind->EM [] rows (BG n r c w kind k:Nat) (k%w:Nat)=some v->RepC H (M kind k) v)/\(∀ kind k,kind<5->k<BJ n r c w kind->DX kind (M kind k)) ∧
 ∀ (S:SA) (H':Hp),S.st=x->S.lp=lp->S.A.gp=gp->S.A.cl=cl->(∀ y o,H y=some o->y=cl\/¬ S.A.F y)->H S.tk=none->SM a H' S n r c w rows nn [] (λ_=>false) [] {M,[]}->SameBut (· =x) H H'->Q .non H'
example:(T6):=∃ (x dx lp b tk:Addr),vs=[.ref x]/\QJ K a/\H x=some (.ins (a "Store") dx (sf lp b tk))/\Q (.ref b) H
example:(QL):=∃ (X:SX) (cs:z8) (tks:tS) (M:Hs),vs=[.ref X.S.st]/\CN K a/\X.at a H cs tks M /\
 ∀ (l:Addr) (xs:Oq) (H':Hp),Same H H'->H' l=some (.lst xs)->xs.length=X.m0->(∀ k v,xs[k]? =some v->RepC H' (M 0 k) v)->Q (.ref l) H'
example:(YG):=∃ (X:SX) (cs:z8) (tks:tS) (M:Hs),vs=[.ref X.S.st]/\CN K a/\X.at a H cs tks M /\
 ∀ (l:Addr) (ks:tY) (H':Hp),H l=none->Same H H'->H' l=some (.lst<|ks.map V.str)->ks.Perm (LE M X.m0)->sortedS ks=true->Q (.ref l) H'
example:(NU):=∃ (X:SX) (cs:z8) (tks:tS) (M:Hs) (z:Str),vs=[.ref X.S.st,.str z]/\CN K a/\X.at a H cs tks M/\∀ (H':Hp),Same H H'->Q (NS<|cellOf M X.m0 z) H'
example:(KG):=∃ (X:SX) (cs:z8) (tks:tS) (M:Hs) (z:Str),vs=[.ref X.S.st,.str z]/\CN K a/\X.at a H cs tks M /\
 (∀ cell k,cellOf M X.m0 z=some cell->cell<X.m0->M 0 cell=.nm z k->∀ H',Same H H'->Q (.int k) H')/\(cellOf M X.m0 z=none->∀ H',Same H H'->E (.ref<|a "NoName") none H')
example:(JC):=∃ (X:SX) (cs:z8) (tks:tS) (M:Hs) (rec:Nat),vs=[.ref X.S.st,.int rec]/\CN K a/\X.at a H cs tks M/\rec<X.r*X.w/\∀ v H',RepC H' (M 3 rec) v->Same H H'->Q v H'
example:(T7):=∃ (X:SX) (cs:z8) (tks:tS) (M:Hs) (z:Str) (gl:Addr) (zs:tY),vs=[.ref X.S.st,.str z,.ref gl]/\CN K a/\X.at a H cs tks M/\H gl=some (.lst<|zs.map V.str)/\zs.length<=60/\(∀ y∈zs,y.length<=1000) /\
 (zs.all BO=true->cellOf M X.m0 z=none->∀ H',Same H H'->Q .non H')/\(zs.all BO=false->∀ H',Same H H'->E (.ref<|a "NoName") none H')/\(zs.all BO=true->(∃ k,cellOf M X.m0 z=some k)->∀ H',Same H H'->E (.ref<|a "Twice") none H')
def T8(X:SX)(a:Ad)(H:Hp)(cs:z8)(tks:tS)(M':Hs)(Q:VK):Prop:=∀ (ch:Ch) (H':Hp),X.at a H' (cs++[ch]) tks M'->SameBut X.S.A.F H H'->Q (.int cs.length) H'
def FG(tks:tS)(z:Str):t3:=match BF tks (.inr z)with
 |some (.int k)=>[k.toNat]
 |_=>[]
abbrev LF(ns:sZ):t3:=ns.map Int.toNat
example:(T9):=∃ (X:SX) (cs:z8) (tks:tS) (M:Hs) (cell rec need:Nat) (z:Str),vs=[.ref X.S.st,.int cell,.str z,.int rec,.int need]/\CN K a/\X.at a H cs tks M/\cell<X.m0/\need<cs.length/\cs.length<980/\gk z=true/\T8 X a H cs tks (M.put 0 cell (.nm z rec) (need::FG tks z)) Q
example:(QM):=∃ (X:SX) (cs:z8) (tks:tS) (M:Hs) (rec m m':Nat) (more:Int) (ps:t3) (nl:Addr) (ns:sZ),vs=[.ref X.S.st,.int rec,.int more,.ref nl]/\CN K a/\X.at a H cs tks M/\rec<X.r*X.w/\M 3 rec=.rc m ps/\(m:Int)+more=m'/\ps.length<=100/\H nl=some (.lst<|ns.map V.int)/\ns.length<=60/\(∀ x∈ns,known cs x)/\cs.length<980/\T8 X a H cs tks (M.put 3 rec (.rc m' ps) (LF ns)) Q
example:(UA):=∃ (X:SX) (cs:z8) (tks:tS) (M:Hs) (rec m:Nat) (ps ps':t3) (pl nl:Addr) (ns:sZ),vs=[.ref X.S.st,.int rec,.ref pl,.ref nl]/\CN K a/\X.at a H cs tks M/\rec<X.r*X.w/\M 3 rec=.rc m ps/\H pl=some (.tup<|AM ps')/\ps'.length<=100/\H nl=some (.lst<|ns.map V.int)/\ns.length<=60/\(∀ x∈ns,known cs x)/\cs.length<980/\T8 X a H cs tks (M.put 3 rec (.rc m ps') (LF ns)) Q
example:(UB):=∃ (X:SX) (cs:z8) (tks:tS) (M:Hs) (cell:Nat) (z:Str) (nl:Addr) (ns:sZ),vs=[.ref X.S.st,.str z,.ref nl]/\CN K a/\X.at a H cs tks M/\cellOf M X.m0 z=some cell/\cell<X.m0/\H nl=some (.lst<|ns.map V.int)/\ns.length<=60/\(∀ x∈ns,known cs x)/\cs.length<980 /\
 ∀ (ch:Ch) (H':Hp),X.at a H' (cs++[ch]) (CA tks (.inr z) (.int cs.length)) (M.put 0 cell .no<|LF ns)->SameBut (λx=>X.S.A.F x\/x=X.S.tk) H H'->Q (.int cs.length) H'
def Hs.unmark(M:Hs)(d:Nat)(ps:t3):Hs:=ps.foldl (λM p=>M.put 2 p (.mk 0) [d]) M
example:(YH):=∃ (X:SX) (cs:z8) (tks:tS) (M:Hs) (rec m gone:Nat) (ps:t3),vs=[.ref X.S.st,.int rec,.int gone]/\CN K a/\X.at a H cs tks M/\rec<X.r*X.w/\M 3 rec=.rc m ps/\gone<cs.length/\(∀ p∈ps,p<X.c*X.w)/\ps.length<=36/\cs.length<940 /\
 ∀ (ex:z8) (l:Addr) (H':Hp),H l=none->H' l=some (.lst (AM ((ν<|ps.length+2).map (cs.length+·))))->ex.length=ps.length+2->X.at a H' (cs++ex) tks (((M.put 3 rec .no [gone]).unmark cs.length ps).put 1 rec (.mk 0) [cs.length])->SameBut X.S.A.F H H'->Q (.ref l) H'
def MN(X:SX)(a:Ad)(H:Hp)(cs:z8)(d:Nat)(tks':tS)(M':Hs)(Q:VK):Prop:=∀ (ex:z8) (l:Addr) (H':Hp),ex.length=d->H l=none->H' l=some (.lst (AM ((ν d).map (cs.length+·))))->X.at a H' (cs++ex) tks' M'->SameBut (λx=>X.S.A.F x\/x=X.S.tk) H H'->Q (.ref l) H'
def EA(a:Ad)(H:Hp)(c:String)(E:XK):Prop:=∀ H',Same H H'->E (.ref<|a c) none H'
example:(YI):=∃ (X:SX) (cs:z8) (tks:tS) (M:Hs) (z:Str),vs=[.ref X.S.st,.str z]/\CN K a/\X.at a H cs tks M/\z.length<=1000/\cs.length<930 /\
 (BO z=true->cellOf M X.m0 z=none->∀ rec cell:Nat,G1 M 1 (X.r*X.w)=rec->G1 M 0 X.m0=cell->rec<X.r*X.w->cell<X.m0->MN X a H cs 3 tks (((M.put 1 rec (.mk 1) []).put 3 rec (.rc 1 []) [cs.length]).put 0 cell (.nm z rec) ((cs.length+1)::FG tks z)) Q) /\
 (BO z=false->EA a H "NoName" E)/\(BO z=true->(∃ k,cellOf M X.m0 z=some k)->EA a H "Twice" E) ∧
 (BO z=true->cellOf M X.m0 z=none->(G1 M 1 (X.r*X.w)= -1\/G1 M 0 X.m0= -1)->EA a H "NoRoom" E)
example:(UC):=∃ (X:SX) (cs:z8) (tks:tS) (M:Hs) (y z:Str),vs=[.ref X.S.st,.str y,.str z]/\CN K a/\X.at a H cs tks M/\y.length<=1000/\z.length<=1000/\cs.length<930 /\
 (BO y=true->BO z=true->cellOf M X.m0 z=none->∀ old rec cell:Nat,cellOf M X.m0 y=some old->old<X.m0->M 0 old=.nm y rec->rec<X.r*X.w/\∃ m ps,M 3 rec=.rc m ps/\ps.length<=100/\(G1 M 0 X.m0=cell->cell<X.m0->MN X a H cs 2 tks ((M.put 3 rec (.rc (m+1) ps) []).put 0 cell (.nm z rec) (cs.length::FG tks z)) Q)) /\
 ((BO y&&BO z)=false->EA a H "NoName" E)/\(BO y=true->BO z=true->(∃ k,cellOf M X.m0 z=some k)->EA a H "Twice" E)/\(BO y=true->BO z=true->cellOf M X.m0 z=none->cellOf M X.m0 y=none->EA a H "NoName" E) ∧
 (BO y=true->BO z=true->cellOf M X.m0 z=none->(∃ k,cellOf M X.m0 y=some k)->G1 M 0 X.m0= -1->EA a H "NoRoom" E)
example:(YJ):=∃ (X:SX) (cs:z8) (tks:tS) (M:Hs) (z:Str),vs=[.ref X.S.st,.str z]/\CN K a/\X.at a H cs tks M/\cs.length<930 /\
 (∀ cell rec:Nat,cellOf M X.m0 z=some cell->cell<X.m0->M 0 cell=.nm z rec->rec<X.r*X.w/\∃ m ps,M 3 rec=.rc m ps/\(∀ p∈ps,p<X.c*X.w)/\ps.length<=36 /\
  (1<m->MN X a H cs 2 (CA tks (.inr z) (.int cs.length)) ((M.put 0 cell .no []).put 3 rec (.rc (m-1) ps) [cs.length]) Q)/\(m<=1->MN X a H cs (ps.length+3) (CA tks (.inr z) (.int cs.length)) ((((M.put 0 cell .no []).put 3 rec .no [cs.length]).unmark (cs.length+1) ps).put 1 rec (.mk 0) [cs.length+1]) Q)) /\
 (cellOf M X.m0 z=none->EA a H "NoName" E)
example:(YK):=∃ (X:SX) (cs:z8) (tks:tS) (M:Hs) (z t:Str),vs=[.ref X.S.st,.str z,.str t]/\CN K a/\X.at a H cs tks M/\t.length<=1000/\gk t=true/\cs.length<930 /\
 (∀ cell rec:Nat,cellOf M X.m0 z=some cell->cell<X.m0->M 0 cell=.nm z rec->IB t=true->∀ p:Nat,G1 M 2 (X.c*X.w)=p->p<X.c*X.w->rec<X.r*X.w/\∃ m ps,M 3 rec=.rc m ps/\ps.length<=90/\MN X a H cs 3 tks (((M.put 2 p (.mk 1) []).put 4 p (.tx t) [cs.length]).put 3 rec (.rc m<|ps++[p]) [cs.length+1]) Q) /\
 (cellOf M X.m0 z=none->EA a H "NoName" E)/\((∃ k,cellOf M X.m0 z=some k)->IB t=false->EA a H "NoPiece" E)/\((∃ k,cellOf M X.m0 z=some k)->IB t=true->G1 M 2 (X.c*X.w)= -1->EA a H "NoRoom" E)
example:(UD):=∃ (X:SX) (cs:z8) (tks:tS) (M:Hs) (z:Str),vs=[.ref X.S.st,.str z]/\CN K a/\X.at a H cs tks M /\
 (∀ cell rec:Nat,cellOf M X.m0 z=some cell->cell<X.m0->M 0 cell=.nm z rec->rec<X.r*X.w/\∃ m ps,M 3 rec=.rc m ps/\ps.length<=100/\∃ ts:tY,Paired (λp t=>p<X.c*X.w/\M 4 p=.tx t) ps ts/\∀ l H',H l=none->Same H H'->H' l=some (.lst<|ts.map V.str)->Q (.ref l) H') /\
 (cellOf M X.m0 z=none->EA a H "NoName" E)
example:(YL):=∃ (X:SX) (cs:z8) (tks:tS) (M:Hs) (z:Str) (x:Int),vs=[.ref X.S.st,.str z,.int x]/\CN K a/\X.at a H cs tks M/\cs.length<930 /\
 (∀ cell rec:Nat,cellOf M X.m0 z=some cell->cell<X.m0->M 0 cell=.nm z rec->rec<X.r*X.w/\∃ m ps,M 3 rec=.rc m ps/\ps.length<=100/\((x<0\/ps.length<=x)->EA a H "NoPiece" E)/\(∀ (k p:Nat),x=k->ps[k]? =some p->p<X.c*X.w/\MN X a H cs 2 tks ((M.put 3 rec (.rc m<|ps.eraseIdx k) []).put 2 p (.mk 0) [cs.length]) Q)) ∧
 (cellOf M X.m0 z=none->EA a H "NoName" E)
example:(YM):=∃ (X:SX) (cs:z8) (tks:tS) (M:Hs) (y z:Str),vs=[.ref X.S.st,.str y,.str z]/\CN K a/\X.at a H cs tks M/\y.length<=1000/\z.length<=1000/\cs.length<920 /\
 (BO y=true->BO z=true->cellOf M X.m0 z=none->∀ old rec cell:Nat,cellOf M X.m0 y=some old->old<X.m0->M 0 old=.nm y rec->rec<X.r*X.w/\∃ m ps,M 3 rec=.rc m ps/\ps.length<=100/\(G1 M 0 X.m0=cell->cell<X.m0->MN X a H cs 4 (CA tks (.inr y) (.int (cs.length+2:Nat))) ((((M.put 3 rec (.rc (m+1) ps) []).put 0 cell (.nm z rec) (cs.length::FG tks z)).put 0 old .no [cs.length+1]).put 3 rec (.rc m ps) [cs.length+2]) Q)) /\
 ((BO y&&BO z)=false->EA a H "NoName" E)/\(BO y=true->BO z=true->(∃ k,cellOf M X.m0 z=some k)->EA a H "Twice" E)/\(BO y=true->BO z=true->cellOf M X.m0 z=none->cellOf M X.m0 y=none->EA a H "NoName" E) ∧
 (BO y=true->BO z=true->cellOf M X.m0 z=none->(∃ k,cellOf M X.m0 y=some k)->G1 M 0 X.m0= -1->EA a H "NoRoom" E)
abbrev JD(X:SX)(p:Nat × Nat):Oq:=[.int (BG X.n X.r X.c X.w p.1 p.2:Nat),.int (p.2%X.w:Nat)]
def DH(cell rec:Nat)(ps:t3):List (Nat × Nat):=(0,cell)::(3,rec)::ps.map λp=>(4,p)
example:(YN):=∃ (X:SX) (cs:z8) (tks:tS) (M:Hs) (z:Str),vs=[.ref X.S.st,.str z]/\CN K a/\X.at a H cs tks M /\
 (∀ cell rec,cellOf M X.m0 z=some cell->cell<X.m0->M 0 cell=.nm z rec->rec<X.r*X.w/\∃ m ps,M 3 rec=.rc m ps/\ps.length<=100/\(∀ p∈ps,p<X.c*X.w)/\∀ l ts H',Same H H'->H' l=some (.lst<|ts.map V.ref)->Paired (λt p=>H' t=some (.tup<|JD X p)) ts (DH cell rec ps)->Q (.ref l) H') /\
 (cellOf M X.m0 z=none->EA a H "NoName" E)
def EY(X:SX)(cs:z8)(ts:List (Nat × Nat)):sZ:=ts.filterMap λp=>(DR cs (BG X.n X.r X.c X.w p.1 p.2:Nat) (p.2%X.w:Nat)).map λ(k:Nat)=>(k:Int)
example:(QN):=∃ (X:SX) (cs:z8) (tks:tS) (M:Hs) (z:Str),vs=[.ref X.S.st,.str z]/\CN K a/\X.at a H cs tks M /\
 (∀ cell rec,cellOf M X.m0 z=some cell->cell<X.m0->M 0 cell=.nm z rec->rec<X.r*X.w/\∃ m ps,M 3 rec=.rc m ps/\ps.length<=100/\(∀ p∈ps,p<X.c*X.w)/\∀ l row R H',KA cs X.outs (EY X cs<|DH cell rec ps) R->EX cs X.outs (D1 cs.length X.outs R) row->row.length<=cs.length->H l=none->Same H H'->H' l=some (.lst<|AM row)->Q (.ref l) H') /\
 (cellOf M X.m0 z=none->EA a H "NoName" E)
abbrev NV:=Option<|Str × Nat
abbrev IC:=Option<|Int × t3
structure Vw where
 nm:List NV
 rc:List IC
 pc:List (Option Str)
 rm:List (Option Int)
 pm:List (Option Int)
def AY{α :Type}(l:List (Option α))(k:Nat):Option α :=(l[k]?).join
def LG:IC->t3
 |none=>[]
 |some (_,ps)=>ps
def MO(nm:List NV):t3:=nm.filterMap λc=>c.map (·.2)
def EZ(rc:List IC):t3:=rc.flatMap LG
def led(vw:Vw)(r:Nat):Nat:=(MO vw.nm).count r
def E3(vw:Vw)(p:Nat):Nat:=(EZ vw.rc).count p
def LH(vw:Vw):List IC:=((ν vw.rc.length).filter λr=>decide<|0<led vw r).map (AY vw.rc)
def ID(vw:Vw)(p:Nat):Nat:=(EZ<|LH vw).count p
abbrev _root_.tU:=Nat->List V
def DE(n:Nat)(p:sX)(f:tU):sT:=((ν n).filter p).map f
def HG(vw:Vw)(k:Nat):Bool:=match AY vw.nm k with
 |none=>false
 |some c=>(AY vw.rc c.2).isNone
def IE(vw:Vw)(k:Nat):Bool:=match AY vw.nm k with
 |none=>false
 |some c=>(ν k).any λj=>match AY vw.nm j with
  |none=>false
  |some d=>decide<|d.1=c.1
def JE(vw:Vw)(r:Nat):Bool:=match AY vw.rc r with
 |none=>false
 |some c=>decide<|c.1<(led vw r:Int)
def G2(vw:Vw)(r:Nat):Bool:=match AY vw.rc r with
 |none=>false
 |some c=>decide (0<led vw r)&&decide ((led vw r:Int)<c.1)
def QQ(vw:Vw):sT:=DE vw.nm.length (HG vw) (λk=>[.str "lost",.int k])++DE vw.nm.length (IE vw) (λk=>[.str "twice",.int k])
def QR(vw:Vw):sT:=DE vw.pc.length (λp=>decide<|1<E3 vw p) (λp=>[.str "shared",.int p])++DE vw.pc.length (λp=>decide (0<E3 vw p)&&(AY vw.pc p).isNone) (λp=>[.str "empty",.int p])++DE vw.rc.length (JE vw) (λr=>[.str "few",.int r])
def QS(vw:Vw):sT:=DE vw.rc.length (λr=>decide (0<led vw r) && !decide (AY vw.rm r=some 1)) (λr=>[.str "free",.str "record",.int r])++DE vw.pc.length (λp=>decide (0<E3 vw p) && !decide (AY vw.pm p=some 1)) (λp=>[.str "free",.str "piece",.int p])
def faults(vw:Vw):sT:=QQ vw++QR vw++QS vw
def QT(vw:Vw):sT:=DE vw.rc.length (G2 vw) (λr=>[.str "many",.int r,.int<|led vw r])++DE vw.rc.length (λr=>(AY vw.rc r).isSome&&decide (led vw r=0)) (λr=>[.str "left",.str "record",.int r])
def QU(vw:Vw):sT:=DE vw.pc.length (λp=>decide (AY vw.pm p=some 1)&&decide (ID vw p=0)) (λp=>[.str "left",.str "piece",.int p])
def QW(vw:Vw):sT:=DE vw.rc.length (λr=>decide (AY vw.rm r=some 1)&&(AY vw.rc r).isNone) (λr=>[.str "marked",.int r])
def MP(vw:Vw):sT:=QT vw++QU vw++QW vw
structure EE(vw:Vw):Prop where
 n1:∀ c,some c∈vw.nm->c.2<vw.rc.length/\gk c.1=true
 n2:∀ c,some c∈vw.rc->(∀ p∈c.2,p<vw.pc.length)/\c.2.length<=20
 n3:∀ s,some s∈vw.pc->gk s=true
 l1:vw.rm.length=vw.rc.length
 l2:vw.pm.length=vw.pc.length
 bn:vw.nm.length<=100
 br:vw.rc.length<=100
 bp:vw.pc.length<=100
def NmV(H:Hp)(v:V):NV->Prop
 |none=>v=.non
 |some c=>∃ p,v=.ref p/\H p=some (.tup [.str c.1,.int c.2])
def RcV(H:Hp)(v:V):IC->Prop
 |none=>v=.non
 |some c=>∃ p q,v=.ref p/\H p=some (.tup [.int c.1,.ref q])/\H q=some (.tup<|AM c.2)
def PcV(_:Hp)(v:V):Option Str->Prop
 |none=>v=.non
 |some s=>v=.str s
def MkV(_:Hp)(v:V):Option Int->Prop
 |none=>v=.non
 |some i=>v=.int i
def LstAt{α :Type}(R:Hp->V-> α ->Prop)(H:Hp)(p:Addr)(cs:List α):Prop:=∃ vs,H p=some (.lst vs)/\Paired (R H) vs cs
def FindsL(H:Hp)(l:Addr)(fs:sT):Prop:=∃ ps:tW,H l=some (.lst<|ps.map V.ref)/\Paired (λp f=>H p=some (.tup f)) ps fs
structure TV(K:ι)(a:Ad):Prop where
 cl:Cls K (a "View")
 n1:NoAttr K (a "View") "name_values"
 n2:NoAttr K (a "View") "record_values"
 n3:NoAttr K (a "View") "piece_values"
 n4:NoAttr K (a "View") "record_marks"
 n5:NoAttr K (a "View") "piece_marks"
 n6:NoAttr K (a "View") "leads"
 n7:NoAttr K (a "View") "namings"
 n8:NoAttr K (a "View") "reached"
def pO(a:Ad)(H:Hp)(x:Addr)(f:Str)(v:V):Prop:=∃ dx fs,H x=some (.ins (a "View") dx fs)/\fs.lookup f=some v
structure VA where
 n:Addr
 r:Addr
 p:Addr
 rm:Addr
 pm:Addr
 ld:Addr
 ng:Addr
 rh:Addr
def vf(A:VA):ZP:=[("name_values",.ref A.n),("record_values",.ref A.r),("piece_values",.ref A.p),("record_marks",.ref A.rm),("piece_marks",.ref A.pm),("leads",.ref A.ld),("namings",.ref A.ng),("reached",.ref A.rh)]
structure ViewAt(a:Ad)(H:Hp)(x:Addr)(A:VA)(vw:Vw):Prop where
 ob:∃ dx,H x=some (.ins (a "View") dx (vf A))
 n:LstAt NmV H A.n vw.nm
 r:LstAt RcV H A.r vw.rc
 p:LstAt PcV H A.p vw.pc
 rm:LstAt MkV H A.rm vw.rm
 pm:LstAt MkV H A.pm vw.pm
 ld:H A.ld=some (.lst<|AM<|(ν vw.rc.length).map (led vw))
 ng:H A.ng=some (.lst<|AM<|(ν vw.pc.length).map (E3 vw))
 rh:H A.rh=some (.lst<|AM<|(ν vw.pc.length).map (ID vw))
 ok:EE vw
structure PlV(H:Hp)(rows:sT)(n r c w:Nat)(vw:Vw):Prop where
 vs:∃ v1 v2 v3 v4 v5:Oq,rows.flatten=v1++v2++v3++v4++v5/\Paired (NmV H) v1 vw.nm/\Paired (RcV H) v2 vw.rc/\Paired (PcV H) v3 vw.pc/\Paired (MkV H) v4 vw.rm/\Paired (MkV H) v5 vw.pm
 ln:vw.nm.length=n*w
 lr:vw.rc.length=r*w
 lp:vw.pc.length=c*w
 ok:EE vw
def newL(vs:Oq)(H:Hp)(Q:VK):Prop:=∀ l H',H l=none->Same H H'->H' l=some (.lst vs)->Q (.ref l) H'
def newF(fs:sT)(H:Hp)(Q:VK):Prop:=∀ l H',H l=none->Same H H'->FindsL H' l fs->Q (.ref l) H'
def LJ(rows:sT)(b j:Nat):V:=(((rows[b]?).bind (·[j]?)).getD .non)
example:(LK):=∃ (gp cl pl:Addr) (w:Nat) (rows:sT) (m:Nat) (ts:tW) (ps:List (Nat × Nat)),vs=[.ref gp,.ref pl]/\DL K a/\PlankAt a H gp cl w rows m/\H pl=some (.lst<|ts.map V.ref)/\Paired (λt (ij:Nat × Nat)=>H t=some (.tup [.int ij.1,.int ij.2])) ts ps/\(∀ ij∈ps,ij.1<rows.length/\ij.2<w)/\ps.length<=1000 /\
 newL (ps.map λij=>LJ rows ij.1 ij.2) H Q
example:(QX):=∃ (many:Nat) (nl:Addr) (ks:t3),vs=[.int many,.ref nl]/\H nl=some (.lst<|AM ks)/\(∀ k∈ks,k<many)/\many<=1000/\ks.length<=10000/\newL (AM<|(ν many).map λk=>ks.count k) H Q
example:(UE):=∃ (rl:Addr) (cs:List IC),vs=[.ref rl]/\LstAt RcV H rl cs/\cs.length<=100/\(∀ c,some c∈cs->c.2.length<=20)/\newL (AM<|EZ cs) H Q
example:(YO):=∃ (x ar al:Addr) (vw:Vw),vs=[.ref x]/\TV K a/\pO a H x "record_values" (.ref ar)/\pO a H x "leads" (.ref al)/\LstAt RcV H ar vw.rc/\H al=some (.lst<|AM<|(ν vw.rc.length).map (led vw))/\vw.rc.length<=100/\∀ l H',H l=none->Same H H'->LstAt RcV H' l (LH vw)->Q (.ref l) H'
example:(UF):=∃ (x:Addr) (A:VA) (vw:Vw),vs=[.ref x]/\TV K a/\ViewAt a H x A vw/\newL (AM<|(ν vw.rc.length).filter λr=>(AY vw.rc r).isSome) H Q
example:(QY):=∃ (x:Addr) (A:VA) (vw:Vw),vs=[.ref x]/\TV K a/\ViewAt a H x A vw/\newL (AM<|(ν vw.pc.length).filter λp=>decide<|0<E3 vw p) H Q
example:(UG):=∃ (x:Addr) (A:VA) (vw:Vw) (r:Nat) (c:Int × t3),vs=[.ref x,.int r]/\TV K a/\ViewAt a H x A vw/\AY vw.rc r=some c/\Q (.int c.1) H
def LM(f:Vw->sT)(K:ι)(a:Ad):Sp:=λvs H Q _=>∃ (x:Addr) (A:VA) (vw:Vw),vs=[.ref x]/\TV K a/\ViewAt a H x A vw/\newF (f vw) H Q
def YQ(K:ι)(a:Ad):Sp:=LM QQ K a
def YR(K:ι)(a:Ad):Sp:=LM QR K a
def YS(K:ι)(a:Ad):Sp:=LM QS K a
def UH(K:ι)(a:Ad):Sp:=LM faults K a
def YT(K:ι)(a:Ad):Sp:=LM QT K a
def YU(K:ι)(a:Ad):Sp:=LM QU K a
def YV(K:ι)(a:Ad):Sp:=LM QW K a
def YW(K:ι)(a:Ad):Sp:=LM MP K a
example:(QZ):=∃ (x dx ly gp cl:Addr) (n r c w:Nat) (rows:sT) (m:Nat) (vw:Vw),vs=[.ref x,.ref ly,.ref gp]/\TV K a/\D2 K a/\DL K a/\H x=some (.ins (a "View") dx [])/\LayAt a H ly n r c w/\PlankAt a H gp cl w rows m/\rows.length=n+r+c+r+c/\PlV H rows n r c w vw ∧
 ∀ (A:VA) (H':Hp),ViewAt a H' x A vw->SameBut (· =x) H H'->Q .non H'
def Ground(K:ι)(a:Ad)(H:Hp)(ly gp:Addr)(vw:Vw):Prop:=∃ (cl:Addr) (n r c w:Nat) (rows:sT) (m:Nat),TV K a/\D2 K a/\DL K a/\LayAt a H ly n r c w/\PlankAt a H gp cl w rows m/\rows.length=n+r+c+r+c/\PlV H rows n r c w vw
example:(YX):=∃ (ly gp:Addr) (vw:Vw),vs=[.ref ly,.ref gp]/\Ground K a H ly gp vw/\newF (faults vw++MP vw) H Q
example:(YY):=∃ (ly gp:Addr) (vw:Vw),vs=[.ref ly,.ref gp]/\Ground K a H ly gp vw/\∀ H',Same H H'->Q (.bl<|decide<|faults vw=[]) H'
def FU(vw:Vw)(r:Nat):IC:=match AY vw.rc r with
 |none=>none
 |some c=>if led vw r=0 then none else some ((led vw r:Int),c.2)
def KH(vw:Vw)(r:Nat):Option Int:=match AY vw.rc r with
 |none=>if AY vw.rm r=some 1 then some 0 else AY vw.rm r
 |some _=>if led vw r=0 then some 0 else AY vw.rm r
def MQ(vw:Vw)(p:Nat):Option Int:=if AY vw.pm p=some 1/\ID vw p=0 then some 0 else AY vw.pm p
def mended(vw:Vw):Vw:={vw.nm,(ν vw.rc.length).map (FU vw),vw.pc,(ν vw.rc.length).map (KH vw),(ν vw.pc.length).map (MQ vw)}
inductive Cel where
 |nm (c:NV)
 |rc (c:IC)
 |pc (c:Option Str)
 |mk (c:Option Int)
deriving DecidableEq
def CelV(H:Hp)(v:V):Cel->Prop
 |.nm c=>NmV H v c
 |.rc c=>RcV H v c
 |.pc c=>PcV H v c
 |.mk c=>MkV H v c
def Cel.kind:Cel->Nat
 |.nm _=>0
 |.rc _=>1
 |.pc _=>2
 |.mk _=>3
def Cel.ok:Cel->Prop
 |.nm (some c)=>gk c.1=true
 |.pc (some s)=>gk s=true
 |_=>True
abbrev _root_.t7:=List Cel
def DT(vw:Vw):t7:=vw.nm.map .nm++vw.rc.map .rc++vw.pc.map .pc++vw.rm.map .mk++vw.pm.map .mk
def DN(w:Nat)(cs:t7)(b:Nat):t7:=(cs.drop<|b*w).take w
def NW(w n:Nat)(cs cs':t7):Nat:=((ν n).filter λb=> !decide (DN w cs b=DN w cs' b)).length
inductive Lv where
 |many (r:Nat)
 |leftR (r:Nat)
 |leftP (p:Nat)
 |marked (r:Nat)
def FH(vw:Vw):List Lv:=((ν vw.rc.length).filter (G2 vw)).map .many++((ν vw.rc.length).filter λr=>(AY vw.rc r).isSome&&decide (led vw r=0)).map .leftR++((ν vw.pc.length).filter λp=>decide (AY vw.pm p=some 1)&&decide (ID vw p=0)).map .leftP++((ν vw.rc.length).filter λr=>decide (AY vw.rm r=some 1)&&(AY vw.rc r).isNone).map .marked
def pP(vw:Vw):Lv->Oq
 |.many r=>[.str "many",.int r,.int<|led vw r]
 |.leftR r=>[.str "left",.str "record",.int r]
 |.leftP p=>[.str "left",.str "piece",.int p]
 |.marked r=>[.str "marked",.int r]
def E4(vw:Vw)(n r c w:Nat):Lv->List (Nat × Cel)
 |.many k=>[(n*w+k,.rc<|FU vw k)]
 |.leftR k=>[(n*w+k,.rc none),((n+r+c)*w+k,.mk<|some 0)]
 |.leftP k=>[((n+r+c+r)*w+k,.mk<|some 0)]
 |.marked k=>[((n+r+c)*w+k,.mk<|some 0)]
def pk(w f:Nat):List AO:=[.inl ((f/w:Nat):Int),.inl ((f%w:Nat):Int)]
structure Site(K:ι)(a:Ad)(H:Hp)(ly gp cl:Addr)(n r c w:Nat)(rows:sT)(m:Nat)(vw:Vw):Prop where
 tv:TV K a
 tl:D2 K a
 tp:DL K a
 la:LayAt a H ly n r c w
 pl:PlankAt a H gp cl w rows m
 rl:rows.length=n+r+c+r+c
 pv:PlV H rows n r c w vw
 w1:1<=w
 w6:w<=6
 n6:n<=6
 r6:r<=6
 c6:c<=6
example:(YZ):=∃ (ly gp cl fd:Addr) (n r c w:Nat) (rows:sT) (m:Nat) (vw:Vw) (lv:Lv),vs=[.ref ly,.ref gp,.ref fd]/\Site K a H ly gp cl n r c w rows m vw/\lv∈FH vw/\H fd=some (.tup<|pP vw lv) /\
 ∀ (dl:Addr) (more:aH) (H':Hp),H dl=none->Same H H'->H' dl=some (.dT more)->Paired (λ(kv:List AO × V) (fx:Nat × Cel)=>kv.1=pk w fx.1/\CelV H' kv.2 fx.2) more (E4 vw n r c w lv)->SQ more->Q (.ref dl) H'
example:(Y0):=∃ (gp cl dl:Addr) (w:Nat) (rows:sT) (m:Nat) (kvs:aH) (cs cs':t7),vs=[.ref gp,.ref dl]/\DL K a/\PlankAt a H gp cl w rows m/\rows.length<=30/\1<=w/\w<=6/\H dl=some (.dT kvs)/\Paired (CelV H) rows.flatten cs/\cs'.map Cel.kind=cs.map Cel.kind/\(∀ c∈cs,c.ok)/\(∀ c∈cs',c.ok) /\
 (∀ (f:Nat) (c c':Cel),cs[f]? =some c->cs'[f]? =some c'->(BF kvs (pk w f)=none/\c'=c)\/∃ v,BF kvs (pk w f)=some v/\CelV H v c') /\
 ∀ (rows':sT) (H':Hp),PlankAt a H' gp cl w rows' (m+NW w rows.length cs cs')->rows'.length=rows.length->Paired (CelV H') rows'.flatten cs'->SameBut (λx=>x=gp\/x=cl) H H'->Q .non H'
example:(pQ):=∃ (ly gp cl:Addr) (n r c w:Nat) (rows:sT) (m:Nat) (vw:Vw),vs=[.ref ly,.ref gp]/\Site K a H ly gp cl n r c w rows m vw/\faults vw=[] /\
 ∀ (fo:Addr) (rows':sT) (H':Hp),H fo=none->FindsL H' fo (MP vw)->PlankAt a H' gp cl w rows' (m+NW w rows.length (DT vw) (DT<|mended vw))->rows'.length=n+r+c+r+c->PlV H' rows' n r c w (mended vw)->SameBut (λx=>x=gp\/x=cl) H H'->Q (.ref fo) H'
def SX.wr(X:SX)(cs:z8)(b:Nat)(row:Oq):SX:={ X with rows:=X.rows.set b<|EW cs (C3 cs X.outs b) b row,nn:=X.nn+1,outs:=C3 cs X.outs b }
example:(Q0):=∃ (X:SX) (cs:z8) (tks:tS) (M:Hs) (b:Nat) (row:Oq),vs=[.ref X.S.st,.int b]/\CN K a/\X.at a H cs tks M/\X.rows[b]? =some row/\∀ t ol hl H',H ol=none->H hl=none->XT H' t ol hl (outcome cs X.outs (λ_=>false) b).out (outcome cs X.outs (λ_=>false) b).held->(X.wr cs b row).at a H' cs tks M->SameBut (λx=>X.S.A.F x\/x=X.S.A.gp) H H'->Q (.ref t) H'
def LN(tks:tS):Str->Option Nat:=λz=>(FG tks z).head?
def RowsAre(H:Hp)(n r c w:Nat)(rows:sT)(S:Md):Prop:=∀ kind k v,kind<5->k<BJ n r c w kind->(rows[BG n r c w kind k]?).bind (λq=>q[k%w]?)=some v->RepC H (S kind k) v
structure InL(n r c w:Nat)(S:Md):Prop where
 no:∀ kind k,¬ k<BJ n r c w kind->S kind k=.no
 ok:∀ kind k,DX kind<|S kind k
abbrev SX.C(X:SX):Nat->Bool:=λj=>X.outs (j:Nat)
structure C6(a:Ad)(H:Hp)(X:SX)(cs:z8)(tks:tS)(M:Hs):Prop where
 st:X.at a H cs tks M
 hi:∃ o,Hist X.m0 M.b M.as (LN tks) o
 bo:InL X.n X.r X.c X.w M.b
 cut:TF cs X.outs
 rows:RowsAre H X.n X.r X.c X.w X.rows (sh M.b X.C M.as)
 few:X.c*X.w<=18
 ok:∀ x∈M.as,DX x.kind x.x
 w1:1<=X.w
def LP:CV->NV
 |.nm z r=>some (z,r)
 |_=>none
def LQ:CV->IC
 |.rc m ps=>some ((m:Int),ps)
 |_=>none
def NX:CV->Option Str
 |.tx z=>some z
 |_=>none
def GL:CV->Option Int
 |.mk i=>some (i:Int)
 |_=>none
def BU(n r c w:Nat)(S:Md):Vw:={(ν<|n*w).map λk=>LP<|S 0 k,(ν<|r*w).map λk=>LQ<|S 3 k,(ν<|c*w).map λk=>NX<|S 4 k,(ν<|r*w).map λk=>GL<|S 1 k,(ν<|c*w).map λk=>GL<|S 2 k}
def EO(n r c w:Nat)(S:Md):Md:=λkind k =>
 if kind=1 then(match S 3 k with
  |.rc _ _=>if ld (n*w) S k=0 then .mk 0 else S 1 k
  |_=>match S 1 k with
   |.mk i=>if i=1 then .mk 0 else .mk i
   |x=>x)
 else if kind=2 then(match S 2 k with
  |.mk i=>if i=1/\ID (BU n r c w S) k=0 then .mk 0 else .mk i
  |x=>x)
 else if kind=3 then(match S 3 k with
  |.rc _ ps=>if ld (n*w) S k=0 then .no else .rc (ld (n*w) S k) ps
  |x=>x)
 else S kind k
structure Gnd(K:ι)(a:Ad)(H:Hp)(ly gp cl:Addr)(n r c w:Nat)(rows:sT)(nn:Nat)(S:Md):Prop where
 tv:TV K a
 t4:CN K a
 la:LayAt a H ly n r c w
 pl:PlankAt a H gp cl w rows nn
 sz:n<=6/\r<=6/\c<=6/\w<=6/\rows.length=n+r+c+r+c
 few:c*w<=18
 w1:1<=w
 gd:QH H rows
 rw:RowsAre H n r c w rows S
 bo:InL n r c w S
 sd:Snd (n*w) S
def Y1(K:ι)(a:Ad):Sp:=pQ K a
example:(UI):=∃ (ly gp cl:Addr) (n r c w:Nat) (rows:sT) (nn:Nat) (S:Md),vs=[.ref ly,.ref gp]/\Gnd K a H ly gp cl n r c w rows nn S /\
 ∀ (X:SX) (H':Hp),X.S.lp=ly->X.S.A.gp=gp->X.S.A.cl=cl->X.n=n->X.r=r->X.c=c->X.w=w->(∀ y o,H y=some o->y=cl\/¬ X.S.A.F y)->H X.S.tk=none->C6 a H' X [] [] {EO n r c w S,[]}->SameBut (λx=>x=gp\/x=cl) H H'->Q (.ref X.S.st) H'
example:(NY):=∃ (c:Int) (m:Nat),vs=[.int c,.int m]/\m<=100/\∀ l (xs:sZ) H',H l=none->Same H H'->H' l=some (.lst<|xs.map V.int)->xs.length=m->(∀ x∈xs,0<=x/\x<2000000000)->Q (.ref l) H'
example:(Y2):=∃ x:Int,vs=[.int x]/\∀ (z:Str) H',IB z=true->Same H H'->Q (.str z) H'
example:(Y3):=∃ x:Int,vs=[.int x]/\∀ (t:Addr) (n r c w:Nat) H',Same H H'->H' t=some (.tup [.int n,.int r,.int c,.int w])->1<=n->n<=3->1<=r->r<=3->1<=c->c<=3->1<=w->w<=6->Q (.ref t) H'
example:(Y4):=∃ (c:Int) (m:Nat),vs=[.int c,.int m]/\m<=36/\∀ l (zs:tY) H',H l=none->Same H H'->H' l=some (.lst<|zs.map V.str)->zs.length=m->(∀ z∈zs,BO z=true)->Q (.ref l) H'
structure MR(K:ι)(a:Ad):Prop where
 h:∀ c:String,(c="NoName"\/c="Twice"\/c="NoPiece"\/c="NoRoom")->va K (.ref<|a c) (.ref<|a "HoldError")=some true
 ec:PD K (a "NoName")
 i1:zv K (.ref<|a "NoName") (.ref<|a "NoName")=some true
 iv:zv K (.ref<|a "NoName") (.type "ValueError")=some true
 no:Lf K (.ref<|a "NoName") [.ref (a "NoBlock"),.ref<|a "NoChange",.ref<|a "NoPiece",.ref<|a "NoRoom",.ref<|a "NoRow",.ref<|a "NotSound",.ref<|a "Twice"]=some false
def Y5(X:SX)(M:Hs)(kind k:Nat):Prop:=∀ j,HE kind k M.as=some j->X.C j=true
def NZ:CV->Bool
 |.mk i=>i==1
 |_=>false
def DO(c:Nat)(S:Md):Nat:=(ν c).countP λp=>NZ<|S 2 p
structure KJ(M:Hs)(zs:tY):Prop where
 b:∀ k z r,M.b 0 k=.nm z r->z∈zs
 s:∀ x∈M.as,∀ z r,x.x=.nm z r->z∈zs
def Q1(H:Hp)(nl:Addr)(zs:tY):Prop:=H nl=some (.lst<|zs.map V.str)/\zs.length=5/\∀ z∈zs,BO z=true
example:(UJ):=∃ (X:SX) (cs:z8) (tks:tS) (M:Hs) (x:Int) (nl:Addr) (zs:tY),vs=[.ref X.S.st,.int x,.ref nl]/\CN K a/\MR K a/\C6 a H X cs tks M/\cs.length<900/\Q1 H nl zs/\KJ M zs /\
 ∀ (d:Bool) (cs':z8) (tks':tS) (M':Hs) (H':Hp),C6 a H' X cs' tks' M'->cs'.length+DO (X.c*X.w) M'<=cs.length+DO (X.c*X.w) M+4->KJ M' zs->SameBut (λx=>X.S.A.F x\/x=X.S.tk) H H'->Q (.bl d) H'
example:(Q2):=∃ (X:SX) (cs:z8) (tks:tS) (M:Hs) (z:Str),vs=[.ref X.S.st,.str z]/\CN K a/\MR K a/\X.at a H cs tks M/\cellOf M X.m0 z=none/\∀ H',Same H H'->Q (.bl true) H'
example:(Y6):=∃ (l:Addr) (row:t3) (m:Nat),vs=[.ref l,.int m]/\H l=some (.lst<|AM row)/\row.length<=1000/\(∀ b∈row,b<m)/\Q (.bl true) H
abbrev N0(n r c w:Nat):HO:=.tup [.int n,.int r,.int c,.int w]
example:(Y7):=∃ (X:SX) (cs:z8) (tks:tS) (M:Hs) (t:Addr) (z:Str) (cell rec m:Nat) (ps:t3),vs=[.ref X.S.A.b,.ref t,.str z]/\CN K a/\C6 a H X cs tks M/\cs.length<=990/\H t=some (N0 X.n X.r X.c X.w)/\cell<X.m0/\M 0 cell=.nm z rec/\rec<X.r*X.w/\M 3 rec=.rc m ps /\
 ∀ l row R H',KA cs X.outs (EY X cs<|DH cell rec ps) R->EX cs X.outs (D1 cs.length X.outs R) row->row.length<=cs.length->H l=none->Same H H'->H' l=some (.lst<|AM row)->Q (.ref l) H'
example:(Y8):=∃ (X:SX) (cs:z8) (tks:tS) (M:Hs) (t:Addr) (z:Str) (cell rec m:Nat) (ps:t3) (ts:tY),vs=[.ref X.S.A.gp,.ref t,.str z]/\CN K a/\C6 a H X cs tks M/\H t=some (N0 X.n X.r X.c X.w)/\cell<X.m0/\sh M.b X.C M.as 0 cell=.nm z rec/\sh M.b X.C M.as 3 rec=.rc m ps/\Paired (λp t=>sh M.b X.C M.as 4 p=.tx t) ps ts /\
 ∀ l H',H l=none->Same H H'->H' l=some (.lst<|ts.map V.str)->Q (.ref l) H'
abbrev _root_.uA:=List (Addr × Addr × Addr × List Nat)
structure HeldAt(H:Hp)(hl:Addr)(F:zV)(ps:uA):Prop where
 e:H hl=some (.lst<|ps.map λp=>.ref p.1)
 v:∀ p∈ps,H p.1=some (.tup [.ref p.2.1,.ref p.2.2.1])/\H p.2.1=some (.lst<|AM p.2.2.2)/\H p.2.2.1=some (.lst<|AM p.2.2.2)/\¬ F p.2.1/\¬ F p.2.2.1/\p.2.1≠hl/\p.2.2.1≠hl/\p.2.2.2.length<=1000
 f:¬ F hl
abbrev SX.G(X:SX):Addr->Prop:=λx=>X.S.A.F x\/x=X.S.tk
example:(UK):=∃ (X:SX) (cs:z8) (tks:tS) (M:Hs) (t:Addr) (z:Str) (zs:tY) (hl:Addr) (ps:uA),vs=[.ref X.S.st,.ref X.S.A.gp,.ref t,.str z,.ref hl]/\CN K a/\MR K a/\C6 a H X cs tks M/\cs.length<900/\KJ M zs/\(∀ z∈zs,BO z=true)/\z∈zs/\(∃ k rec,k<X.m0/\M 0 k=.nm z rec)/\H t=some (N0 X.n X.r X.c X.w)/\HeldAt H hl X.G ps/\ps.length<=100 /\
 ∀ (X':SX) (ps':uA) (H':Hp),X'.S=X.S->X'.n=X.n->X'.r=X.r->X'.c=X.c->X'.w=X.w->C6 a H' X' cs tks M->HeldAt H' hl X'.G ps'->ps'.length<=ps.length+1->SameBut (λx=>X.S.A.F x\/x=X.S.A.gp\/x=hl) H H'->Q (.bl true) H'
example:(pR):=∃ (s:Addr) (ns:sZ),vs=[.ref s]/\TV K a/\CN K a/\MR K a/\SqL K H s (ns.map V.int)/\ns.length<=63/\∀ H',Q (.bl true) H'
abbrev FK:=ι
abbrev XE:=St->XK
abbrev RT:=FK->Ad->XE->XE->TS
def A3{f g:RT}(h:∀ K a E E1,f K a E E1=g K a E E1){K a E E1 D σ H}:f K a E E1 D σ H=g K a E E1 D σ H:=by rw[h]
abbrev DF:TE:=tC<|.int 0
abbrev DA:TE:=tC<|.int 1
abbrev N1:TE:=tC<|.int 2
abbrev JF:TE:=tC<|.int 3
abbrev pT:TE:=tC<|.int 4
abbrev MS:TE:=tC<|.int 5
abbrev N2:TE:=tC<|.int 6
abbrev N3:TE:=tC<|.int 7
abbrev JG:TE:=tC<|.int 8
abbrev FV(n:Int):TE:=tC<|.int n
abbrev AH(x0:TE):TA:=DB x0 BE
abbrev A5(x0 x1:TE):TA:=DB x0<|DB x1 BE
abbrev C0(x0 x1 x2:TE):TA:=DB x0<|DB x1<|DB x2 BE
abbrev MT(x0 x1 x2 x3:TE):TA:=DB x0<|DB x1<|DB x2<|DB x3 BE
abbrev A6(K:ι)(x:TE)(n:Int):TE:=AD (BX K) x (tC<|.int n)
abbrev AB:TE:=DU 0
abbrev AK:TE:=DU 1
abbrev Q3:TE:=DU 10
abbrev Y9:TE:=DU 11
abbrev AU:TE:=DU 2
abbrev AZ:TE:=DU 3
abbrev BK:TE:=DU 4
abbrev B2:TE:=DU 5
abbrev EQ:TE:=DU 6
abbrev IF:TE:=DU 7
abbrev FY:TE:=DU 8
abbrev JH:TE:=DU 9
section
variable{K:FK}{a:Ad}{n:Nat}{E E1:XE}{D:Ends}{σ:St}{H:Hp}
local macro_rules
 |`(command|example : $x:term := [$p,*])=>do
  let i:=Lean.mkIdent
  let f:=fun (y:Lean.Term)=>`($y $(i `K) $(i `a) $(i `E) $(i `E))
  let q:=p.getElems
  let t<-q.pop.foldrM (fun y z=>do `(AG $(<-f y) $z)) (<-f q.back!)
  `(command|def $(i x.raw.getId):ident ($(i `K):ident:FK) ($(i `a):ident:Ad) ($(i `E):ident:XE):TS:=$t)
 |`(command|example : $x:term := $t:term)=>do
  let i:=Lean.mkIdent
  let n:=x.raw.getId
  return Lean.mkNullNode #[←`(command|def $(i n):ident : RT := fun $(i `K):ident $(i `a):ident $(i `E):ident $(i `E1):ident => $t),←`(command|theorem $(i<|n.appendAfter "_"):ident : type_of%(@A3 _ _ $(i<|n++`eq_1)) := rfl)]
example:zhe:=(AV<|BT (FS K<|AH<|AR K AB "record_values") (FN K 2<|DK (AE 0) (DK (AE 1) FM)) (A8<|AD IU (AD (BX K) (AR K AU "leads") AB) DF) AK 2 [0])
example:pU:=[zhe]
example:zhf:=(AV<|BT (FS K<|AH<|AR K AB "record_values") (FN K 2<|DK (AE 0) (DK (AE 1) FM)) (A8<|AD FR AK<|tC .non) AB 2 [])
example:pV:=[zhf]
example:zhg:=(AV<|BT (FS K<|AH<|AR K AB "namings") (FN K 2<|DK (AE 0) (DK (AE 1) FM)) (A8<|AD IU AK DF) AB 2 [])
example:pW:=[zhg]
example:zhh:=(AV<|A6 K (AD (BX K) (AR K AB "record_values") AK) 0)
example:pX:=[zhh]
example:zhi:=(AQ (BS BE) (AE 1))
example:zhj:=(AQ (BS BE) (AE 2))
example:zhk:=(AQ JV<|AE 3)
example:pY:=(CB<|DY K "list" DZ AK<|AH<|CK<|A5 (tC<|.str "lost") BK)
example:pZ:=(BM (A8<|AD GT (AD (BX K) (AR K AB "record_values") (A6 K B2 1)) (tC .non)) (pY K a E E) B0)
example:p0:=(CB<|DY K "list" DZ AU<|AH<|CK<|A5 (tC<|.str "twice") BK)
example:ZA:=(BM (A8<|IZ (A6 K B2 0) AZ) (p0 K a E E) B0)
example:UL:=(GU AZ (A6 K B2 0) (tC<|.bl true))
example:p8:=(BM (A8<|AD FR B2<|tC .non) (AG (pZ K a E E) (AG (ZA K a E E) (UL K a E E))) B0)
example:zhr:=(CJ (FS K<|AH<|AR K AB "name_values") (J6 K 2<|GW (AE 4) (GW (AE 5) J7)) (p8 K a E E))
example:ZB:=(AV<|AD (BD K) AK AU)
example:p9:=[zhi,zhj,zhk,zhr,ZB]
example:qB:=(AQ (BT (FS K<|AH<|AR K AB "piece_marks") (FN K 2<|DK (AE 0) (DK (AE 1) FM)) (A8<|AD (CM K) AK DA) AB 2 []) (AE 1))
example:zht:=(AV<|BT (B7 K AK) (AE 0) (A8<|AD (CM K) (AD (BX K) (AR K AK "reached") AB) DF) (CK<|C0 (tC<|.str "left") (tC<|.str "piece") AB) 1 [0])
example:ZC:=[qB,zht]
example:qG:=(AQ (BT (FS K<|AH<|AR K AB "record_marks") (FN K 2<|DK (AE 0) (DK (AE 1) FM)) (A8<|AD (CM K) AK DA) AB 2 []) (AE 1))
example:zhv:=(AV<|BT (B7 K AK) (AE 0) (A8<|AD GT (AD (BX K) (AR K AK "record_values") AB) (tC .non)) (CK<|A5 (tC<|.str "marked") AB) 1 [0])
example:ZD:=[qG,zhv]
example:qH:=(AQ (BT (DG<|AH AB) (AE 0) CP DF 1 []) (AE 2))
example:qI:=(SO K AU AZ DA OZ)
example:zhy:=(CJ (B7 K AK) (AE 3) (qI K a E E))
example:zhz:=(AV AU)
example:ZE:=[qH,zhy,zhz]
example:zh0:=(AQ (BS BE) (AE 1))
example:qJ:=(CB<|DY K "list" (W3 K) AK (AH<|A6 K AU 1))
example:qK:=(BM (A8<|AD FR AU<|tC .non) (qJ K a E E) B0)
example:zh3:=(CJ (B7 K AB) (AE 2) (qK K a E E))
example:zh4:=(AV AK)
example:qM:=[zh0,zh3,zh4]
example:zh5:=(C2 K AB AK "place")
example:zh6:=(C2 K AB AU "value")
example:zh7:=(C2 K AB AZ "needs")
example:qN:=[zh5,zh6,zh7]
example:zh8:=(AV<|BT (DG<|AH<|CL (FE K) (AH<|AR K AB "made")) (AE 0) (A8<|HY AB<|AR K AK "outs") AB 1 [0])
example:qO:=[zh8]
example:zh9:=(AV<|A6 K (AR K (AD (BX K) (AR K AB "made") AK) "place") 0)
example:qP:=[zh9]
example:qQ:=(GE (a "NoChange") E (AH<|tC<|.str "there is no change of such a number"))
example:qS:=(BM (EI<|A8<|FQ EJ FB DF AU<|CL (FE K) (AH<|AR K AB "made")) (qQ K a E E) B0)
example:zic:=(CJ (B7 K AK) (AE 2) (qS K a E E))
example:qT:=[zic]
example:qU:=(AV<|CL (K8 K) (AH<|SI K AB))
example:qV:=(BM (A8<|AD GT AK<|tC .non) (qU K a E E) B0)
example:qX:=(AV<|CL (K8 K) (AH<|SI K<|AD (BD K) (CL (J5 K) (AH AB)) (BS<|AH AK)))
example:UM:=[qV,qX]
example:zif:=(AV AZ)
example:zig:=(BM (KR (A8<|HY AZ<|AR K AB "outs") (A8<|HY AZ AU)) (zif K a E E) B0)
example:zih:=(CJ (B7 K<|AR K (AD (BX K) (AR K AB "made") AK) "needs") (AE 3) (zig K a E E))
example:zii:=(AV<|tC .non)
example:qY:=[zih,zii]
example:zij:=(AQ (CL (J5 K) (AH AK)) (AE 3))
example:qZ:=(AQ (AR K (AD (BX K) (AR K AB "made") BK) "value") (OS AZ (A6 K (AR K (AD (BX K) (AR K AB "made") BK) "place") 1) O8))
example:rA:=(BM (A8<|IZ BK<|AR K AB "outs") (qZ K a E E) B0)
example:zim:=(CJ (B7 K<|AD (BX K) (AR K AB "made_in") AU) (AE 4) (rA K a E E))
example:zin:=(AV AZ)
example:rC:=[zij,zim,zin]
example:rE:=(AV<|HX (FQ EJ EJ (tC<|.str " ") AB (tC<|.str "~")) (AD (DV K) (CL (PN K) (AH AB)) (FV 37)))
example:ZF:=[rE]
example:rF:=(AV<|HX (FQ EJ EJ DA (CL (FE K) (AH AB)) JG) (CL (NH K) (AH<|BT (PL AB) (AE 0) CP (FQ EJ EJ (tC<|.str "a") AB (tC<|.str "z")) 1 [])))
example:ZG:=[rF]
example:zir:=(AV<|AR K AB "book")
example:rG:=[zir]
example:rH:=(C2 K AB (BT (DG<|AH AK) (AE 0) CP (AD (D7 K) (CK<|AH<|tC .non) AK) 1 [2]) "contents")
example:zit:=(C2 K AB AU "width")
example:ziu:=(C2 K AB DF "written")
example:ZH:=[rH,zit,ziu]
example:ziv:=(AV<|CL (FE K) (AH<|AR K AB "contents"))
example:rJ:=[ziv]
example:ziw:=(AV<|AR K AB "width")
example:rK:=[ziw]
example:zix:=(AV<|AR K AB "written")
example:rM:=[zix]
example:ziy:=(GE (a "NoBlock") E (AH<|tC<|.str "there is no such block"))
example:rN:=(BM (EI<|A8<|FQ EJ FB DF AK<|CL (FE K) (AH<|AR K AB "contents")) (ziy K a E E) B0)
example:ZI:=[rN]
example:zi0:=(C2 K AB AK "name_blocks")
example:zi1:=(C2 K AB AU "record_blocks")
example:zi2:=(C2 K AB AZ "piece_blocks")
example:zi3:=(C2 K AB BK "width")
example:rO:=[zi0,zi1,zi2,zi3]
example:zi4:=(AV<|CK<|C0 (AD (D7 K) (AR K AB "name_blocks") (AR K AB "width")) (AD (D7 K) (AR K AB "record_blocks") (AR K AB "width")) (AD (D7 K) (AR K AB "piece_blocks") (AR K AB "width")))
example:rP:=[zi4]
example:zi5:=(AV<|AD (BD K) (AD (BD K) (AR K AB "name_blocks") (AR K AB "record_blocks")) (AR K AB "piece_blocks"))
example:rQ:=[zi5]
example:zi6:=(AV<|CK<|A5 (AD (BD K) AK (AD EC AU<|AR K AB "width")) (AD CD AU<|AR K AB "width"))
example:rR:=[zi6]
example:zi7:=(AV<|AD (BX K) AB AK)
example:rS:=(BM (A8<|AD FB AK<|CL (FE K) (AH AB)) (zi7 K a E E) B0)
example:zi9:=(AV DF)
example:ZJ:=[rS,zi9]
example:rT:=(AQ (AD (BD K) (AD CD AB<|FV 920419823) MS) (AE 2))
example:rV:=(AQ (AD (BD K) (AD CD (AD EC AB<|FV 920419823) (FV 899809363)) JF) (AE 3))
example:rW:=(AQ (BS BE) (AE 4))
example:rX:=(AQ (AD CD (AD (BD K) (AD (D7 K) AU (FV 70001)) AZ) (FV 920419823)) (AE 2))
example:rY:=(AQ (AD CD (AD (BD K) (AD (BD K) (AD (D7 K) AZ (FV 60013)) (AD (D7 K) AU AU)) B2) (FV 899809363)) (AE 3))
example:rZ:=(CB<|DY K "list" DZ BK<|AH<|AD (BD K) AU AZ)
example:zjg:=(CJ (DG<|AH AK) (AE 5) (AG (rX K a E E) (AG (rY K a E E) (rZ K a E E))))
example:zjh:=(AV BK)
example:ZK:=[rT,rV,rW,zjg,zjh]
example:zji:=(AV<|tC<|.bl false)
example:r8:=(BM (EI<|FD K<|CL (JY K) (A5 AB<|tC<|.ty "list")) (zji K a E E) B0)
example:zjk:=(AV<|tC<|.bl false)
example:sA:=(BM (JS (EI<|FD K<|CL (JY K) (A5 AU<|tC<|.ty "int")) (JS (FD K<|CL (JY K) (A5 AU<|tC<|.ty "bool")) (EI<|A8<|FQ EJ FB DF AU AK))) (zjk K a E E) B0)
example:sB:=(CJ (B7 K AB) (AE 2) (sA K a E E))
example:sC:=(AV<|tC<|.bl true)
example:ZL:=[r8,sB,sC]
example:sD:=(AQ (BT (B7 K<|AN (a "View") "pieces_named" (QY K a) E AB BE) (AE 0) (A8<|AD IU (AD (BX K) (AR K AK "namings") AB) DA) (CK<|A5 (tC<|.str "shared") AB) 1 [0]) (AE 1))
example:sE:=(AQ (BT (B7 K<|AN (a "View") "pieces_named" (QY K a) E AB BE) (AE 0) (A8<|AD GT (AD (BX K) (AR K AK "piece_values") AB) (tC .non)) (CK<|A5 (tC<|.str "empty") AB) 1 [0]) (AE 2))
example:sF:=(AQ (BT (B7 K<|AN (a "View") "records_standing" (UF K a) E AB BE) (AE 0) (A8<|AD FB (AN (a "View") "count_of" (UG K a) (λ_=>E0) AK (AH AB)) (AD (BX K) (AR K AK "leads") AB)) (CK<|A5 (tC<|.str "few") AB) 1 [0]) (AE 3))
example:zjr:=(AV<|AD (BD K) (AD (BD K) AK AU) AZ)
example:ZM:=[sD,sE,sF,zjr]
example:sG:=(AQ (BT (FS K<|AH<|AR K AB "leads") (FN K 2<|DK (AE 0) (DK (AE 1) FM)) (A8<|AD IU AK DF) AB 2 []) (AE 1))
example:sI:=(AQ (BT (B7 K AK) (AE 0) (A8<|AD (DV K) (AD (BX K) (AR K AK "record_marks") AB) DA) (CK<|C0 (tC<|.str "free") (tC<|.str "record") AB) 1 [0]) (AE 2))
example:sJ:=(AQ (BT (B7 K<|AN (a "View") "pieces_named" (QY K a) E AB BE) (AE 0) (A8<|AD (DV K) (AD (BX K) (AR K AK "piece_marks") AB) DA) (CK<|C0 (tC<|.str "free") (tC<|.str "piece") AB) 1 [0]) (AE 3))
example:zjv:=(AV<|AD (BD K) AU AZ)
example:ZN:=[sG,sI,sJ,zjv]
example:zjw:=(AQ (BS BE) (AE 1))
example:zjx:=(AQ (BS BE) (AE 2))
example:zjy:=(AQ (AD (BX K) (AR K AB "leads") AZ) (AE 4))
example:sK:=(CB<|DY K "list" DZ AU<|AH<|CK<|C0 (tC<|.str "left") (tC<|.str "record") AZ)
example:sL:=(CB<|DY K "list" DZ AK<|AH<|CK<|C0 (tC<|.str "many") AZ BK)
example:zj1:=(BM (A8<|AD IU (AN (a "View") "count_of" (UG K a) E AB (AH AZ)) BK) (sL K a E E) B0)
example:sM:=(BM (A8<|AD (CM K) BK DF) (sK K a E E) (zj1 K a E E))
example:zj3:=(CJ (B7 K<|AN (a "View") "records_standing" (UF K a) E AB BE) (AE 3) (AG (zjy K a E E) (sM K a E E)))
example:zj4:=(AV<|AD (BD K) AK AU)
example:sN:=[zjw,zjx,zj3,zj4]
example:sO:=(C2 K AB AK "ground")
example:sP:=(C2 K AB (BS BE) "made")
example:sQ:=(C2 K AB (BT (DG<|AH<|AN (a "Plank") "blocks" (MD K a) E AK BE) (AE 0) CP (BS BE) 1 []) "made_in")
example:zj8:=(C2 K AB O7 "latest")
example:zj9:=(C2 K AB JV "outs")
example:ZO:=[sO,sP,sQ,zj8,zj9]
example:sR:=(CB<|AN (a "Hold") "ask_for_changes" (TU K a) E AB (AH AK))
example:sU:=(AQ JV<|AE 2)
example:sW:=(GU AU AZ<|tC<|.bl true)
example:sY:=(CJ (B7 K AK) (AE 3) (sW K a E E))
example:tD:=(GU AU BK<|tC<|.bl true)
example:tF:=(CJ (B7 K<|AR K (AD (BX K) (AR K AB "made") AZ) "needs") (AE 4) (tD K a E E))
example:tH:=(BM (A8<|IZ AZ AU) (tF K a E E) B0)
example:tJ:=(CJ (SK K<|AH<|AN (a "Hold") "waiting" (TX K a) E AB BE) (AE 3) (tH K a E E))
example:tK:=(AV<|BT (B7 K<|AN (a "Hold") "waiting" (TX K a) E AB BE) (AE 0) (A8<|IZ AB AK) AB 1 [2])
example:tL:=[sR,sU,sY,tJ,tK]
example:zka:=(GE (a "NoBlock") E (AH<|tC<|.str "there is no such place on the plank"))
example:zkb:=(BM (JS (EI<|A8<|FQ EJ FB DF (A6 K AK 0) (AN (a "Plank") "blocks" (MD K a) E (AR K AB "ground") BE)) (EI<|A8<|FQ EJ FB DF (A6 K AK 1) (AN (a "Plank") "cells" (XJ K a) E (AR K AB "ground") BE))) (zka K a E E) B0)
example:tM:=[zkb]
example:tN:=(AQ (CL (PU K) (AH AU)) (AE 3))
example:tP:=(AQ (BS BE) (AE 4))
example:tR:=(AQ (BS BE) (AE 5))
example:tT:=(AQ (AN (a "Hold") "lack_of" (X7 K a) E AB (A5 EQ AZ)) (AE 7))
example:tV:=(GU AZ EQ<|tC<|.bl true)
example:tX:=(CB<|DY K "list" DZ BK<|AH EQ)
example:tZ:=(CB<|DY K "list" DZ B2<|AH<|CK<|A5 EQ IF)
example:t5:=(BM (A8<|AD GT IF<|tC .non) (AG (tV K a E E) (tX K a E E)) (tZ K a E E))
example:t8:=(BM (KR (A8<|HY EQ<|AR K AB "outs") (A8<|HY EQ AZ)) (AG (tT K a E E) (t5 K a E E)) B0)
example:uB:=(CJ (B7 K<|AD (BX K) (AR K AB "made_in") AK) (AE 6) (t8 K a E E))
example:uC:=(AV<|CK<|A5 BK B2)
example:ZR:=[tN,tP,tR,uB,uC]
example:uD:=(AV<|HX (FQ EJ EJ DA (CL (FE K) (AH AB)) (FV 40)) (CL (NH K) (AH<|BT (PL AB) (AE 0) CP (BL (YD K a) (λ_=>E0) (AH AB)) 1 [])))
example:ZS:=[uD]
example:uE:=(CB<|AN (a "Plank") "ask_for_block" (NO K a) E AB (AH AK))
example:zkg:=(AV<|CL (J5 K) (AH<|AD (BX K) (AR K AB "contents") AK))
example:ZT:=[uE,zkg]
example:uF:=(CB<|AN (a "Plank") "ask_for_block" (NO K a) E AB (AH AK))
example:zki:=(GE (a "NoBlock") E (AH<|tC<|.str "the list is not as long as a block"))
example:uG:=(BM (A8<|AD (DV K) (CL (FE K) (AH AU)) (AR K AB "width")) (zki K a E E) B0)
example:uH:=(AQ (CL (K8 K) (AH AU)) (OS (AR K AB "contents") AK O8))
example:uI:=(RZ K AB DA OZ "written")
example:ZU:=[uF,uG,uH,uI]
example:zkm:=(AV<|AN (a "Layout") "place_from" (MH K a) E AB (A5 DF AK))
example:uJ:=[zkm]
example:zkn:=(AV<|AN (a "Layout") "place_from" (MH K a) E AB (A5 (AR K AB "name_blocks") AK))
example:uK:=[zkn]
example:zko:=(AV<|AN (a "Layout") "place_from" (MH K a) E AB (A5 (AD (BD K) (AR K AB "name_blocks") (AR K AB "record_blocks")) AK))
example:uL:=[zko]
example:zkp:=(AV<|AN (a "Layout") "place_from" (MH K a) E AB (A5 (AN (a "Layout") "blocks_ahead_of_marks" (QF K a) E AB BE) AK))
example:uM:=[zkp]
example:zkq:=(AV<|AN (a "Layout") "place_from" (MH K a) E AB (A5 (AD (BD K) (AN (a "Layout") "blocks_ahead_of_marks" (QF K a) E AB BE) (AR K AB "record_blocks")) AK))
example:uN:=[zkq]
example:zkr:=(AV<|AD (BD K) (AD (BD K) (AN (a "Layout") "blocks_ahead_of_marks" (QF K a) E AB BE) (AR K AB "record_blocks")) (AR K AB "piece_blocks"))
example:uO:=[zkr]
example:zks:=(AQ (tC<|.str "abcdefghijklmnopqrstuvwxyz") (AE 2))
example:zkt:=(AQ (BL (NY K a) E (A5 (AD EC AB N1) (FV 12))) (AE 3))
example:uP:=(AV<|BT (DG<|AH AK) (AE 0) CP (AD (D7 K) (AD (BX K) AK (AD CD (AD (BD K) (A6 K AU 0) (AD EC AB JG)) (FV 26))) (AD (BD K) DA (AD CD AB JG))) 1 [2,3])
example:uQ:=(BM (A8<|AD (CM K) (AD CD AB N1) DA) (uP K a E E) B0)
example:zkw:=(AQ (AD (BD K) N1 (AD CD (A6 K AZ 0) N3)) (AE 4))
example:zkx:=(AQ (AD CD (A6 K AZ 1) BK) (AE 5))
example:zky:=(AQ (AD CD (AD (BD K) (AD (BD K) B2 DA) (AD CD (A6 K AZ 2) (AD SV BK DA))) BK) (AE 6))
example:zkz:=(AQ (BS BE) (AE 7))
example:uR:=(AQ (tC<|.str "") (AE 9))
example:uS:=(AQ (AD (BD K) (AD (D7 K) FY (CL (SE K) (AH<|AD (CM K) Q3 B2))) (AD (D7 K) (AD EC FY<|FV 26) (CL (SE K) (AH<|AD (CM K) Q3 EQ)))) (AE 11))
example:uT:=(AQ (AD (BD K) JH (AD (BX K) AU (AD CD (AD (BD K) (AD (BX K) AZ (AD (BD K) JF Q3)) Y9) (FV 26)))) (AE 9))
example:uU:=(CJ (DG<|AH BK) (AE 10) (AG (uS K a E E) (uT K a E E)))
example:uV:=(CB<|DY K "list" DZ IF<|AH JH)
example:uW:=(CJ (DG<|AH AK) (AE 8) (AG (uR K a E E) (AG (uU K a E E) (uV K a E E))))
example:zk6:=(AV IF)
example:uX:=[zks,zkt,uQ,zkw,zkx,zky,zkz,uW,zk6]
example:zk7:=(AQ (tC<|.str " !\"#$&'()*+,-./0123456789:;<=>?@ABCDEFGHIJKLMNOPQRSTUVWXYZ[\\]^_`") (AE 1))
example:zk8:=(AQ (AD (BD K) AK (tC<|.str "abcdefghijklmnopqrstuvwxyz{|}~")) (AE 1))
example:zk9:=(AQ (BL (NY K a) E (A5 AB JF)) (AE 2))
example:zla:=(AQ (AD (BD K) DA (AD CD (A6 K AU 0) N2)) (AE 3))
example:zlb:=(AQ (FV 40) (AE 3))
example:uY:=(BM (A8<|AD (CM K) (AD CD (AD EC (A6 K AU 0) N2) JG) DF) (zlb K a E E) B0)
example:ZV:=(AV<|DY K "str" (WX K) (tC<|.str "") (AH<|BT (DG<|AH AZ) (AE 0) CP (AD (BX K) AK (AD CD (AD (BD K) (A6 K AU 1) (AD (D7 K) (AD EC AB<|AD (BD K) DA (AD CD (A6 K AU 2) JF)) (A6 K AU 2))) (FV 94))) 1 [1,2]))
example:uZ:=[zk7,zk8,zk9,zla,uY,ZV]
example:zle:=(AQ (BL (NY K a) E (A5 (AD EC AB N2) JF)) (AE 1))
example:zlf:=(AV<|CK<|MT (AD (BD K) DA (AD CD (A6 K AK 0) JF)) (AD (BD K) DA (AD CD (A6 K AK 1) JF)) (AD (BD K) DA (AD CD (A6 K AK 2) JF)) (AD (BD K) DA (AD CD AB N2)))
example:vA:=[zle,zlf]
example:zlg:=(AV<|AD (BD K) (AD (BD K) (BL (YQ K a) E (AH AB)) (BL (YR K a) E (AH AB))) (BL (YS K a) E (AH AB)))
example:vB:=[zlg]
example:zlh:=(AV<|AD (BD K) (AD (BD K) (BL (YT K a) E (AH AB)) (BL (YU K a) E (AH AB))) (BL (YV K a) E (AH AB)))
example:vC:=[zlh]
example:zli:=(AV<|BT (B7 K AK) (FN K 2<|DK (AE 0) (DK (AE 1) FM)) CP (AD (BX K) (AN (a "Plank") "read" (K9 K a) (λ_=>E0) AU (AH AB)) AK) 2 [0])
example:vE:=[zli]
example:zlj:=(AQ (AN (a "Layout") "record_at" (HD K a) E AB (AH<|A6 K AU 1)) (AE 3))
example:vF:=(AV<|MC [ (AZ ,(CK<|A5 (A6 K AU 2) (A6 K (AD (BX K) (AN (a "Plank") "read" (K9 K a) E AK (AH<|A6 K AZ 0)) (A6 K AZ 1)) 1))) ])
example:vG:=(BM (A8<|AD (CM K) (A6 K AU 0) (tC<|.str "many")) (AG (zlj K a E E) (vF K a E E)) B0)
example:vH:=(AV<|MC [ ((AN (a "Layout") "record_mark" (KC K a) E AB (AH<|A6 K AU 1)) ,DF) ])
example:vI:=(BM (A8<|AD (CM K) (A6 K AU 0) (tC<|.str "marked")) (vH K a E E) B0)
example:zlo:=(AV<|MC [ ((AN (a "Layout") "record_at" (HD K a) E AB (AH<|A6 K AU 2)) ,(tC .non)) ,((AN (a "Layout") "record_mark" (KC K a) E AB (AH<|A6 K AU 2)) ,DF) ])
example:vJ:=(BM (A8<|AD (CM K) (A6 K AU 1) (tC<|.str "record")) (zlo K a E E) B0)
example:vK:=(AV<|MC [ ((AN (a "Layout") "piece_mark" (KD K a) E AB (AH<|A6 K AU 2)) ,DF) ])
example:ZW:=[vG,vI,vJ,vK]
example:zlr:=(AQ (AN (a "Plank") "read" (K9 K a) E AB (AH AU)) (AE 3))
example:vL:=(AQ (BT (FS K<|AH AZ) (FN K 2<|DK (AE 0) (DK (AE 1) FM)) CP (VW AU (CK<|A5 AZ AB) AK) 2 [1,2]) (AE 4))
example:vM:=(CB<|AN (a "Plank") "write" (SZ K a) E AB (A5 AU BK))
example:vN:=(BM (A8<|AD (DV K) BK AZ) (vM K a E E) B0)
example:vO:=(CJ (DG<|AH<|AN (a "Plank") "blocks" (MD K a) E AB BE) (AE 2) (AG (zlr K a E E) (AG (vL K a E E) (vN K a E E))))
example:ZX:=[vO]
example:zlw:=(AQ (BS BE) (AE 2))
example:zlx:=(AQ JV<|AE 3)
example:zly:=(AQ (AN (a "Hold") "closure" (X5 K a) E AB (AH AK)) (AE 4))
example:zlz:=(AQ (AN (a "Hold") "block_of" (YA K a) E AB (AH<|A6 K BK 0)) (AE 5))
example:vP:=(CB<|DY K "list" DZ AU<|AH B2)
example:vQ:=(GU AZ EQ<|tC<|.bl true)
example:zl2:=(CJ (B7 K<|A6 K (AN (a "Hold") "outcome" (TY K a) E AB (A5 B2 AZ)) 0) (AE 6) (vQ K a E E))
example:vR:=(AQ (BT (B7 K BK) (AE 0) (A8<|HY AB AK) AB 1 [3]) (AE 4))
example:zl4:=(j2 (FD K BK) (AG (zlz K a E E) (AG (vP K a E E) (AG (zl2 K a E E) (vR K a E E)))))
example:zl5:=(AV AU)
example:vS:=[zlw,zlx,zly,zl4,zl5]
example:zl6:=(CB<|AN (a "Hold") "ask_for_place" (X4 K a) E AB (AH AK))
example:zl7:=(AV<|NN (AR K AB "latest") AK)
example:vT:=[zl6,zl7]
example:zl8:=(AQ (AN (a "Plank") "read" (K9 K a) E (AR K AB "ground") (AH AK)) (AE 2))
example:zl9:=(AQ (AN (a "Hold") "outcome" (TY K a) E AB (A5 AK JV)) (AE 3))
example:vU:=(GU (AR K AB "outs") BK (tC<|.bl true))
example:zmb:=(CJ (B7 K<|A6 K AZ 0) (AE 4) (vU K a E E))
example:zmc:=(CB<|AN (a "Plank") "write" (SZ K a) E (AR K AB "ground") (A5 AK<|AN (a "Hold") "laid_over" (X8 K a) E AB (A5 AU AK)))
example:zmd:=(AV AZ)
example:vV:=[zl8,zl9,zmb,zmc,zmd]
example:zme:=(AV<|GS (a "Plank") (XI K a) E (A5 (AN (a "Layout") "blocks" (XZ K a) E AB BE) (AR K AB "width")))
example:vW:=[zme]
example:vX:=(AQ (BS BE) (AE 3))
example:vY:=(AQ (AD (BD K) AZ (AN (a "Plank") "read" (K9 K a) E AB (AH BK))) (AE 3))
example:vZ:=(CJ (DG<|AH<|AD (BD K) (AD (BD K) (A6 K AK 0) (A6 K AK 1)) (A6 K AK 2)) (AE 4) (vY K a E E))
example:v0:=(AQ (IR (IV K) AZ (HB<|AD (D7 K) (A6 K AK 0) (A6 K AK 3)) IQ) (AE 5))
example:v6:=(AQ (IR (IV K) AZ (HB<|AD (D7 K) (AD (BD K) (A6 K AK 0) (A6 K AK 1)) (A6 K AK 3)) IQ) (AE 6))
example:v7:=(AQ (BT (B7 K<|IR (IV K) AZ IQ (HB<|AD (D7 K) (A6 K AK 0) (A6 K AK 3))) (AE 0) (KR (A8<|AD FR AB<|tC .non) (A8<|AD (CM K) (A6 K AB 0) AK)) (A6 K AB 1) 1 [2]) (AE 7))
example:zml:=(AV<|tC .non)
example:v8:=(BM (JS (A8<|AD (DV K) (CL (FE K) (AH IF)) DA) (A8<|AD GT (AD (BX K) B2 (A6 K IF 0)) (tC .non))) (zml K a E E) B0)
example:v9:=(AV<|BT (B7 K<|A6 K (AD (BX K) B2 (A6 K IF 0)) 1) (AE 0) CP (AD (BX K) AK AB) 1 [6])
example:ZY:=[vX,vZ,v0,v6,v7,v8,v9]
example:zmo:=(AQ (AN (a "Layout") "counts" (MJ K a) E AK BE) (AE 3))
example:zmp:=(AQ (A6 K AZ 1) (AE 4))
example:zmq:=(AQ (A6 K AZ 2) (AE 5))
example:wA:=(C2 K AB (BL (LK K a) E (A5 AU<|BT (DG<|AH<|A6 K AZ 0) (AE 0) CP (AN (a "Layout") "name_at" (KB K a) (λ_=>E0) AK (AH AB)) 1 [1])) "name_values")
example:wB:=(C2 K AB (BL (LK K a) E (A5 AU<|BT (DG<|AH BK) (AE 0) CP (AN (a "Layout") "record_at" (HD K a) (λ_=>E0) AK (AH AB)) 1 [1])) "record_values")
example:wC:=(C2 K AB (BL (LK K a) E (A5 AU<|BT (DG<|AH B2) (AE 0) CP (AN (a "Layout") "piece_at" (MI K a) (λ_=>E0) AK (AH AB)) 1 [1])) "piece_values")
example:wD:=(C2 K AB (BL (LK K a) E (A5 AU<|BT (DG<|AH BK) (AE 0) CP (AN (a "Layout") "record_mark" (KC K a) (λ_=>E0) AK (AH AB)) 1 [1])) "record_marks")
example:wE:=(C2 K AB (BL (LK K a) E (A5 AU<|BT (DG<|AH B2) (AE 0) CP (AN (a "Layout") "piece_mark" (KD K a) (λ_=>E0) AK (AH AB)) 1 [1])) "piece_marks")
example:wF:=(C2 K AB (BL (QX K a) E (A5 BK<|BT (B7 K<|AR K AB "name_values") (AE 0) (A8<|AD FR AB<|tC .non) (A6 K AB 1) 1 [])) "leads")
example:wG:=(C2 K AB (BL (QX K a) E (A5 B2<|BL (UE K a) E (AH<|AR K AB "record_values"))) "namings")
example:wH:=(C2 K AB (BL (QX K a) E (A5 B2<|BL (UE K a) E (AH<|AN (a "View") "records_led_to" (YO K a) E AB BE))) "reached")
example:wI:=[zmo,zmp,zmq,wA,wB,wC,wD,wE,wF,wG,wH]
example:zmz:=(AQ (AN (a "Hold") "newest" (ML K a) E AB (AH AK)) (AE 4))
example:zm0:=(CB<|AN (a "Hold") "ask_for_changes" (TU K a) E AB (AH AZ))
example:zm1:=(AQ (CL (FE K) (AH<|AR K AB "made")) (AE 5))
example:zm2:=(CB<|DY K "list" DZ (AR K AB "made") (AH<|GS (a "Change") (X2 K a) E (C0 AK AU<|BL (X3 K a) E (A5 AZ BK))))
example:zm3:=(CB<|DY K "list" DZ (AD (BX K) (AR K AB "made_in") (A6 K AK 0)) (AH B2))
example:zm4:=(GU (AR K AB "latest") AK B2)
example:zm5:=(AV B2)
example:wJ:=[zmz,zm0,zm1,zm2,zm3,zm4,zm5]
example:zm6:=(AQ (AN (a "Hold") "newest" (ML K a) E AB (AH AK)) (AE 2))
example:zm7:=(AV<|AD (BX K) (AN (a "Plank") "read" (K9 K a) E (AR K AB "ground") (AH<|A6 K AK 0)) (A6 K AK 1))
example:zm8:=(BM (A8<|AD GT AU<|tC .non) (zm7 K a E E) B0)
example:zm9:=(AV<|AR K (AD (BX K) (AR K AB "made") AU) "value")
example:wK:=[zm6,zm8,zm9]
example:zna:=(C2 K AB AK "plan")
example:znb:=(C2 K AB (GS (a "Hold") (TR K a) E (AH AU)) "book")
example:znc:=(C2 K AB JV "taken_out")
example:wL:=[zna,znb,znc]
example:znd:=(AV<|AN (a "Hold") "write" (X9 K a) E (AR K AB "book") (AH AK))
example:wM:=[znd]
example:zne:=(AV AZ)
example:znf:=(BM (A8<|AD (PY K) (AN (a "Hold") "in_hand" (LB K a) E AB (AH BK)) AU) (zne K a E E) B0)
example:zng:=(CJ (FS K<|AH AK) (J6 K 2<|GW (AE 3) (GW (AE 4) J7)) (znf K a E E))
example:znh:=(GE (a "NoRoom") E (AH<|tC<|.str "nothing of what is to be taken is free"))
example:wN:=[zng,znh]
example:wO:=(AV<|BT (DG<|AH<|A6 K (AN (a "Layout") "counts" (MJ K a) E (AR K AB "plan") BE) 0) (AE 0) CP (AN (a "Hold") "in_hand" (LB K a) (λ_=>E0) (AR K AK "book") (AH<|AN (a "Layout") "name_at" (KB K a) (λ_=>E0) (AR K AK "plan") (AH AB))) 1 [0])
example:ZZ:=[wO]
example:wP:=(AV<|AN (a "Hold") "in_hand" (LB K a) E (AR K AB "book") (AH<|AN (a "Layout") "record_at" (HD K a) E (AR K AB "plan") (AH AK)))
example:Z0:=[wP]
example:wQ:=(AQ (BS<|AH BK) (AE 5))
example:znl:=(CB<|DY K "list" DZ B2<|AH<|NM (AR K AB "taken_out") AU)
example:znm:=(BM (A8<|IZ AU<|AR K AB "taken_out") (znl K a E E) B0)
example:Z1:=(AV<|AN (a "Hold") "change" (GK K a) E (AR K AB "book") (C0 (AN (a "Layout") "name_at" (KB K a) E (AR K AB "plan") (AH AK)) (CK<|A5 AU AZ) B2))
example:Z2:=[wQ,znm,Z1]
example:wR:=(AQ (A6 K AK 3) (AE 3))
example:wS:=(AQ (BS BE) (AE 4))
example:wT:=(AQ (AN (a "Hold") "in_hand" (LB K a) E AB (AH<|CK<|A5 (AD EC B2 AZ) (AD CD B2 AZ))) (AE 6))
example:wU:=(AQ (BS<|A5 (CK<|A5 (AD EC B2 AZ) (AD CD B2 AZ)) (CK<|A5 (AD (BD K) (A6 K AK 0) (AD EC (A6 K EQ 1) AZ)) (AD CD (A6 K EQ 1) AZ))) (AE 4))
example:wV:=(BM (KR (A8<|AD FR EQ<|tC .non) (A8<|AD (CM K) (A6 K EQ 0) AU)) (wU K a E E) B0)
example:wX:=(CJ (DG<|AH<|AD (D7 K) (A6 K AK 0) AZ) (AE 5) (AG (wT K a E E) (wV K a E E)))
example:wY:=(CB<|DY K "list" DZ BK<|AH<|CK<|A5 (AD (BD K) (AD (BD K) (A6 K AK 0) (A6 K AK 1)) (AD EC IF AZ)) (AD CD IF AZ))
example:wZ:=(CJ (B7 K<|A6 K (AN (a "Hold") "in_hand" (LB K a) E AB (AH<|A6 K BK 1)) 1) (AE 7) (wY K a E E))
example:w5:=(AQ (BS BE) (AE 8))
example:w8:=(CB<|DY K "list" DZ FY<|AH<|AN (a "Hold") "newest" (ML K a) E AB (AH JH))
example:w9:=(BM (A8<|AD FR (AN (a "Hold") "newest" (ML K a) E AB (AH JH)) (tC .non)) (w8 K a E E) B0)
example:xA:=(CJ (B7 K BK) (AE 9) (w9 K a E E))
example:xB:=(AV<|BL (TZ K a) E (A5 AB FY))
example:Z3:=[wR,wS,wX,wZ,w5,xA,xB]
example:zn0:=(AQ (GS (a "View") (QZ K a) E (A5 AB AK)) (AE 2))
example:zn1:=(AV<|AD (BD K) (BL (UH K a) E (AH AU)) (BL (YW K a) E (AH AU)))
example:xC:=[zn0,zn1]
example:xD:=(AV<|AD (CM K) (CL (FE K) (AH<|BL (UH K a) E (AH<|GS (a "View") (QZ K a) E (A5 AB AK)))) DF)
example:Z4:=[xD]
example:xE:=(AQ (BT (DG<|AH<|A6 K (AN (a "Layout") "counts" (MJ K a) E AB BE) 0) (AE 0) CP (AN (a "Layout") "name_at" (KB K a) (λ_=>E0) AK (AH AB)) 1 [0]) (AE 2))
example:zn4:=(AV<|BL (NT K a) E (C0 AK AU<|CK<|AH<|tC .non))
example:Z5:=[xE,zn4]
example:xF:=(AQ (BT (DG<|AH<|A6 K (AN (a "Layout") "counts" (MJ K a) E AB BE) 1) (AE 0) CP (AN (a "Layout") "record_mark" (KC K a) (λ_=>E0) AK (AH AB)) 1 [0]) (AE 2))
example:zn6:=(AV<|BL (NT K a) E (C0 AK AU<|CK<|A5 (tC .non) DF))
example:Z6:=[xF,zn6]
example:xG:=(AQ (BT (DG<|AH<|A6 K (AN (a "Layout") "counts" (MJ K a) E AB BE) 2) (AE 0) CP (AN (a "Layout") "piece_mark" (KD K a) (λ_=>E0) AK (AH AB)) 1 [0]) (AE 2))
example:zn8:=(AV<|BL (NT K a) E (C0 AK AU<|CK<|A5 (tC .non) DF))
example:Z7:=[xG,zn8]
example:xH:=(AV<|CL (W1 K) (AH<|BT (B7 K<|AN (a "Store") "name_cells" (QL K a) E AB BE) (AE 0) (A8<|AD FR AB<|tC .non) (A6 K AB 0) 1 []))
example:Z8:=[xH]
example:xI:=(AV AU)
example:xJ:=(BM (KR (A8<|AD FR AZ<|tC .non) (A8<|AD (CM K) (A6 K AZ 0) AK)) (xI K a E E) B0)
example:zoc:=(CJ (FS K<|AH<|AN (a "Store") "name_cells" (QL K a) E AB BE) (J6 K 2<|GW (AE 2) (GW (AE 3) J7)) (xJ K a E E))
example:zod:=(AV<|tC .non)
example:xK:=[zoc,zod]
example:zoe:=(AQ (AN (a "Store") "standing" (JC K a) E AB (AH AK)) (AE 4))
example:xL:=(AV<|AN (a "Hold") "change" (GK K a) E (AR K AB "book") (C0 (AN (a "Layout") "record_at" (HD K a) E (AR K AB "plan") (AH AK)) (CK<|A5 (AD (BD K) (A6 K BK 0) AU) (A6 K BK 1)) AZ))
example:xM:=[zoe,xL]
example:xN:=(AV<|AN (a "Hold") "change" (GK K a) E (AR K AB "book") (C0 (AN (a "Layout") "record_at" (HD K a) E (AR K AB "plan") (AH AK)) (CK<|A5 (A6 K (AN (a "Store") "standing" (JC K a) E AB (AH AK)) 0) AU) AZ))
example:Z9:=[xN]
example:zoh:=(AQ (A6 K (AN (a "Store") "standing" (JC K a) E AB (AH AK)) 1) (AE 3))
example:xO:=(AQ (AN (a "Hold") "change" (GK K a) E (AR K AB "book") (C0 (AN (a "Layout") "record_at" (HD K a) E (AR K AB "plan") (AH AK)) (tC .non) (BS<|AH AU))) (AE 4))
example:xP:=(AQ (BS<|AH BK) (AE 5))
example:xQ:=(CB<|DY K "list" DZ B2<|AH<|AN (a "Hold") "change" (GK K a) E (AR K AB "book") (C0 EQ DF<|BS<|AH BK))
example:xR:=(CJ (B7 K<|AD (BD K) (BT (B7 K AZ) (AE 0) CP (AN (a "Layout") "piece_mark" (KD K a) (λ_=>E0) (AR K AK "plan") (AH AB)) 1 [0]) (BS<|AH<|AN (a "Layout") "record_mark" (KC K a) E (AR K AB "plan") (AH AK))) (AE 6) (xQ K a E E))
example:zon:=(AV B2)
example:xS:=[zoh,xO,xP,xR,zon]
example:zoo:=(GE (a "NotSound") E (AH<|tC<|.str "the plank has faults"))
example:zop:=(BM (EI<|FD K<|BL (YY K a) E (A5 AB AK)) (zoo K a E E) B0)
example:zoq:=(AQ (BL (YX K a) E (A5 AB AK)) (AE 2))
example:zor:=(AQ O7<|AE 3)
example:xT:=(CB<|DY K "dict" XD AZ<|AH<|BL (YZ K a) E (C0 AB AK BK))
example:zot:=(CJ (B7 K AU) (AE 4) (xT K a E E))
example:xU:=(CB<|BL (Y0 K a) E (A5 AK AZ))
example:zov:=(AV AU)
example:aA:=[zop,zoq,zor,zot,xU,zov]
example:zow:=(GE (a "NoName") E (AH<|tC<|.str "the text is no name"))
example:xV:=(BM (EI<|FD K<|CL (NH K) (AH<|BT (B7 K AU) (AE 0) CP (BL (YE K a) (λ_=>E0) (AH AB)) 1 [])) (zow K a E E) B0)
example:zoy:=(GE (a "Twice") E (AH<|tC<|.str "the new name stands already"))
example:zoz:=(BM (A8<|AD FR (AN (a "Store") "cell_of" (NU K a) E AB (AH AK)) (tC .non)) (zoy K a E E) B0)
example:aB:=[xV,zoz]
example:zo0:=(AQ (AN (a "Store") "cell_of" (NU K a) E AB (AH AK)) (AE 2))
example:zo1:=(GE (a "NoName") E (AH<|tC<|.str "no such name stands"))
example:zo2:=(BM (A8<|AD GT AU<|tC .non) (zo1 K a E E) B0)
example:zo3:=(AV<|A6 K (AD (BX K) (AN (a "Store") "name_cells" (QL K a) E AB BE) AU) 1)
example:xW:=[zo0,zo2,zo3]
example:xX:=(AQ (AN (a "Hold") "change" (GK K a) E (AR K AB "book") (C0 (AN (a "Layout") "name_at" (KB K a) E (AR K AB "plan") (AH<|AN (a "Store") "cell_of" (NU K a) E AB (AH AK))) (tC .non) AU)) (AE 3))
example:zo5:=(GU (AR K AB "taken_out") AK AZ)
example:zo6:=(AV AZ)
example:aC:=[xX,zo5,zo6]
example:xY:=(CB<|AN (a "Store") "ask_for_new_name" (T7 K a) E AB (A5 AK<|BS<|AH AK))
example:zo8:=(AQ (BL (YB K a) E (A5 (AR K AB "plan") (AR K AB "book"))) (AE 2))
example:zo9:=(AQ (BL (T5 K a) E (A5 (AR K AB "plan") (AR K AB "book"))) (AE 3))
example:xZ:=(AQ (AN (a "Hold") "change" (GK K a) E (AR K AB "book") (C0 (AN (a "Layout") "record_mark" (KC K a) E (AR K AB "plan") (AH AU)) DA (BS BE))) (AE 4))
example:yA:=(AQ (AN (a "Hold") "change" (GK K a) E (AR K AB "book") (C0 (AN (a "Layout") "record_at" (HD K a) E (AR K AB "plan") (AH AU)) (CK<|A5 DA<|CK BE) (BS<|AH BK))) (AE 5))
example:yB:=(AV<|BS<|C0 BK B2<|AN (a "Store") "fill_cell" (T9 K a) E AB (MT AZ AK AU B2))
example:aD:=[xY,zo8,zo9,xZ,yA,yB]
example:yC:=(CB<|AN (a "Store") "ask_for_new_name" (T7 K a) E AB (A5 AU<|BS<|A5 AK AU))
example:zpe:=(AQ (AN (a "Store") "record_of" (KG K a) E AB (AH AK)) (AE 3))
example:zpf:=(AQ (BL (T5 K a) E (A5 (AR K AB "plan") (AR K AB "book"))) (AE 4))
example:zpg:=(AQ (AN (a "Store") "recount" (QM K a) E AB (C0 AZ DA<|BS BE)) (AE 5))
example:yD:=(AV<|BS<|A5 B2<|AN (a "Store") "fill_cell" (T9 K a) E AB (MT BK AU AZ B2))
example:aE:=[yC,zpe,zpf,zpg,yD]
example:zpi:=(AQ (AN (a "Store") "record_of" (KG K a) E AB (AH AK)) (AE 2))
example:zpj:=(AQ (AN (a "Store") "empty_cell" (UB K a) E AB (A5 AK<|BS BE)) (AE 3))
example:yE:=(AV<|BS<|A5 AZ<|AN (a "Store") "recount" (QM K a) E AB (C0 AU (M9 NL DA) (BS<|AH AZ)))
example:zpl:=(BM (A8<|AD IU (A6 K (AN (a "Store") "standing" (JC K a) E AB (AH AU)) 0) DA) (yE K a E E) B0)
example:yF:=(AV<|AD (BD K) (BS<|AH AZ) (AN (a "Store") "drop_record" (YH K a) E AB (A5 AU AZ)))
example:yG:=[zpi,zpj,zpl,yF]
example:zpn:=(AQ (AN (a "Store") "record_of" (KG K a) E AB (AH AK)) (AE 3))
example:zpo:=(GE (a "NoPiece") E (AH<|tC<|.str "the text is none of a piece"))
example:zpp:=(BM (EI<|FD K<|BL (YF K a) E (AH AU)) (zpo K a E E) B0)
example:zpq:=(AQ (BL (YC K a) E (A5 (AR K AB "plan") (AR K AB "book"))) (AE 4))
example:yH:=(AQ (AN (a "Hold") "change" (GK K a) E (AR K AB "book") (C0 (AN (a "Layout") "piece_mark" (KD K a) E (AR K AB "plan") (AH BK)) DA (BS BE))) (AE 5))
example:yI:=(AQ (AN (a "Hold") "change" (GK K a) E (AR K AB "book") (C0 (AN (a "Layout") "piece_at" (MI K a) E (AR K AB "plan") (AH BK)) AU (BS<|AH B2))) (AE 6))
example:yJ:=(AV<|BS<|C0 B2 EQ<|AN (a "Store") "regroup" (UA K a) E AB (C0 AZ (AD (BD K) (A6 K (AN (a "Store") "standing" (JC K a) E AB (AH AZ)) 1) (CK<|AH BK)) (BS<|AH EQ)))
example:yK:=[zpn,zpp,zpq,yH,yI,yJ]
example:zpu:=(AQ (AN (a "Store") "record_of" (KG K a) E AB (AH AK)) (AE 3))
example:zpv:=(AQ (A6 K (AN (a "Store") "standing" (JC K a) E AB (AH AZ)) 1) (AE 4))
example:zpw:=(GE (a "NoPiece") E (AH<|tC<|.str "the record has no piece at that place"))
example:yL:=(BM (EI<|A8<|FQ EJ FB DF AU<|CL (FE K) (AH BK)) (zpw K a E E) B0)
example:zpy:=(AQ (AN (a "Store") "regroup" (UA K a) E AB (C0 AZ (AD (BD K) (IR (IV K) BK IQ (HB AU)) (IR (IV K) BK (HB<|AD (BD K) AU DA) IQ)) (BS BE))) (AE 5))
example:yM:=(AV<|BS<|A5 B2<|AN (a "Hold") "change" (GK K a) E (AR K AB "book") (C0 (AN (a "Layout") "piece_mark" (KD K a) E (AR K AB "plan") (AH<|AD (BX K) BK AU)) DF (BS<|AH B2)))
example:yN:=[zpu,zpv,yL,zpy,yM]
example:zp0:=(AQ (A6 K (AN (a "Store") "standing" (JC K a) E AB (AH<|AN (a "Store") "record_of" (KG K a) E AB (AH AK))) 1) (AE 2))
example:zp1:=(AV<|BT (B7 K AU) (AE 0) CP (AN (a "Hold") "in_hand" (LB K a) (λ_=>E0) (AR K AK "book") (AH<|AN (a "Layout") "piece_at" (MI K a) (λ_=>E0) (AR K AK "plan") (AH AB))) 1 [0])
example:yO:=[zp0,zp1]
example:zp2:=(AQ (AN (a "Store") "record_of" (KG K a) E AB (AH AK)) (AE 2))
example:yP:=(AQ (BS<|A5 (AN (a "Layout") "name_at" (KB K a) E (AR K AB "plan") (AH<|AN (a "Store") "cell_of" (NU K a) E AB (AH AK))) (AN (a "Layout") "record_at" (HD K a) E (AR K AB "plan") (AH AU))) (AE 3))
example:yQ:=(AV<|AD (BD K) AZ (BT (B7 K<|A6 K (AN (a "Store") "standing" (JC K a) E AB (AH AU)) 1) (AE 0) CP (AN (a "Layout") "piece_at" (MI K a) (λ_=>E0) (AR K AK "plan") (AH AB)) 1 [0]))
example:yR:=[zp2,yP,yQ]
example:zp5:=(CB<|BL (Y1 K a) E (A5 AB AK))
example:zp6:=(AV<|GS (a "Store") (QK K a) E (A5 AB AK))
example:yS:=[zp5,zp6]
example:zp7:=(AQ (AN (a "Store") "link" (UC K a) E AB (A5 AK AU)) (AE 3))
example:zp8:=(AQ (AN (a "Store") "record_of" (KG K a) E AB (AH AK)) (AE 4))
example:yT:=(AQ (AN (a "Store") "empty_cell" (UB K a) E AB (A5 AK<|BS<|AH<|A6 K AZ 1)) (AE 5))
example:yU:=(AV<|AD (BD K) AZ (BS<|A5 B2<|AN (a "Store") "recount" (QM K a) E AB (C0 BK (M9 NL DA) (BS<|AH B2))))
example:yV:=[zp7,zp8,yT,yU]
example:zqb:=(AQ (AN (a "Store") "hold" (T6 K a) E AB BE) (AE 2))
example:yW:=(AQ (BT (B7 K<|AN (a "Store") "places_of" (YN K a) E AB (AH AK)) (AE 0) CP (AN (a "Hold") "newest" (ML K a) (λ_=>E0) AK (AH AB)) 1 [2]) (AE 3))
example:yX:=(AV<|BL (TZ K a) E (A5 AU<|BT (B7 K AZ) (AE 0) (A8<|AD FR AB<|tC .non) AB 1 []))
example:yY:=[zqb,yW,yX]
example:zqe:=(AQ (BL (NY K a) E (A5 (AD EC AK JG) pT)) (AE 3))
example:zqf:=(AQ (AD (BX K) AU (AD CD (A6 K AZ 0) MS)) (AE 4))
example:zqg:=(AQ (AD (BX K) AU (AD CD (A6 K AZ 1) MS)) (AE 5))
example:yZ:=(AQ (tC<|.bl true) (AE 6))
example:zqi:=(CB<|AN (a "Store") "make" (YI K a) E1 AB (AH BK))
example:zqj:=(CB<|AN (a "Store") "link" (UC K a) E1 AB (A5 BK B2))
example:zqk:=(CB<|AN (a "Store") "put" (YK K a) E1 AB (A5 BK<|BL (Y2 K a) E1 (AH<|A6 K AZ 2)))
example:zql:=(CB<|AN (a "Store") "take" (YL K a) E1 AB (A5 BK<|AD CD (A6 K AZ 2) JF))
example:zA:=(CB<|AN (a "Store") "move" (YM K a) E1 AB (A5 BK B2))
example:zB:=(CB<|AN (a "Store") "cut" (YJ K a) E1 AB (AH BK))
example:zC:=(BM (A8<|AD (CM K) (AD CD AK JG) N2) (zA K a E E1) (zB K a E E1))
example:zD:=(BM (A8<|AD (CM K) (AD CD AK JG) MS) (zql K a E E1) (zC K a E E1))
example:zE:=(BM (A8<|AD FB (AD CD AK JG) MS) (zqk K a E E1) (zD K a E E1))
example:zF:=(BM (A8<|AD (CM K) (AD CD AK JG) N1) (zqj K a E E1) (zE K a E E1))
example:zG:=(BM (A8<|AD FB (AD CD AK JG) N1) (zqi K a E E1) (zF K a E E1))
example:aF:=(AQ (tC<|.bl false) (AE 6))
example:zH:=(SD (λE1=>(zG K a E E1)) (WD (λcls=>va K cls<|.ref<|a "HoldError") (aF K a E E) SC))
example:Q4:=(AV EQ)
example:zI:=[zqe,zqf,zqg,yZ,zH,Q4]
example:zJ:=(AQ (tC<|.bl false) (AE 2))
example:zK:=(AQ (tC<|.bl false) (AE 3))
example:zL:=(CB<|BL (QN K a) E1 (A5 AB AK))
example:zM:=(AQ (HX (CL (JY K) (A5 BK<|tC<|.ref<|a "NoName")) (CL (JY K) (A5 BK<|tC<|.ty "ValueError"))) (AE 2))
example:zN:=(AQ (CL (JY K) (A5 BK<|CK<|DB (tC<|.ref<|a "NoBlock") (DB (tC<|.ref<|a "NoChange") (DB (tC<|.ref<|a "NoPiece") (MT (tC<|.ref<|a "NoRoom") (tC<|.ref<|a "NoRow") (tC<|.ref<|a "NotSound") (tC<|.ref<|a "Twice")))))) (AE 3))
example:zO:=(SD (λE1=>(zL K a E E1)) (lV (λcls=>va K cls<|.ref<|a "HoldError") 4 (AG (zM K a E E) (zN K a E E)) SC))
example:zP:=(AV<|HX AU<|WI K AZ)
example:aG:=[zJ,zK,zO,zP]
example:zQ:=(AQ (AN (a "Store") "texts" (UD K a) E AB (AH AZ)) (AE 5))
example:zR:=(AQ (AN (a "Plank") "writings" (SY K a) E AK BE) (AE 6))
example:zS:=(AQ (BL (Y7 K a) E (C0 (AN (a "Store") "hold" (T6 K a) E AB BE) AU AZ)) (AE 7))
example:zT:=(AQ (BL (QN K a) E (A5 AB AZ)) (AE 8))
example:zq7:=(AV<|tC<|.bl false)
example:zU:=(BM (JS (EI<|FD K<|BL (Y6 K a) E (A5 FY<|AN (a "Plank") "blocks" (MD K a) E AK BE)) (A8<|AD (DV K) FY IF)) (zq7 K a E E) B0)
example:zW:=(AQ (CL (J5 K) (AH FY)) (AE 9))
example:zX:=(CB<|DY K "list" DZ FY<|AH DF)
example:zZ:=(CB<|DY K "list" DZ BK<|AH<|CK<|A5 FY<|AD (BD K) JH (BS<|AH DF))
example:zq9:=(AV<|tC<|.bl false)
example:z9:=(BM (EI<|FD K<|BL (Q2 K a) E (A5 AB Q3)) (zq9 K a E E) B0)
example:Ac:=(CJ (B7 K<|BS<|C0 (AD (BD K) AZ (tC<|.str " ")) (AD (BD K) (tC<|.str " ") AZ) (AD (BD K) (IR (IV K) AZ IQ (HB<|M9 NL DA)) (tC<|.str "A"))) (AE 10) (z9 K a E E))
example:zrb:=(AV<|tC<|.bl false)
example:Ag:=(BM (JS (A8<|AD (DV K) (BL (QN K a) E (A5 AB AZ)) JH) (A8<|AD (DV K) (AN (a "Plank") "writings" (SY K a) E AK BE) EQ)) (zrb K a E E) B0)
example:zrc:=(AV<|tC<|.bl false)
example:Ah:=(BM (A8<|AD (CM K) (A6 K (AN (a "Store") "write" (Q0 K a) E AB (AH Y9)) 0) (BS BE)) (zrc K a E E) B0)
example:Aj:=(CJ (B7 K JH) (AE 11) (Ah K a E E))
example:Ak:=(AV<|HX (AD (CM K) (BL (Y8 K a) E (C0 AK AU AZ)) B2) (AD (CM K) (AN (a "Store") "texts" (UD K a) E AB (AH AZ)) B2))
example:aJ:=[zQ,zR,zS,zT,zU,zW,zX,zZ,Ac,Ag,Aj,Ak]
example:Al:=(AQ (BL (Y3 K a) E (AH<|BL (TQ K a) E (A5 AB DF))) (AE 1))
example:Am:=(AQ (BL (Y4 K a) E (A5 (BL (TQ K a) E (A5 AB DA)) MS)) (AE 2))
example:Ap:=(AQ (GS (a "Layout") (XY K a) E (MT (A6 K AK 0) (A6 K AK 1) (A6 K AK 2) (A6 K AK 3))) (AE 3))
example:Aq:=(AQ (AN (a "Layout") "plank" (X0 K a) E AZ BE) (AE 4))
example:Av:=(AQ (GS (a "Store") (QK K a) E (A5 AZ BK)) (AE 5))
example:Aw:=(AQ (BS BE) (AE 6))
example:zrk:=(AV<|tC<|.bl false)
example:Ax:=(BM (EI<|FD K<|BL (Q2 K a) E (A5 B2 IF)) (zrk K a E E) B0)
example:Az:=(CJ (B7 K<|BS<|DB (tC<|.str "") (DB (tC<|.str "A") (MT (AD (BD K) (A6 K AU 0) (tC<|.str " ")) (tC<|.str "a1") (tC<|.str "abcdefghi") (tC<|.str "_")))) (AE 7) (Ax K a E E))
example:Bc:=(AQ (AD (BX K) AU (AD CD (AD EC FY N3) MS)) (AE 9))
example:Bd:=(CB<|BL (UJ K a) E (C0 B2 (AD EC FY N3) AU))
example:Bg:=(CB<|AN (a "Store") "write" (Q0 K a) E B2 (AH<|AD CD (AD EC FY N3) (AN (a "Plank") "blocks" (MD K a) E BK BE)))
example:Bh:=(AQ (BL (UI K a) E (A5 AZ BK)) (AE 5))
example:zrp:=(AV<|tC<|.bl false)
example:Bj:=(BM (EI<|FD K<|BL (UK K a) E (DB B2<|MT BK AK JH EQ)) (zrp K a E E) B0)
example:zrq:=(AV<|tC<|.bl false)
example:Bm:=(BM (EI<|FD K<|BL (Q2 K a) E (A5 B2 JH)) (zrq K a E E) B0)
example:Bq:=(BM (A8<|AD (SL K) JH (AN (a "Store") "names" (YG K a) E B2 BE)) (Bj K a E E) (Bm K a E E))
example:Bw:=(BM (A8<|AD (CM K) (AD CD (AD EC FY<|FV 35) JF) DF) (Bh K a E E) (Bq K a E E))
example:Bx:=(BM (A8<|AD FB (AD CD FY N3) N2) (Bg K a E E) (Bw K a E E))
example:By:=(BM (A8<|AD FB (AD CD FY N3) pT) (Bd K a E E) (Bx K a E E))
example:Bz:=(CJ (B7 K<|IR (IV K) AB (HB N1) IQ) (AE 8) (AG (Bc K a E E) (By K a E E)))
example:zrv:=(AV<|tC<|.bl false)
example:Cb:=(BM (A8<|AD (DV K) Q3 Y9) (zrv K a E E) B0)
example:Cd:=(CJ (B7 K EQ) (J6 K 2<|GW (AE 10) (GW (AE 11) J7)) (Cb K a E E))
example:Cg:=(AV<|tC<|.bl true)
example:aK:=[Al,Am,Ap,Aq,Av,Aw,Az,Bz,Cd,Cg]
end
local macro_rules
 |`(tactic|push_cast [$l,*])=>do
  let g:=fun (s:String)=>((s.splitOn " ").map fun n=>Lean.mkIdent n.toName).toArray
  let a←(g "Xp Xq Xv Xw Xx Xy Xz Yb zdz zd1 Yc Yd Yg zd5 Yh zee Yj Yk Yl Ym zds zdq zdu zdn zdx Yp Yq Yv Yw Yx Yy zgk zgn zgq Yz Zb Zc Zd Zg zgh Zh Zj zf6 zga zf7 zgb Zk zda zdb zdc zdd zde zdf zdg zdh zdi zdj zd8 zd9 zea zeb zec Zl Zm Zq Zv mH Zz zab zaa zek zej zel zac zad Zx Zw Zy zae zeq zer zes zet zeu zev zew zex zey zez ze0 ze1 ze2 ze3 ze4 ze5 ze6 ze7 ze8 ze9 zfa zfb zaf zfh zag zfk zfn zfq zft zfw zfz zf2 zby zbz zb0 zbv zbu zgf zge zco zc4 zc5 zc6 zc7 zas zar").mapM fun n=>`(Lean.Parser.Tactic.simpLemma|↓$n:term)
  let b←(g "SV CD EC rPw NL Wj Ends.drop AW zdk zdl de mj List.reduceReplicate xy Nat.reduceSub um qy List.getElem?_cons_zero List.getElem?_cons_succ xl Option.join_some List.set_cons_zero List.set_cons_succ V.int.injEq V.ref.injEq V.bl.injEq V.str.injEq List.cons.injEq and_true true_and q1 q2 q3 q4 qL qR reduceCtorEq false_and and_false or_false false_or qF decide_eq_true_eq xj Ig qD eq_self if_true wq if_false ite_true Bool.true_eq_false qC qA Int.reduceToNat Int.reduceLT Int.reduceLE Int.reduceEq Nat.reduceLeDiff b_ not_true_eq_false not_false_eq_true").mapM fun n=>`(Lean.Parser.Tactic.simpLemma|$n:term)
  `(tactic|simp only [$a,*,$b,*,$l,*])
def nO{H:Hp}{t:Addr}{o:HO}{P:Hp->Prop}(h:H t=none)(k:∀ H',Same H H'->H' t=some o->P H'):P (upd H t o):=k _ (AL h) AF
def C4{H:Hp}{t:Addr}{o:HO}(h:H t=none):∃ H',upd H t o=H'/\Same H H'/\H' t=some o:={_,rfl,AL h,AF}
section
variable{K:ι}{a:Ad}{vs:Oq}{H:Hp}{Q:VK}{E:XK}
local macro_rules
 |`(command|example:($n:ident,$x,*):=$t:term)=>do
  let q:=x.getElems
  let i:=Lean.mkIdent
  let l:Array Lean.Term:=(List.replicate (q[2]!.raw.isNatLit?.getD 0) (Lean.Syntax.mkStrLit "")).toArray
  let a<-`($(q[0]!) $(i `K) $(i `a) $(i `vs) $(i `H) $(i `Q) $(i `E))
  let b<-`($(q[1]!) $(i `K) $(i `a) (fun _=>$(i `E)) (AX $(i `Q)) (AW [$l,*] $(i `vs)) $(i `H))
  if q.size=4 then `(command|def $n:ident ($(i `h):ident : $a) : $b := $t) else `(command|def $n:ident : $a → $b := $t)
example:(zry,TQ,ZJ,2):=by
 apply u3;rintro s ns k ⟨rfl,hs,hl,q⟩;push_cast[ZJ,↓rS_];refine{_,(.inl {_,hs,(ζ _).symm}),?_};split;rename_i hk;refine CY hs rfl  ?_ q;unfold TN;simp[(dn.mp hk)]
 have:TN ns k=0:=by
  unfold TN;rw[wj,bt (by lia)];rfl
 rw[this]at q;exact q
example:(zrz,XI,ZH,3):=by
 apply u4;rintro p dx m w ⟨rfl,T,hp,hm,h1,h2,q⟩;push_cast[ZH,↓rH_];refine{i0,by lia,(K5 (CC m<|oA hm rfl) (λi ys H'=>Same H H'/\∃ ts:List _,ys=ts.map V.ref/\Paired (λt r=>H' t=some (.tup r)) ts (bc i<|bc w .non)) {Same.refl _,[],rfl,.nil} (λi ys H' hi hl hzz=>?_) (λys H' hl hzz cl BC=>?_))};obtain⟨s,ts,e,P⟩:=hzz
 have fin:∀ (t':Addr) (H2:Hp),Same H' H2->H2 t'=some _->Same H H2/\∃ ts':List _,ys++[V.ref t']=ts'.map _/\Paired (λt r=>H2 t=some (.tup r)) ts' (bc _ _):=λt' H2 s2 e2=>by
  refine{s.trans s2,ts++[t'],by rw[e,ai];rfl,?_};rw[List.replicate_succ'];exact Paired.snoc (Paired.mapP P λt r z=>s2 _ _ z) e2
 refine{by decide,λt ht=>.inr ?_}
 have s1:Same H' (upd H' t<|.tup [V.non]):=λb o z=>by rw[AI (BI z ht)];exact z
 refine x3 t w _ {rfl,rfl,SqT.of AF,by simp,by lia,by lia,CC _ (by simp;exact oA h2 rfl),λe1=>?_,λe1 u hu=>?_};refine fin t _ s1 ?_;rw[AF,(cg e1)];rfl;rw[mK];exact fin u _ (s1.trans λb o z=>by rw[AI (BI z hu)];exact z) AF;obtain⟨s,ts,e,P⟩:=hzz
 have npc:=BI (s _ _ hp) BC;refine y3 {(by rw[AI npc];exact s _ _ hp),T.cl,T.nC,by decide,y3 {AF,T.cl,T.nW,J0 (by decide),y3 {AF,T.cl,T.nN,J0  (oy (J0  (by decide))),?_}}};rw[GA,GA];refine q cl _ (s.free BC) {⟨dx,AF⟩,{ts,by rw[AI npc.symm,AF,e],?_},λr hr=>?_,by simpa using hm,h2} λb o eb hb=>?_;refine Paired.mapP P λt r z=>?_;rw[AI (BH z (s _ _ hp) (by intro z';cases z')),AI<|BI z BC];exact z;rw[py hr,ug];rw[AI hb,AI<|BI (s _ _ eb) BC];exact s _ _ eb
example:(zr0,MD,rJ,1):=by
 apply u5;rintro p cl w rows n ⟨rfl,T,P,q⟩;obtain⟨ts,h2,h3⟩:=P.ls;obtain⟨dx,h1⟩:=P.ob;refine y3 {h1,T.cl,T.nC,_,SW _ _ _,_,.inl {_,SqL.of h2,?_},q};rw[ζ,h3.length]
example:(zr1,XJ,rK,1):=by
 apply u5;rintro p cl w rows n ⟨rfl,T,P,q⟩;obtain⟨dx,h1⟩:=P.ob;exact y3 {h1,T.cl,T.nW,_,oQ _ _ _,q}
example:(zr2,NO,ZI,2):=by
 apply u6;rintro p cl w rows n b ⟨rfl,T,P,q,qe⟩;obtain⟨ts,h2,h3⟩:=P.ls;obtain⟨dx,h1⟩:=P.ob;push_cast[ZI,↓rN_];split;rename_i h0;refine y3 {h1,T.cl,T.nC,_,SW _ _ _,_,.inl {_,SqL.of h2,(by rw[ζ,h3.length])},?_};split;exact{by decide,qe (by lia)};exact q h0 (by lia);exact{by decide,qe (by lia)}
def Cj(cl:Addr)(w n:Int):(pf cl w n).lookup ("ask_for_block":Str)=none:=HZ _ _ _ (by decide) (by decide) (by decide)
example:(zr3,K9,ZT,2):=by
 apply u6;rintro p cl w rows n b ⟨rfl,T,P,q,qe⟩;obtain⟨dx,h1⟩:=P.ob;obtain⟨ts,h2,h3⟩:=P.ls;push_cast[ZT,↓uE_,NO];refine y2 {h1,Cj _ _ _,T,x3 cl w _ {⟨n,P⟩,λh0 hb=>y3 {h1,T.cl,T.nC,_,SW _ _ _,?_},qe}};obtain⟨i,rfl⟩:∃ i:Nat,b=i:={_,(gr h0).symm}
 have hi:=dn.mp hb;obtain⟨t,et,ht⟩:=JZ h3<|η hi;exact CY (SqL.of h2) rfl (v:=.ref t) (by rw[τ,et];rfl) {_,.inr<|SqT.of ht,q i _ rfl<|η hi}
example:(zr4,SZ,ZU,3):=by
 apply u8;rintro p cl w rows n b v xs ⟨rfl,T,P,hv,hx,q,qe⟩;obtain⟨ts,h2,h3⟩:=P.ls;obtain⟨dx,h1⟩:=P.ob
 have npc:=P.ne;push_cast[ZU,↓uF_,↓uG_,↓uH_,↓uI_,NO];refine y2 {h1,Cj _ _ _,T,x3 cl w _ {⟨n,P⟩,λh0 hb=>{_,.inl ⟨_,hv,rfl⟩,y3 {h1,T.cl,T.nW,_,oQ _ _ _,?_}},λz=>qe<|z.imp id .inl}};obtain⟨i,rfl⟩:∃ i:Nat,b=i:={_,(gr h0).symm}
 push_cast[];split;exact{by decide,qe (.inr (.inr (by lia)))}
 have hw:xs.length=w:=by lia
 refine{xs,.inl {hv,λt ht=>?_}}
 have ntp:=BI h1 ht
 have ntc:=BI h2 ht;refine y3 {by rw[AI ntp];exact h1,T.cl,T.nC,_,SW _ _ _,(x4 cl _ i i {rfl,rfl,by rw[AI ntc];exact h2,?_,?_})};unfold HP;rw[if_pos (i0),if_pos (by rw[ζ,h3.length];exact hb),b_];refine y3 {by rw[AI npc,AI ntp];exact h1,T.cl,T.nN,_,oR _ _ _,?_};push_cast[];refine y2 {by rw[AI npc,AI ntp];exact h1,by show 3<1000;decide,(q i rfl (dn.mp hb) hw _ {⟨dx,AF⟩,{ts.set i t,?_,?_},λr hr=>?_,by rw[jd];exact P.sz,P.sw} λx o ex hxn=>?_)};rw[AI npc.symm,AF,List.map_set]
 have keep:∀ u r,H u=some (.tup r)->upd (upd (upd H t<|.tup xs) cl (.lst<|(ts.map V.ref).set i (.ref t))) p (.ins (a "Plank") dx (pf cl w<|n+1)) u=some _:=λu r hu=>by
  rw[AI (BH hu h1 (by intro z;cases z)),AI (BH hu h2 (by intro z;cases z)),AI<|BI hu ht];exact hu
 refine mJ ?_ i<|Paired.mapP h3 keep;rw[AI ntp.symm,AI ntc.symm,AF];rcases pd hr with z|z
 exact P.wd r z;rw[z];exact hw
 have hxn:x≠p/\x≠cl:={λz=>hxn<|.inl z,λz=>hxn<|.inr z}
 rw[AI hxn.1,AI hxn.2,AI<|BI ex ht];exact ex
def Q5(cl:Addr)(w n:Int):(pf cl w n).lookup ("read":Str)=none:=HZ _ _ _ (by decide) (by decide) (by decide)
def Ck(cl:Addr)(w n:Int):(pf cl w n).lookup ("write":Str)=none:=HZ _ _ _ (by decide) (by decide) (by decide)
def FW(h:fs.length<n):(BQ f v fs).length<n+1:=cm (OW f v fs) (oy h)
def SameBut.none{b:Addr}{H H1:Hp}{x:Addr}(s:SameBut (· =b) H H1)(hb:H1 b≠xi)(h:H1 x=xi):H x=xi:=by
 cases e:H x with
 |none=>rfl
 |some o =>
  have:x≠b:=λz=>hb<|z ▸ h;rw[s _ _ e this]at h;cases h
example:(zr5,X2,qN,4):=by
 apply u5;rintro x dx pl v nt ⟨rfl,T,hx,q⟩;refine y3 {hx,T.cc,T.nP,by decide,y3 {AF,T.cc,T.nV,FW  (by decide),y3 {AF,T.cc,T.nN,FW  (FW  (by decide)),?_}}};rw[GA,GA];exact q
example:(zr6,TR,ZO,2):=by
 apply u7;rintro b gp cl dx w rows n ⟨rfl,T,TP,P,hb,q⟩;push_cast[ZO,↓sO_,↓sP_,↓sQ_]
 have e1:upd H b _ b=some (.ins (HF a) dx (BQ "ground" (.ref gp) [])):=AF;refine y3 {hb,T.cl,T.nG,by decide,by decide,?_}
 have s1:SameBut _ H (upd H b<|.ins (HF a) dx (BQ "ground" (.ref gp) [])):=λx o e n=>by rw[AI n];exact e
 revert e1 s1;generalize upd H b _=H1;intro e1 s1 m hm
 have hmH:=s1.none (by rw[e1];intro z;cases z) hm
 have nbm:=BI e1 hm;refine y3 {by rw[AI nbm];exact e1,T.cl,T.nM,FW  (by decide),?_}
 have s2:SameBut _ H (upd (upd H1 m<|.lst []) b (.ins (HF a) dx (BQ "made" (.ref m) (BQ "ground" (.ref gp) [])))):=(s1.upd<|.inr hmH).upd (.inl rfl)
 have e2:upd (upd H1 m<|.lst []) b _ b=some (.ins (HF a) dx (BQ "made" (.ref m) (BQ "ground" (.ref gp) []))):=AF
 have m2:upd (upd H1 m<|.lst []) b (.ins (HF a) dx (BQ "made" (.ref m) (BQ "ground" (.ref gp) []))) m=some (.lst []):=by rw[AI nbm.symm,AF]
 revert s2 e2 m2;generalize upd _ b _=H2;intro s2 e2 m2
 have P2:PlankAt a H2 gp cl w rows n:=by
  obtain⟨⟨dx',f1⟩,⟨ts,f2,f3⟩,r1,r2,r3⟩:=P;exact{{_,s2 _ _ f1 (BH f1 hb (NP (by simp[pf])))},{ts,s2 _ _ f2 (BH f2 hb (by intro z;cases z)),Paired.mapP f3 λt r z=>s2 _ _ z (BH z hb (by intro z;cases z))},r1,r2,r3}
 obtain⟨dp,hp⟩:=P2.ob;refine y2 {hp,HZ _ _ _ (by decide) (by decide) (by decide),x5 gp cl w _ n {rfl,TP,P2,i0,by have:=P.sz;lia,?_}};rw[b_];refine K5 (CC _<|oA P.sz rfl) (λi ys H'=>Same H2 H'/\∃ ls:List _,ys=ls.map V.ref/\ls.Nodup/\∀ l∈ls,H' l=some (.lst [])/\H2 l=none) {Same.refl _,[],rfl,jr,by simp} (λi ys H' hi hl hzz=>?_) (λys H' hl hzz mi HM=>?_);obtain⟨s,ls,ey,nd,al⟩:=hzz;refine{by decide,λl hl'=>{s.trans<|AL hl',ls++[l],by rw[ey,ai];rfl,(mz.mpr {nd,by simp,λx hx y hy e=>by rw[ae]at hy;subst hy e;rw[(al _ hx).1]at hl';cases hl'}),λx hx=>?_}};rcases a_.mp hx with hx|hx
 exact{AL hl' _ _ (al x hx).1,(al x hx).2};rw[ae.mp hx];exact{AF,s.free hl'};obtain⟨s,ls,ey,nd,al⟩:=hzz
 have s3:SameBut (· =b) H (upd H' mi<|.lst ys):=by
  intro x o e nx
  have e':=s _ _<|s2 _ _ e nx;rw[AI (BI e' HM)];exact e'
 have e3:upd H' mi (.lst ys) b=some (.ins (HF a) dx (BQ "made" (.ref m) (BQ "ground" (.ref gp) []))):=by rw[AI (BI (s _ _ e2) HM)];exact s _ _ e2
 have m3:upd H' mi (.lst ys) m=some (.lst []):=by rw[AI (BI (s _ _ m2) HM)];exact s _ _ m2
 have i3:upd H' mi (.lst ys) mi=some (.lst<|ls.map V.ref):=by rw[AF,ey]
 have l3:∀ l∈ls,upd H' mi (.lst ys) l=some _/\H l=none/\l≠mi/\l≠m:=λl hl'=>by
  have z:=al l hl'
  have n1:=BI z.1 HM;exact{by rw[AI n1];exact z.1,s2.none (by rw[e2];intro z;cases z) z.2,n1,λy=>by rw[y,m2]at z;cases z.2}
 have hmiH:=s2.none (by rw[e2];intro z;cases z) (s.free HM);revert s3 e3 m3 i3 l3;generalize upd H' mi _=H3;refine λs3 e3 m3 i3 l3=>y3 {e3,T.cl,T.nI,FW  (FW  (by decide)),λlt A0=>?_}
 have nb4:=BI AF A0;rw[AI nb4.symm]at A0;refine y3 {by rw[AI nb4,AF],T.cl,T.nL,FW  (FW  (FW  (by decide))),λou D5=>?_}
 have nb5:=BI AF D5;rw[AI nb5.symm]at D5
 have nl5:=BI AF D5;rw[AI nl5.symm,AI nb5.symm]at D5;refine y3 {by rw[AI nb5,AF],T.cl,T.nO,FW  (FW  (FW  (FW  (by decide)))),?_};rw[zgz];generalize eH:upd _ b _=H5
 have kp:∀ x,x≠b->x≠lt->x≠ou->H5 x=H3 x:=λx n1 n2 n3=>by rw[<-eH,AI n1,AI n3,AI n1,AI n2,AI n1]
 have kk:∀ x o,H3 x=some o->x≠b->H5 x=some o:=λx o e n1=>by rw[kp x n1 (BI e A0) (BI e D5)];exact e
 have s5:=λx o e n1=>kk x o (s3 _ _ e n1) n1
 have nbx:∀ x xs,H3 x=some (.lst xs)->x≠b:=λx xs e=>BH e e3 (by intro z;cases z);refine q m mi lt ou ls H5 hmH hmiH (s3.none (by rw[e3];intro z;cases z) A0) (s3.none (by rw[e3];intro z;cases z) D5) (λl hl'=>(l3 l hl').2.1) {{{dx,by rw[<-eH,AF]},{[],kk _ _ m3<|nbx _ _ m3,.nil},kk _ _ i3<|nbx _ _ i3,λi l e=>?_,nd,{[],?_,λi j=>rfl,υ _},{[],(by rw[<-eH,AI nb5.symm,AF]),λk=>rfl,jr,by simp},by simp,by simp,by simp,{(BI (s _ _ m2) HM),(λz=>(l3 _ z).2.2.2 rfl),(λz=>(l3 _ z).2.2.1 rfl),?_,?_,?_},by simp},?_,(by rw[<-hl,ey,ζ])} s5
 have z:=l3 l<|θ e;exact kk _ _ z.1<|nbx _ _ z.1;rw[<-eH,AI nb4.symm,AI nl5,AI nb4.symm,AF];obtain⟨ts,z,v⟩:=P.ls;exact BI z hmH;obtain⟨ts,z,v⟩:=P.ls;exact BI z hmiH;obtain⟨ts,z,v⟩:=P.ls;exact λy=>by rw[(l3 _ y).2.1]at z;cases z
 obtain⟨⟨dx',f1⟩,⟨ts,f2,f3⟩,r1,r2,r3⟩:=P;exact{{_,s5 _ _ f1 (BH f1 hb (NP (by simp[pf])))},{ts,s5 _ _ f2 (BH f2 hb (by intro z;cases z)),Paired.mapP f3 λt r z=>s5 _ _ z (BH z hb (by intro z;cases z))},r1,r2,r3}
example:(zr7,X3,UM,2):=by
 apply u3;rintro nl ns o ⟨rfl,hs,hl,q⟩;cases o with
 |none =>
  push_cast[UM,↓qU_,↓qV_];refine{ns,hs,oC hl rfl,λx o D ks hx hD r m l=>{_,.inl {SqL.of AF,λt ht=>q t ks _ (((AL hx).trans (AL hD)).trans (AL ht)) AF r (λy=>?_) (cu l)}}};rw[m y];simp
 |some k =>
  push_cast[UM,↓qV_,↓qX_];refine{_,.inl hs,λl hl'=>{by decide,λp hp=>.inl ?_}}
  have s0:Same H (upd _ p<|.lst [.int k]):=(AL hl').trans (AL hp)
  have e1:upd (upd H l<|.lst<|ns.map V.int) p (.lst [.int k]) l=some (.lst<|ns.map V.int):=by rw[AI (BI AF hp),AF]
  have e2:upd (upd H l<|.lst<|ns.map V.int) p _ p=some (.lst [.int k]):=AF;revert s0 e1 e2;refine λs0 e1 e2=>x4 l p _ _ {rfl,rfl,e1,e2,CC _ (by simp;exact oA hl rfl),λr hr=>{r,rfl,ns++[(k:Int)],?_,by simp;exact oG hl rfl,λx o D ks hx hD rs m ll=>{_,.inl {SqL.of AF,λt ht=>q t ks _ ((((s0.trans<|AL hr).trans (AL hx)).trans (AL hD)).trans (AL ht)) AF rs (λy=>?_) (by simpa using ll)}}}};rw[ai];exact SqL.of AF;rw[m y];simp
example:(zr8,X4,tM,2):=by
 apply u9;rintro A w rows n cs outs pl i j ⟨rfl,T,TP,B,hp,q,qe⟩;obtain⟨dx,hb⟩:=B.bk.ob;obtain⟨dp,hg⟩:=B.pk.ob
 have ng:∀ {m:Str},¬ m="contents"->¬ m="width"->¬ m="written"->(pf A.cl w n).lookup m=none:=λh1 h2 h3=>HZ _ _ _ h1 h2 h3;refine BB hp  rfl rfl ?_;push_cast[];split;rename_i h0;refine y3 {hb,T.cl,T.nG,_,P9,y2 {hg,ng (by decide) (by decide) (by decide),x5 _ _ w _ n {rfl,TP,B.pk,?_}}};push_cast[];split;exact{by decide,qe λz=>by lia};refine BB hp  rfl rfl ?_;push_cast[];split;rename_i h2;refine y3 {hb,T.cl,T.nG,_,P9,y2 {hg,ng (by decide) (by decide) (by decide),x5 _ _ w _ n {rfl,TP,B.pk,?_}}};push_cast[];split;exact{by decide,qe λz=>by lia};exact q {h0,by lia,h2,by lia};exact{by decide,qe λz=>by lia};exact{by decide,qe λz=>by lia}
example:(zr9,ML,vT,2):=by
 apply u9;rintro A w rows n cs outs pl i j ⟨rfl,T,TP,B,hp,q,qe⟩;obtain⟨dx,hb⟩:=B.bk.ob;obtain⟨kvs,hl,hv,z⟩:=B.bk.lat;refine y2 {hb,CT,x9 A w _ n cs _ pl i j {rfl,T,TP,B,hp,λh=>(y3 {hb,T.cl,T.nL,_,o5,.inr {_,.inl hl},_,dT2 hl hp,?_}),qe}};rw[hv]
 have:=q h;cases e:DR cs i j with
 |none=>rw[e]at this;exact this
 |some k=>rw[e]at this;exact this
def BookIn.len(B:BookIn C D H A w cs outs):∃ xs,H A.m=some (.lst xs)/\xs.length=cs.length:=by
 obtain⟨chs,e,p⟩:=B.made;exact{_,e,by rw[ζ,p.length]}
example:(zsa,TU,qT,3):=by
 apply u8;rintro A w rows n cs outs nl ns ⟨rfl,T,B,hs,q,qe⟩;obtain⟨dx,hb⟩:=B.bk.ob;obtain⟨xs,hm,hml⟩:=B.bk.len;refine .inl {⟨_,hs⟩,(EV  (λi σ H'=>H'=H/\(∃ z,σ=[some _,some _,z])/\∀ x∈ns.take i,known cs x) {rfl,⟨_,rfl⟩,by simp} (by rintro i σ H' _ ⟨e,_⟩;exact e ▸ hs) (λi x σ H' hx hzz=>?_) (λσ H' hzz=>?_))};obtain⟨rfl,⟨z,rfl⟩,kn⟩:=hzz;rw[τ,aa]at hx;obtain⟨x',hx',rfl⟩:=hx
 have bad:¬ known cs x'->1<=sizeLine/\E _ _ H':=λh=>{by decide,qe {x',θ hx',h}}
 push_cast[↓qQ_,↓qS_];split;rename_i h0;refine y3 {hb,T.cl,T.nM,_,JA,_,.inl {_,SqL.of hm,hml.symm},?_};split;exact bad λz=>by lia
 intro y hy;rw[ci,hx']at hy;rcases a_.mp hy with hy|hy
 exact kn y hy;simp only[Option.toList_some,ae]at hy;subst hy;exact{h0,by lia};exact bad λz=>by lia
 obtain⟨e,⟨z,ez⟩,kn⟩:=hzz;subst e;refine q λx hx=>kn x ?_;rw[ζ,bz];exact hx
example:(zsb,TX,qO,1):=by
 apply u6;rintro A w rows n cs outs ⟨rfl,T,B,q⟩;obtain⟨xs,hm,hml⟩:=B.bk.len;obtain⟨dx,hb⟩:=B.bk.ob;obtain⟨DQ,ho,hv,z⟩:=B.bk.out
 have sz:=B.bk.sz;refine y3 {hb,T.cl,T.nM,_,JA,_,.inl {_,SqL.of hm,hml.symm},i0,by lia,(zbx (λk=> !outs k) (CC _<|oA sz rfl) (λi hi QB qb=>(y3 {hb,T.cl,T.nO,_,QC,_,dI ho,?_})) λp hp=>(q p _ hp (AL hp) (by rw[AF];rfl)))};rw[hv];exact qb
example:(zsc,GK,wJ,6):=by
 apply OO;rintro A w rows n cs outs pl nl v ns i j ⟨rfl,T,TP,B,hp,hs,hl,hc,q,q1,q2⟩;obtain⟨xs,hm,hml⟩:=B.bk.len;obtain⟨dx,hb⟩:=B.bk.ob;refine y2 {hb,CT,x9 A w _ n cs outs pl i j {rfl,T,TP,B,hp,λhon=>(y2 {hb,CT,x8 A w rows n cs outs nl ns {rfl,T,B,hs,λhkn=>(y3 {hb,T.cl,T.nM,_,JA,cs.length,.inl {_,SqL.of hm,hml.symm},(y3 {hb,T.cl,T.nM,_,JA,.inl {rfl,_,SqL.of hm},x3 nl ns (DR cs i j) {rfl,hs,hl,λt ks H1 s1 et kr km kl=>(λx dy hx hdy ndy=>x5 x dy pl v t {rfl,T,AF,rfl,?_})}})}),q2 hon}}),q1}};rw[GA]
 have s2:Same H1 (upd (upd H1 dy<|.own x) x (.ins (a "Change") dy (GH pl v t))):=(AL hdy).trans (AL (by rw[AI ndy.symm];exact hx))
 have ex:upd (upd H1 dy<|.own x) x (.ins (a "Change") dy (GH pl v t)) x=some (.ins (a "Change") dy (GH pl v t)):=AF;revert s2 ex;generalize upd (upd H1 dy<|.own x) x (.ins (a "Change") dy (GH pl v t))=H2;intro s2 ex
 have s:=s1.trans s2;replace et:=s2 _ _ et;obtain⟨chs,hm',pch⟩:=B.bk.made
 have HM:=B.bk.mil;obtain⟨kvs,A0,hv,E8⟩:=B.bk.lat;obtain⟨i0,i1,j0,j1⟩:=hon;obtain⟨DQ,D5,hvo,hko⟩:=B.bk.out;obtain⟨j',rfl⟩:∃ j':Nat,j=j':={j.toNat,(gr j0).symm}
 obtain⟨i',rfl⟩:∃ i':Nat,i=i':={i.toNat,(gr i0).symm}
 have hil:i'<A.ls.length:=by rw[B.nb];exact dn.mp i1
 have el:=η hil
 have hll:=B.bk.mic i' _ el
 have hmem:=og hil;revert el hll hmem;generalize A.ls[i']=l;intro el hll hmem
 have ap:=B.bk.ap
 have nml:A.m≠l:=λz=>ap.2.1<|z ▸ hmem
 have ncl:A.cl≠l:=λz=>ap.2.2.2.2.2<|z ▸ hmem
 have klt:∀ {y:Addr} {o:HO},H2 y=some o->(∀ k,o≠.dT k)->y≠A.lt:=λe h=>BH e (s _ _ A0) (h _)
 have km':∀ {y:Addr} {o:HO},H2 y=some o->(∀ k,o≠.lst k)->y≠A.m:=λe h=>BH e (s _ _ hm') (h _)
 have kll:∀ {y:Addr} {o:HO},H2 y=some o->(∀ k,o≠.lst k)->y≠l:=λe h=>BH e (s _ _ hll) (h _)
 have hb2:=s _ _ hb
 have JP:=s _ _ hp;refine{_,s _ _ hm',ψ (show(chs.map V.ref).length<1000 by rw[ζ];exact oD (cm (bh pch.length) hc) rfl) (by decide),?_}
 have bb:=km' hb2 (by intro k z;cases z)
 have bl:=kll hb2 (by intro k z;cases z)
 have pm:=km' JP (by intro k z;cases z)
 have pl':=kll JP (by intro k z;cases z)
 have mt:=klt (s _ _ hm') (by intro k z;cases z)
 have lt':=klt (s _ _ hll) (by intro k z;cases z)
 have bln:=oX cs i';refine y3 {by rw[AI bb];exact hb2,T.cl,T.nI,_,XQ,BB (by rw[AI pm];exact JP) (n:=0) rfl rfl (CY (SqL.of (by rw[AI ap.1.symm];exact s _ _ HM)) (n:=i') (v:=.ref l) rfl (by rw[τ,el];rfl) {.inl {rfl,_,SqL.of (by rw[AI nml.symm];exact s _ _ hll)},{_,by rw[AI nml.symm];exact s _ _ hll,ψ (show((DC cs i').map λ(k:Nat)=>V.int k).length<1000 by rw[ζ];lia) (by decide),(y3 {by rw[AI bl,AI bb];exact hb2,T.cl,T.nL,_,o5,_,pT2 (by rw[AI lt'.symm,AI mt.symm];exact s _ _ A0) (by rw[AI pl',AI pm];exact JP) (oD (cm E8 hc) rfl),?_})}})};generalize eH:upd (upd (upd H2 A.m _) l _) A.lt (.dT<|CA kvs [.inl ↑i',.inl ↑j'] (.int ↑cs.length))=H5
 have kp:∀ y,y≠A.m->y≠l->y≠A.lt->H5 y=H2 y:=λy n1 n2 n3=>by rw[<-eH,AI n3,AI n2,AI n1]
 have s5:SameBut (λy=>y=A.m\/y=l\/y=A.lt) H H5:=λy o e ny=>by
  rw[kp y (λz=>ny<|.inl z) (λz=>ny<|.inr<|.inl z) (λz=>ny<|.inr<|.inr z)];exact s _ _ e
 have lo:∀ y,(y=A.m\/y=l\/y=A.lt)->FF (H y):=by
  rintro y (z|z|z)
  ·exact B.loose<|.inl z
  ·exact B.loose<|.inr<|.inr<|.inl<|z ▸ hmem
  ·exact B.loose<|.inr<|.inr<|.inr<|.inl z
 have hnd:∀ y∈ks,0<=y/\y<cs.length:=λy hy=>by
  rcases(km y).mp hy with h|⟨k,e,rfl⟩
  ·exact hkn y h
  ·exact{iM rfl,by have:=MF e;exact dn.mpr this}
 refine q ⟨i0,i1,j0,j1⟩ hkn ks H5 kr km {{{dx,by rw[kp _ bb bl (klt hb2 (by intro k z;cases z))];exact hb2},{chs++[x],?_,Paired.snoc (Paired.mapP pch λy c h=>h.sb s5 lo) (x3 dy pl t {?_,?_,?_})},?_,λk l' e=>?_,B.bk.nd,{CA kvs [.inl ↑i',.inl ↑j'] (.int ↑cs.length),(by rw[<-eH,AF]),λp q=>?_,?_},{DQ,?_,hvo,(hko.mono (by simp))},?_,λc hc'=>?_,λk c e=>?_,ap,λk c e j ej=>?_},B.pk.sbL s5 lo ?_,B.nb} (s5.wide λy z=>?_);rw[<-eH,AI mt,AI nml,AF,ai];rfl;rw[kp x (km' ex (by intro k z;cases z)) (kll ex (by intro k z;cases z)) (klt ex (by intro k z;cases z))];exact ex
 ·rw[kp pl pm pl' (klt JP (by intro k z;cases z))];exact JP
 rw[kp t (km' et (by intro k z;cases z)) (kll et (by intro k z;cases z)) (klt et (by intro k z;cases z))];exact et;rw[kp _ ap.1.symm (λz=>ap.2.2.1<|z ▸ hmem) (klt (s _ _ HM) (by intro k z;cases z))];exact s _ _ HM;rw[zgx];by_cases z:l'=l;subst z
 have ek:k=i':=by
  obtain⟨h1,h2⟩:=ε.mp e;obtain⟨h3,h4⟩:=ε.mp el;exact(Ge B.bk.nd).mp (h2.trans h4.symm)
 subst ek;rw[<-eH,AI lt',AF];simp
 have nk:¬ i'=k:=λy=>by subst y;rw[el]at e;cases e;exact z rfl
 have hl':=B.bk.mic k l' e;rw[kp l' (λy=>ap.2.1<|y ▸ θ e) z (klt (s _ _ hl') (by intro k z;cases z))];simp only[b_,if_neg nk];exact s _ _ hl';rw[HU,XM];by_cases z:p=i'/\q=j';obtain⟨rfl,rfl⟩:=z;simp;rw[if_neg (λy=>z (by simpa using y)),if_neg<|λy=>z ⟨y.1.symm,y.2.symm⟩];exact hv p q
 have:=IS kvs [.inl ↑i',.inl ↑j'] (.int ↑cs.length);simp;lia;rw[kp _ (km' (s _ _ D5) (by intro k z;cases z)) (kll (s _ _ D5) (by intro k z;cases z)) (klt (s _ _ D5) (by intro k z;cases z))];exact s _ _ D5;simp;exact fg hc;rcases a_.mp hc' with h|h
 exact B.bk.inn c h;rw[ae.mp h];exact{by rw[b_];exact hil,(show(j':Int).toNat<w by exact dn.mp j1)};rcases eq k cs.length with h|h
 rw[ba h]at e;exact B.bk.need k c e;rw[cf h]at e
 have:k-cs.length=0:=by
  rcases ma (k-cs.length)with z|z
  ·exact z
  ·rw[bt (by simp;exact z)]at e;cases e
 rw[this]at e;cases e;exact{λy hy=>{(hnd y hy).1,by have:=(hnd y hy).2;lia},kr,(show ks.length<=100 by lia)};rcases eq k cs.length with h|h
 rw[ba h]at e;rw[List.take_append_of_le_length (by exact li h)]at ej;exact B.bk.chn k c e j ej;rw[cf h]at e
 have:k-cs.length=0:=by
  rcases ma (k-cs.length)with z|z
  ·exact z
  ·rw[bt (by simp;exact z)]at e;cases e
 have hk:k=cs.length:=by lia
 subst hk;rw[this]at e;cases e;exact(km _).mpr (.inr {j,by simpa using ej,rfl});rintro (z|z|z);exact ap.2.2.2.1 z;exact ncl z;obtain⟨ts,e,u⟩:=B.pk.ls;exact klt (s _ _ e) (by intro k z;cases z) z;rcases z with z|z|z
 exact .inl z;exact .inr<|.inr<|.inl<|z ▸ hmem;exact .inr<|.inr<|.inr<|.inl z
def BookIn.at{C D:Addr}{A:BA}{w:Nat}{cs:z8}{outs:qW}{H:Hp}(B:BookIn C D H A w cs outs){k:Nat}{c:Ch}(e:cs[k]? =some c):∃ xs x,H A.m=some (.lst xs)/\xs[k]? =some (.ref x)/\ChAt D H x c:=by
 obtain⟨chs,h,p⟩:=B.made;obtain⟨x,ex,hx⟩:=JZ p e;exact x2 _ x {h,by rw[τ,ex];rfl,hx}
def zsd{n:Nat}{outs:qW}{k:Nat}(h:k∈FT n outs):k<n/\outs k=false:=by
 have:=dh.mp h;exact{ak.mp this.1,by simpa using this.2}
def zse(n:Nat)(outs:qW):(FT n outs).Pairwise (· <·):=ig.filter _
def zsf(n:Nat)(outs:qW):(FT n outs).length<=n:=by
 have:=cr (λ(k:Nat)=> !outs k) (ν n)
 rwa [cw]at this
example:(zsg,X5,tL,5):=by
  apply u8;rintro A w rows n cs outs nl ns ⟨rfl,T,B,hs,hl,q,qe⟩;obtain⟨dx,hb⟩:=B.bk.ob;refine y2 {hb,CT (by decide),x8 A w _ n cs _ nl ns {rfl,T,B,hs,λhkn f hf=>(.inl {{_,(AL hf).seq hs},(EV  (λi σ H'=>∃ kvs,H'=upd H f (.dK kvs)/\(∀ x:Int,(BF kvs<|.inl x).isSome=true↔x∈ns.take i)/\kvs.length<=i/\∃ z,σ=[some (.ref _),some _,some _,z,none]) {[],rfl,by simp[VU],υ _,_,rfl} (by rintro i σ H' _ ⟨kvs,e,_⟩;rw[e];exact(AL hf).seq hs) (λi x σ H' hx hzz=>?_) (λσ H' hzz=>?_))}),qe}};obtain⟨kvs,rfl,hv,E8,z,rfl⟩:=hzz
  have hi:=(ε.mp hx).1;rw[ζ]at hi;rw[τ,aa]at hx;obtain⟨x',hx',rfl⟩:=hx;push_cast[↓tK_];refine{_,pI AF (by lia),_,GA,λy=>?_,?_};rw[HU,ci,hx',a_,<-hv y];by_cases e:y=x';subst e;simp
  have:¬ (uv y:AO)=uv x':=λz=>e (by simpa using z);simp[e]
  have:=IS kvs (.inl x') (.bl true)
  lia
  obtain⟨kvs,rfl,hv,E8,z,rfl⟩:=hzz;rw[ζ,bz]at hv;rw[ζ]at E8
  have s1:=AL (o:=.dK kvs) hf;push_cast[↓tJ_]
  have B1:=B.same s1
  have f1:upd H f (.dK _) f=some (.dK kvs):=AF;refine y2 {s1 _ _ hb,CT (by decide +kernel),x6 A w rows n cs outs {rfl,T,B1,λl H2 C9 s2 el=>?_}};push_cast[]
  have KP:=s1.trans s2;refine{_,SqL.of el,?_}
  have sz:=B.bk.sz
  have wl:=zsf cs.length outs
  have hW:(AM<|FT cs.length outs).length=(FT cs.length outs).length:=ζ _
  have keep:∀ kvs',Same H (upd H2 f<|.dK kvs'):=λkvs' b o e=>by
    rw[AI (BI e hf)];exact KP _ _ e
  have Bk:=λkvs'=>B.same<|keep kvs';refine zbw (λi σ H'=>∃ kvs',H'=upd H2 f (.dK kvs')/\(∀ x∈ns,(BF kvs'<|.inl x).isSome=true)/\(∀ x:Int,(BF kvs'<|.inl x).isSome=true->x∈ns\/∃ (k:Nat) (c:Ch),cs[k]? =some c/\outs k=false/\(BF kvs'<|.inl (k:Int)).isSome=true/\x∈c.nd) /\
    (∀ (t:Nat) (k:Nat) (c:Ch),(FT cs.length outs)[t]? =some k->(FT cs.length outs).length-i<=t->cs[k]? =some c->(BF kvs'<|.inl (k:Int)).isSome=true->∀ y∈c.nd,(BF kvs'<|.inl y).isSome=true)/\kvs'.length<=1000+100*i/\∃ z z',σ=[some (.ref A.b),some<|.ref nl,some<|.ref f,z,z'])
    {kvs,?_,λx hx=>(hv x).mpr hx,λx hx=>.inl<|(hv x).mp hx,λt k c e1 e2=>?_,ω E8 hl,_,_,rfl} (λi σ H' _ ⟨kvs',e,_⟩=>by rw[e];exact SqL.of (by rw[AI (BI f1 C9).symm];exact el)) (λi x σ H' hi hx hzz=>?_) (λσ H' hzz=>?_)
  funext b;by_cases e:b=f;subst e;rw[AF];exact(s2 _ _ f1);rw[AI e]
  have:=(ε.mp e1).1;exact nL this e2;obtain⟨kvs',rfl,h1,h3,h2,hkl',z,z',rfl⟩:=hzz;rw[hW]at hi hx;unfold AM at hx;rw[τ,aa]at hx;obtain⟨k,hx',rfl⟩:=hx;obtain⟨hk,ho⟩:=zsd<|θ hx'
  have ec:=η hk;revert ec;generalize cs[k]=c;intro ec
  have later:∀ (t k':Nat),(FT cs.length outs)[t]? =some k'->(FT cs.length outs).length - (i+1)<=t->k'=k\/(k<k'/\(FT cs.length outs).length - i<=t):=λt k' e1 e2=>by
    by_cases z:t=(FT cs.length outs).length-1-i
    ·subst z;rw[hx']at e1;cases e1;exact .inl rfl
    · obtain⟨h5,rfl⟩:=ε.mp e1
      obtain⟨h6,rfl⟩:=ε.mp hx';exact .inr {o_.mp (zse cs.length outs) _ _ h6 h5 (by lia),by lia}
  refine{_,dI AF,?_};cases hin:(BF kvs'<|.inl (k:Int)).isSome with
  |false =>
    push_cast[];refine{_,rfl,h1,h3,λt k' c' e1 e2 e3 e4=>?_,by lia};rcases later t k' e1 e2 with rfl|⟨_,z⟩
    ·rw[hin]at e4;cases e4
    ·exact h2 t k' c' e1 z e3 e4
  | true =>
    push_cast[];refine u2 ?_<|(Bk kvs').bk.at ec;rintro xs cx ⟨hm,ex,DJ⟩;revert DJ;apply u3;rintro dc pl nt ⟨hc1,hc2,hc3⟩
    have hb2:=(keep kvs') _ _ hb;refine y3 {hb2,T.cl,T.nM,_,JA,CY (SqL.of hm) rfl ex (y3 {hc1,T.cc,T.nN,_,o0,.inr {{_,SqT.of hc3},?_}})};obtain⟨nd1,nd2,nd3⟩:=B.bk.need k c ec;refine WJ (xs:=c.nd.map V.int) (λt σ H'=>∃ kv2,H'=upd H2 f (.dK kv2)/\(∀ x:Int,(BF kv2<|.inl x).isSome=true↔(BF kvs'<|.inl x).isSome=true\/x∈c.nd.take t)/\kv2.length<=kvs'.length+t/\∃ z',σ=[some (.ref A.b),some<|.ref nl,some<|.ref f,some<|.int k,z'])
      {kvs',rfl,by simp,υ _,_,rfl} (λt σ H' _ hzz=>?_) (λt y σ H' hy hzz=>?_) (λσ H' hzz=>?_)
    · obtain⟨kv2,e,_⟩:=hzz
      rw[e]
      have nf:nt≠f:=BH hc3 AF (by intro z;cases z);rw[AI nf]at hc3;exact SqT.of (by rw[AI nf];exact hc3)
    · obtain⟨kv2,e,JQ,hl2',z2,ez⟩:=hzz
      subst e;subst ez
      have hty:=(ε.mp hy).1;rw[ζ]at hty;rw[τ,aa]at hy;obtain⟨y',hy',rfl⟩:=hy;push_cast[↓sR_,↓sU_,↓sW_,↓sY_,↓tD_,↓tF_,↓tH_,↓tJ_,↓tK_];refine{_,pI AF (by lia),_,GA,λx=>?_,?_}
      · rw[HU,ci,hy',a_]
        by_cases e:x=y'
        ·subst e;simp
        · have:¬ (uv x:AO)=uv y':=λz=>e (by simpa using z)
          rw[if_neg this,JQ x];simp[e]
      · have:=IS kv2 (.inl y') (.bl true)
        lia
    · obtain⟨kv2,e,JQ,hl2',z2,ez⟩:=hzz
      subst e;subst ez;rw[ζ,bz]at JQ;rw[ζ]at hl2'
      have up:∀ {x:Int},(BF kvs'<|.inl x).isSome=true->(BF kv2<|.inl x).isSome=true:=λh=>(JQ _).mpr (.inl h);refine{kv2,rfl,λx hx=>up<|h1 x hx,λx hx=>?_,λt k' c' e1 e2 e3 e4 y hy=>?_,by lia,x2 _ _ rfl}
      · rcases(JQ x).mp hx with h | h
        · rcases h3 x h with h|⟨k',c',e1,e2,e3,e4⟩
          ·exact .inl h
          ·exact .inr<|x2 k' c' {e1,e2,up e3,e4}
        ·exact .inr<|x2 k c {ec,ho,up hin,h}
      · rcases later t k' e1 e2 with rfl | ⟨A0,z⟩
        · rw[ec]at e3;cases e3
          exact(JQ y).mpr (.inr hy)
        · rcases(JQ _).mp e4 with h | h
          ·exact up<|h2 t k' c' e1 z e3 h y hy
          · have:=(nd1 _ h).2
            lia
  obtain⟨kvs',rfl,h1,h3,h2,hkl',z,z',rfl⟩:=hzz;rw[hW]at h2
  have s3:=keep kvs';push_cast[↓sR_,↓sU_,↓sW_,↓sY_,↓tD_,↓tF_,↓tH_,↓tJ_,↓tK_];refine y2 {s3 _ _ hb,CT (by decide +kernel),x6 A w rows n cs outs {rfl,T,Bk kvs',λl2 H4 hl4 s4 el4=>?_}};refine .inl {{_,SqL.of el4},?_};refine WU (λv=>match v with
    |.int x=>(BF kvs'<|.inl x).isSome
    |_=>false) (CC _ (by lia)) (SqL.of el4) (λx hx QB qb=>?_) λr hr=>?_
  obtain⟨k,hk,rfl⟩:=av.mp hx;exact{_,dI<|s4 _ _ AF,qb};refine q hkn r _ (λx=>(BF kvs'<|.inl x).isSome) h1 (λk c e1 e2 e3 y hy=>?_) h3 ((s3.trans s4).free hr) ((s3.trans s4).trans (AL hr)) ?_
  have hkm:k∈FT cs.length outs:=dh.mpr {ak.mpr (ε.mp e1).1,by rw[e2];rfl};obtain⟨t,et⟩:=QD hkm;exact h2 t k c et (by lia) e1 e3 y hy;rw[AF];unfold AM;rw[zd]
  rfl
def zsh{Q:Addr->Hp->Prop}{E:XK}(T:TB K a)(TP:DL K a)(P:PlankAt a H1 gp cl w rows n)
  (q:∀ (A:BA) (H2:Hp),A.gp=gp->A.cl=cl->(∀ x o,H1 x=some o->x=cl\/¬ A.F x)->DW a H2 A w rows n [] (λ_=>false)->Same H1 H2->Q A.b H2) :
  ∀ x dx,H1 x=none->H1 dx=none->dx≠x->TR K a [.ref x,.ref gp] (upd (upd H1 dx<|.own x) x (.ins (HF a) dx [])) (λv H2=>v=.non/\Q x H2) E:=λb db hb hdb ndb=>by
 have s0:Same H1 (upd (upd H1 db<|.own b) b (.ins (HF a) db [])):=(AL hdb).trans (AL (by rw[AI ndb.symm];exact hb));refine x7 b gp cl db w _ n {rfl,T,TP,P.same s0,AF,λm mi lt ou ls H4 hm HM A0 D5 hls B4 sb4=>{rfl,(q _ H4 rfl rfl (λx o e=>?_) B4 λy o e=>sb4 _ _ (s0 _ _ e) (BI e hb))}};by_cases z:x=cl;exact .inl z;refine .inr ?_
 have e':=s0 _ _ e;rintro (y|y|y|y|y|y);rw[y,hm]at e';cases e';rw[y,HM]at e';cases e';rw[hls x y]at e';cases e';rw[y,A0]at e';cases e';rw[y,D5]at e';cases e';exact z y
example:(zsi,LB,wK,3):=by
 apply u9;rintro A w rows n cs outs pl i j ⟨rfl,T,TP,B,hp,q,qe⟩;obtain⟨dx,hb⟩:=B.bk.ob;obtain⟨dp,hg⟩:=B.pk.ob;refine y2 {hb,CT,x9 A w _ n cs _ pl i j {rfl,T,TP,B,hp,λh=>?_,qe}}
 have q:=q h;unfold EM at q;cases e:DR cs i j with
 |none =>
  rw[e]at q;refine y3 {hb,T.cl,T.nG,_,P9,y2 {hg,Q5 _ _ _,BB hp  rfl rfl (x6 _ _ w _ n i {rfl,TP,B.pk,λb' row eb er vl hvl=>?_,λz=>absurd h λy=>by lia})}};subst eb
  have s1:=AL (o:=.lst row) hvl;refine BB (s1 _ _ hp)  rfl rfl ?_
  have rl:=B.pk.wd _<|θ er
  have hj:j.toNat<row.length:=by omega
  have ej:=η hj;refine CY (SqL.of AF)   (by omega) ej (q _ _ ?_ s1);rw[show((b':Int)).toNat=b' from rfl,er];exact ej
 |some k =>
  rw[e]at q;obtain⟨chs,hm,pc⟩:=B.bk.made
  have ec:=η<|MF e;obtain⟨x,ex,dx',p1,n1,h1,h2,h3⟩:=JZ pc ec;refine y3 {hb,T.cl,T.nM,_,JA,CY (SqL.of hm)  (v:=.ref x) rfl (by rw[τ,ex];rfl) (y3 {h1,T.cc,T.nV,_,oZ,q _ _ ?_<|Same.refl _})}
  show(cs[k]?).map _=_;rw[ec]
  rfl
example:(zsj,X7,qY,4):=by
 apply RL;rintro A w rows n cs outs k c g kvg ⟨rfl,T,B,ec,hg,q⟩;obtain⟨dx,hb⟩:=B.bk.ob;refine u2 ?_<|B.bk.at ec;rintro xs cx ⟨hm,ex,DJ⟩;revert DJ;apply u3;rintro dc pl nt ⟨hc1,hc2,hc3⟩;obtain⟨DQ,ho,hv,v⟩:=B.bk.out;refine y3 {hb,T.cl,T.nM,_,JA,CY (SqL.of hm) rfl ex (y3 {hc1,T.cc,T.nN,_,o0,.inr {{_,SqT.of hc3},(WJ  (λi σ H'=>H'=H/\(∀ x∈c.nd.take i,(outs x||BY kvg x)=true)/\∃ z,σ=[some _,some _,some _,z]) {rfl,by simp,_,rfl} (by rintro i σ H' v ⟨e,v⟩;exact e ▸ SqT.of hc3) (λi x σ H' hx hzz=>?_) (λσ H' hzz=>?_))}})};obtain⟨rfl,al,z,rfl⟩:=hzz;rw[τ,aa]at hx;obtain⟨y,hy,rfl⟩:=hx
 have step:(outs y||BY _ y)=true->∀ x∈c.nd.take _,(outs x||BY _ x)=true:=λh x hx=>by
  rw[ci,hy]at hx;rcases a_.mp hx with hx|hx
  exact al x hx
  have:x=y:=by simpa using hx
  exact this ▸ h
 refine y3 {hb,T.cl,T.nO,_,QC,_,dI ho,?_};rw[hv];cases h1:outs y with
 |true =>
  push_cast[];exact step (by rw[h1];rfl)
 | false =>
  refine{_,dI hg,?_};cases h2:(BF kvg _).isSome with
  |true =>
   push_cast[];exact step (by show(outs y||(BF kvg _).isSome)=true;rw[h2];simp)
  |false =>
   have e:MG c.nd (λx=>outs x||BY kvg x)=some y:=by
    obtain⟨hi,e⟩:=ε.mp hy;unfold MG;rw[lb];refine{by show(!(outs y||(BF kvg _).isSome))=true;rw[h1,h2];rfl,x2 _ (c.nd.drop<|i+1) {?_,λx hx=>by show(!!(outs x||BY _ x))=true;rw[al x hx];rfl}};rw[<-e,<-io hi,iu]
   rw[e]at q;exact q
 obtain⟨e,al,z,ez⟩:=hzz;subst e;rw[ζ,bz]at al
 have e:MG _ (λx=>outs x||BY _ x)=none:=jv.mpr λx hx=>by show ¬ (!(outs x||BY _ x))=true;rw[al x hx];exact ax
 rw[e]at q;exact q
def zsk(s:Pass)(m:Nat)(H1 H':Hp)(g ol hl:Addr):Prop:=∃ (kvg:tS) (hs:tW),SameBut (λy=>y=g\/y=ol\/y=hl) H1 H'/\H' g=some (.dK kvg)/\(∀ x:Int,BY kvg x=s.gone x)/\kvg.length<=m/\H' ol=some (.lst<|s.out.map λ(k:Nat)=>V.int k) /\
 H' hl=some (.lst<|hs.map V.ref)/\Paired (λx (p:Nat × Int)=>H' x=some (.tup [.int p.1,.int p.2])) hs s.held
def Cl(kvs:tS)(k x:Int)(v:V):BY (CA kvs (.inl k) v) x=(BY kvs x||x==k):=by
 unfold BY;rw[HU];by_cases e:x=k;subst e;simp;simp[e]
example:(zsl,TY,ZR,8):=by
 apply u9;rintro A w rows n cs outs b tk kvt ⟨rfl,T,B,hbl,htk,hkt,q⟩;obtain⟨dx,hb⟩:=B.bk.ob;push_cast[ZR,↓tN_,↓tP_,↓tR_];refine{_,htk,λg hg=>{by decide,λol hol=>{by decide,λhl hhl=>?_}}}
 have ngo:=BI AF hol
 have s1:Same H (upd _ hl<|.lst []):=((AL hg).trans (AL hol)).trans (AL hhl)
 have nol:=BI AF hhl
 have ngl:=BI (by rw[AI ngo];exact AF) hhl
 have eg:upd (upd (upd H g<|.dK kvt) ol (.lst [])) hl (.lst []) g=some (.dK kvt):=by rw[AI ngl,AI ngo,AF]
 have eo:upd (upd (upd H g<|.dK kvt) ol (.lst [])) hl (.lst []) ol=some (.lst []):=by rw[AI nol,AF]
 have el:upd (upd (upd H g<|.dK kvt) ol (.lst [])) hl _ hl=some (.lst []):=AF
 have holH:=(AL hg).free hol
 have hhlH:=((AL hg).trans (AL hol)).free hhl;revert s1 eg eo el;generalize upd _ hl _=H1;intro s1 eg eo el
 have hil:b<A.ls.length:=by rw[B.nb];exact hbl
 have ell:=η hil
 have hll:=B.bk.mic b _ ell;revert ell hll;generalize A.ls[b]=l
 have bln:=oX cs b;refine λell hll=>y3 {s1 _ _ hb,T.cl,T.nI,_,XQ,CY (SqL.of<|s1 _ _ B.bk.mil)  (v:=.ref l) rfl (by rw[τ,ell];rfl) (.inl {{_,SqL.of<|s1 _ _ hll},?_})}
 have sz:=B.bk.sz
 have G:∀ {H':Hp},SameBut (λy=>y=g\/y=ol\/y=hl) H1 H'->Same H H':=λsb y o e=>sb _ _ (s1 _ _ e) (by
  rintro (z|z|z);rw[z,hg]at e;cases e;rw[z,holH]at e;cases e;rw[z,hhlH]at e;cases e)
 refine EV  (λi σ H'=>zsk (((DC cs b).take i).foldl (DD cs outs) {[],[],BY _}) (1000+i) H1 H' g ol hl/\∃ z1 z2,σ=[some _,some _,some _,some _,some _,some _,z1,z2])
  {x2 _ [] {SameBut.refl _,eg,λu=>rfl,hkt,eo,el,.nil},_,_,rfl} (by rintro i σ H' u ⟨⟨kvg,hs,sb,u⟩,u⟩;exact SqL.of<|G sb _ _ hll) (λi x σ H' hx hzz=>?_) (λσ H' hzz=>?_)
 have hi:=(ε.mp hx).1;obtain⟨iv,z1,z2,rfl⟩:=hzz;rw[ζ]at hi;rw[τ,aa]at hx;obtain⟨k,hk,rfl⟩:=hx
 have hkc:=S6<|θ hk
 have ec:=η hkc;revert ec;generalize cs[k]=c
 have hszs:=o9 (cs:=cs) (outs:=outs) ((DC cs b).take i) {[],[],BY kvt}
 have es:=pA (DD cs outs) {[],[],BY kvt} hk;intro ec;revert iv hszs es;generalize ((DC cs b).take i).foldl (DD cs _) _=s;generalize ((DC cs b).take _).foldl (DD cs _) _=s';intro iv hszs es;revert iv;apply u2;rintro kvg hs ⟨sb,e1,e2,e3,e4,e5,e6⟩;simp only[mj,ce]at hszs
 have sH:=G sb;obtain⟨DQ,ho,hv,u⟩:=B.bk.out;push_cast[↓tT_,↓tV_,↓tX_,↓tZ_,↓t5_,↓t8_];refine y3 {sH _ _ hb,T.cl,T.nO,_,QC,_,dI<|sH _ _ ho,?_};rw[hv];unfold DD at es;cases h1:outs k with
 |true =>
  rw[h1,n_,if_pos rfl]at es;rw[es];exact x2 _ hs {sb,e1,e2,cu e3,e4,e5,e6}
 | false =>
  rw[h1,xu]at es
  have e2k:(BF kvg _).isSome=s.gone k:=e2 k;refine{_,dI e1,?_};rw[e2k];cases h2:s.gone k with
  |true =>
   rw[h2]at es;rw[es];exact x2 kvg hs {sb,e1,e2,cu e3,e4,e5,e6}
  | false =>
   rw[h2,if_neg ax,ec]at es;refine y2 {sH _ _ hb,CT,U7 A w _ n cs _ k c g _ {rfl,T,(B.same sH),ec,e1,?_}}
   have efn:(λx=>outs x||BY kvg x)=λx=>outs x||s.gone x:=by funext x;rw[e2]
   rw[efn];simp only[Ih]at es;cases h3:MG _ (λx=>outs x||s.gone x)with
   |none =>
    rw[h3]at es;dsimp only [X6];refine{_,pI e1 (by lia),.inl {rfl,_,SqL.of (by rw[AI ngo.symm];exact e4)},{_,by rw[AI ngo.symm];exact e4,ψ (show(s.out.map λ(k:Nat)=>V.int k).length<1000 by rw[ζ];lia) (by decide),?_}};rw[es];refine x2 _ hs {?_,by rw[AI ngo,AF],λx=>by rw[Cl,e2],?_,by rw[AF,ai];rfl,by rw[AI nol.symm,AI ngl.symm];exact e5,Paired.mapP e6 λx p e=>?_};intro y o e ny;rw[AI λz=>ny<|.inr<|.inl z,AI λz=>ny<|.inl z];exact sb _ _ e ny
    have:=IS kvg (.inl (k:Int)) (.bl true)
    lia
    rw[AI (BH e e4 (by intro z;cases z)),AI (BH e e1 (by intro z;cases z))];exact e
   |some l' =>
    rw[h3]at es;dsimp only at es;dsimp only [X6];rw[if_neg (by intro z;cases z)];refine{.inl {rfl,_,SqL.of e5},by decide,λtp htp=>?_}
    have ntl:hl≠tp:=BI e5 htp;refine{_,by rw[AI ntl];exact e5,ψ (show(hs.map V.ref).length<1000 by rw[ζ,e6.length];lia) (by decide),?_};rw[es]
    have s2:=AL (o:=.tup [.int (k:Int),.int l']) htp
    have kp:∀ y,y≠hl->y≠tp->upd (upd H' tp<|.tup [.int (k:Int),.int l']) hl (.lst<|hs.map V.ref++[.ref tp]) y=H' y:=λy n1 n2=>by rw[AI n1,AI n2]
    refine x2 kvg (hs++[tp]) {?_,by rw[kp g ngl (BI e1 htp)];exact e1,e2,cu e3,by rw[kp ol nol (BI e4 htp)];exact e4,by rw[AF,ai];rfl,Paired.snoc (Paired.mapP e6 λx p e=>?_) ?_}
    ·intro y o e ny
     have e':=sb _ _ e ny;rw[kp y (λz=>ny<|.inr<|.inr z) (BI e' htp)];exact e'
    ·rw[kp x (BH e e5 (by intro z;cases z)) (BI e htp)];exact e
    ·rw[AI ntl.symm,AF]
 obtain⟨iv,z1,z2,rfl⟩:=hzz;rw[ζ,bz]at iv;push_cast[↓tN_,↓tP_,↓tR_,↓tT_,↓tV_,↓tX_,↓tZ_,↓t5_,↓t8_,↓uB_,↓uC_];revert iv;apply u2;rintro kvg hs ⟨sb,e1,e2,e3,e4,e5,e6⟩;refine{by decide,λt ht=>?_}
 have s2:=AL (o:=.tup [.ref ol,.ref hl]) ht;exact q t ol hl _ holH hhlH nol ((G sb).trans s2) {AF,s2 _ _ e4,hs,s2 _ _ e5,Paired.mapP e6 λx p e=>s2 _ _ e}
example:(zsm,X8,rC,5):=by
 apply u9;rintro A w rows n cs outs b vl row ⟨rfl,T,B,hbl,hvl,G5,q⟩;obtain⟨dx,hb⟩:=B.bk.ob;obtain⟨DQ,ho,hv,z⟩:=B.bk.out;refine{_,.inl<|SqL.of hvl,λla hla=>?_}
 have s1:=AL (o:=.lst row) hla
 have hil:b<A.ls.length:=by rw[B.nb];exact hbl
 have ell:=η hil
 have hll:=B.bk.mic b _ ell;revert ell hll;generalize A.ls[b]=l
 have sk:∀ o,Same H (upd H la o):=λo=>AL hla;refine λell hll=>y3 {s1 _ _ hb,T.cl,T.nI,_,XQ,CY (SqL.of<|s1 _ _ B.bk.mil)  (v:=.ref l) rfl (by rw[τ,ell];rfl) (.inl {{_,SqL.of<|s1 _ _ hll},?_})};refine EV  (λi σ H'=>H'=upd H la (.lst<|((DC cs b).take i).foldl (HC cs outs) row)/\∃ z1,σ=[some _,some _,some _,some _,z1])
  ⟨rfl,_,rfl⟩ (by rintro i σ H' z ⟨e,z⟩;rw[e];exact SqL.of<|sk _ _ _ hll) (λi x σ H' hx hzz=>?_) (λσ H' hzz=>?_)
 obtain⟨rfl,z1,rfl⟩:=hzz;rw[τ,aa]at hx;obtain⟨k,hk,rfl⟩:=hx
 have hkc:=S6<|θ hk
 have ec:=η hkc;revert ec;generalize cs[k]=c
 have es:=pA (HC cs outs) row hk
 have CG:=XS (cs:=cs) (outs:=outs) ((DC cs b).take i) row;intro ec;revert es CG;generalize ((DC cs b).take i).foldl _ row=r;generalize ((DC cs b).take _).foldl _ _=r'
 have sH:=sk<|.lst r;intro es CG;push_cast[↓qZ_,↓rA_];refine y3 {sH _ _ hb,T.cl,T.nO,_,QC,_,dI<|sH _ _ ho,?_};rw[hv];unfold HC at es;cases h1:outs k with
 |false =>
  rw[h1,if_neg ax]at es;push_cast[];rw[es]
 |true =>
  rw[h1,if_pos rfl,ec]at es;refine u2 ?_<|(B.same sH).bk.at ec;rintro xs cx ⟨hm,ex,dc,pl,nt,hc1,hc2,hc3⟩
  have hcell:=(B.bk.inn c<|θ ec).2;refine y3 {sH _ _ hb,T.cl,T.nM,_,JA,CY (SqL.of hm) rfl ex (y3 {hc1,T.cc,T.nV,_,oZ,(y3 {sH _ _ hb,T.cl,T.nM,_,JA,CY (SqL.of hm) rfl ex (y3 {hc1,T.cc,T.nP,_,oY,BB hc2  rfl rfl (x4 la r _ _ {rfl,rfl,AF,?_,(by rw[GA,es])})})})})};unfold HP;rw[if_pos (i0),if_pos (by lia),b_]
 obtain⟨rfl,z1,rfl⟩:=hzz;rw[ζ,bz];exact q la _ hla (sk _) AF
example:(zsn,X9,vV,5):=by
 apply u7;rintro A w rows n cs outs b ⟨rfl,T,TP,B,q,qe⟩;obtain⟨dp,hg⟩:=B.pk.ob;obtain⟨dx,hb⟩:=B.bk.ob;refine y3 {hb,T.cl,T.nG,_,P9,y2 {hg,Q5 _ _ _,x6 _ _ w _ n b {rfl,TP,B.pk,λb' row eb er vl hvl=>?_,qe}}};subst eb;obtain⟨H1,zz0,s1,ev⟩:=C4  hvl
 have hbl:=(ε.mp er).1;rw[zz0];refine y2 {s1 _ _ hb,CT,λe0 he0=>?_}
 have s2:=s1.trans<|AL (o:=.dK []) he0;refine x9 A w _ n cs _ b' e0 [] {rfl,T,B.same s2,hbl,AF,by simp,λt ol hl H3 hol hhl nol s3 told=>?_}
 have F8:=s2.trans s3
 have ev3:=s3 _ _<|AL he0 _ _ ev
 have holH:=s2.free hol
 have hasnil:(BY<|[])=λv=>false:=rfl
 have hhlH:=s2.free hhl;rw[hasnil]at told;obtain⟨ht,ho3,hs,hh3,hpr⟩:=told;obtain⟨rise,fresh,v⟩:=TC (cs:=cs) (outs:=outs) (b:=b')
 have eW:C3 cs _ b'=λx=>outs x||(outcome cs _ (λv=>false) b').out.any _:=rfl
 replace q:=λH' a1 a2 a3=>q b' _ t ol hl H' rfl er holH hhlH nol a1 a2 a3;revert ho3 hpr rise fresh eW q;generalize outcome cs _ (λv=>false) b'=oc;generalize C3 cs _ b'=ow;refine λho3 hpr rise fresh eW q=>BB ht  rfl rfl (.inl {{_,SqL.of ho3},?_});obtain⟨DQ,D5,hvo,hko⟩:=B.bk.out
 have hou3:=F8 _ _ D5
 have fO:=B.off holH
 have nou:=λz=>fO<|.inr<|.inr<|.inr<|.inr<|.inl z;refine EV  (λi σ H'=>(∃ kv,H'=upd H3 A.ou (.dK kv)/\(∀ x:Int,(BF kv<|.inl x).isSome=(outs x||(oc.out.take i).any λk=>x==k))/\KeysOk kv _)/\∃ z1,σ=[some _,some _,some _,some _,z1])
  {{_,?_,λx=>by rw[hvo];simp,hko},_,rfl} (by rintro i σ H' v ⟨⟨kv,e,v⟩,v⟩;rw[e];exact SqL.of (by rw[AI nou];exact ho3)) (λi x σ H' hx hzz=>?_) (λσ H' hzz=>?_)
 funext y;by_cases e:y=A.ou;subst e;rw[AF];exact hou3;rw[AI e];obtain⟨⟨kv,rfl,hv,hk⟩,z1,rfl⟩:=hzz;rw[τ,aa]at hx;obtain⟨k,ek,rfl⟩:=hx
 have hkm:=θ ek
 have hnone:BF kv (.inl k)=none:=by
  have:=hv k;rw[(fresh k hkm).1]at this
  have z:(oc.out.take i).any (λj=>k ==(j:Int))=false:=by
   rw[w_];intro j hj;obtain⟨m,hm,e⟩:=ik hj;rw[ce]at hm;rw[E_]at e;obtain⟨hi,e2⟩:=ε.mp ek
   have:=o_.mp rise m i (by lia) hi (by lia);rw[e,e2]at this;simp;exact λz=>iz this<|cg z
  rw[z]at this;exact Option.isSome_eq_false_iff.mp this |> wx.mp
 have hb3:upd H3 A.ou (.dK kv) A.b=some (.ins (HF a) dx (bf A.gp A.m A.mi A.lt A.ou)):=by
  rw[AI (BH (F8 _ _ hb) hou3 (by intro z;cases z))];exact F8 _ _ hb
 push_cast[↓vU_];refine y3 {hb3,T.cl,T.nO,_,QC,_,pI AF (by have:=B.bk.sz;have:=hk.len;lia),_,GA,λx=>?_,hk.put (S6 (fresh k hkm).2) hnone _}
 have:=Cl kv k x<|.bl true;unfold BY at this;rw[this,hv,ci,ek,kj];simp;obtain⟨⟨kv,rfl,hv,hk⟩,z1,rfl⟩:=hzz;rw[ζ,bz]at hv;replace hv:∀ x:Int,(BF kv _).isSome=ow x:=λx=>by rw[hv,eW]
 have kb:∀ {y:Addr} {o:HO},H y=some o->y≠A.ou->upd H3 _ (.dK kv) y=some o:=λe n=>by rw[AI n];exact F8 _ _ e
 have sb4:SameBut _ H _:=λy o e n=>kb e n
 have B4:DW a (upd H3 A.ou<|.dK kv) A w rows n cs ow:=by
  have g:∀ x,x=A.ou->FF (H x):=λx e=>e ▸ (S7 D5);obtain⟨⟨⟨dx',b1⟩,⟨chs,b2,b2'⟩,b3,b4,b5,⟨kvs,b6,b6'⟩,v,b8,b9,b10,b11,b12⟩,pk,nb⟩:=B;obtain⟨ts,pl1,pl2⟩:=pk.ls;refine{{{dx',kb b1 (BH b1 D5 (by intro z;cases z))},{chs,kb b2 (BH b2 D5 (by intro z;cases z)),Paired.mapP b2' λx c h=>h.sb sb4 g},kb b3 (BH b3 D5 (by intro z;cases z)),λi l e=>kb (b4 i l e) (BH (b4 i l e) D5 (by intro z;cases z)),b5,{kvs,kb b6 (BH b6 D5 (by intro z;cases z)),b6'},⟨kv,AF,hv,hk⟩,b8,b9,b10,b11,b12},pk.sbL sb4 g (BH pl1 D5 (by intro z;cases z)),nb}
 have ev4:upd H3 A.ou (.dK kv) vl=some (.lst row):=by rw[AI (BH ev3 hou3 (by intro z;cases z))];exact ev3
 have ht4:upd H3 A.ou (.dK kv) t=some (.tup [.ref ol,.ref hl]):=by rw[AI (BH ht hou3 (by intro z;cases z))];exact ht
 have ho4:upd H3 A.ou (.dK kv) ol=some (.lst<|oc.out.map λ(k:Nat)=>V.int k):=by rw[AI nou];exact ho3
 have hh4:upd H3 A.ou (.dK kv) hl=some (.lst<|hs.map V.ref):=by rw[AI (BH hh3 hou3 (by intro z;cases z))];exact hh3
 have hp4:Paired (λx (p:Nat × Int)=>upd H3 A.ou (.dK kv) x=some (.tup [.int p.1,.int p.2])) hs oc.held:=Paired.mapP hpr λx p e=>by rw[AI (BH e hou3 (by intro z;cases z))];exact e
 revert sb4 B4 ev4 ht4 ho4 hh4 hp4;intro sb4 B4 ev4 ht4 ho4 hh4 hp4;obtain⟨dx4,hb4⟩:=B4.bk.ob;obtain⟨dp4,hg4⟩:=B4.pk.ob;refine y3 {hb4,T.cl,T.nG,_,P9,y2 {hg4,Ck _ _ _,y2 {hb4,CT,x9 A w rows n cs ow b' vl row {rfl,T,B4,hbl,ev4,B.pk.wd row<|θ er,λll H5 hll5 s5 ell5=>?_}}}}
 have B5:=B4.same s5;refine x8 A.gp A.cl w rows n b' ll (EW cs ow b' row) {rfl,TP,B5.pk,SqL.of ell5,by rw[o8,B.pk.wd row<|θ er];have:=B.pk.sw;exact oA this rfl,λi ei hi hxw H6 P6 sb6=>?_,λz=>?_}
 have ei:=cg ei;subst ei;obtain⟨ts5,pl5,pt5⟩:=B5.pk.ls;obtain⟨dp5,hg5⟩:=B5.pk.ob
 have ap:=B5.bk.ap
 have gp_b:A.b≠A.gp:=by
  obtain⟨d5,hb5⟩:=B5.bk.ob;exact BH hb5 hg5 (NP (by simp[bf,pf]))
 have k6:∀ {y:Addr} {o:HO},H5 y=some o->y≠A.gp->y≠A.cl->H6 y=some o:=λe n1 n2=>sb6 _ _ e (by rintro (z|z);exact n1 z;exact n2 z)
 have notins:∀ {y:Addr} {o:HO},H5 y=some o->(∀ C d f,o≠.ins C d f)->y≠A.gp:=λe n=>BH e hg5<|n _ _ _
 have B6:DW a H6 A w (rows.set b'<|EW cs ow b' row) (n+1) cs ow:=by
  obtain⟨⟨b1,b2,b3,b4,b5,b6,b7,b8,b9,b10,b11,b12⟩,pk,nb⟩:=B5;obtain⟨dx',b1⟩:=b1;obtain⟨chs,b2,b2'⟩:=b2;obtain⟨kvs,b6,b6'⟩:=b6;obtain⟨kvo',b7,b7'⟩:=b7;refine{{{dx',k6 b1 gp_b (BH b1 pl5 (by intro z;cases z))},{chs,k6 b2 (notins b2 (by intro v v v z;cases z)) ap.2.2.2.1.symm,Paired.mapP b2' λx c h=>?_},k6 b3 (notins b3 (by intro v v v z;cases z)) ap.2.2.2.2.1.symm,λi l e=>k6 (b4 i l e) (notins (b4 i l e) (by intro v v v z;cases z)) (λz=>ap.2.2.2.2.2<|z ▸ θ e),b5,{kvs,k6 b6 (notins b6 (by intro v v v z;cases z)) (BH b6 pl5 (by intro z;cases z)),b6'},{kvo',k6 b7 (notins b7 (by intro v v v z;cases z)) (BH b7 pl5 (by intro z;cases z)),b7'},b8,b9,b10,b11,b12},P6,by rw[nb,jd]};revert h;apply u3;rintro dc p1 n1 ⟨h1,h2,h3⟩;exact x3 dc p1 n1 {k6 h1 (BH h1 hg5 (NP (by simp[GH,pf]))) (BH h1 pl5 (by intro z;cases z)),k6 h2 (notins h2 (by intro v v v z;cases z)) (BH h2 pl5 (by intro z;cases z)),k6 h3 (notins h3 (by intro v v v z;cases z)) (BH h3 pl5 (by intro z;cases z))}
 have ht5:=s5 _ _ ht4
 have ho5:=s5 _ _ ho4
 have hh5:=s5 _ _ hh4;refine q H6 {k6 ht5 (notins ht5 (by intro v v v z;cases z)) (BH ht5 pl5 (by intro z;cases z)),k6 ho5 (notins ho5 (by intro v v v z;cases z)) (λz=>fO<|.inr<|.inr<|.inr<|.inr<|.inr z),hs,k6 hh5 (notins hh5 (by intro v v v z;cases z)) (λz=>(B.off hhlH) (.inr<|.inr<|.inr<|.inr<|.inr z)),Paired.mapP hp4 λx p e=>?_} B6 λy o e ny=>(k6 (s5 _ _<|sb4 _ _ e λz=>ny<|.inl<|.inr<|.inr<|.inr<|.inr<|.inl z) (λz=>ny<|.inr z) (λz=>ny<|.inl<|.inr<|.inr<|.inr<|.inr<|.inr z))
 have e5:=s5 _ _ e;exact k6 e5 (notins e5 (by intro v v v z;cases z)) (BH e5 pl5 (by intro z;cases z));rcases z with z|z|z
 lia
 exact absurd (dn.mpr hbl) (La.mpr z);exact absurd (by rw[o8,B.pk.wd row<|θ er]) z
example:(zso,YA,qP,2):=by
 apply u8;rintro A w rows n cs outs k c ⟨rfl,T,B,ec,q⟩;obtain⟨dx,hb⟩:=B.bk.ob;refine u2 ?_<|B.bk.at ec;rintro xs p ⟨e1,e2,dx2,pl,nt,c1,c2,c3⟩;exact y3 {hb,T.cl,T.nM,_,JA,CY (SqL.of e1) rfl e2 (y3 {c1,T.cc,T.nP,_,oY,BB c2  rfl rfl q})}
structure Cm(cs:z8)(outs R:qW)(H0:Hp)(rw tk lf:Addr)(sofar lefts:t3)(kvt:tS)(H:Hp):Prop where
 sb:Same H0 H
 er:H rw=some (.lst<|AM sofar)
 et:H tk=some (.dK kvt)
 el:H lf=some (.lst<|AM lefts)
 nrt:H0 rw=none/\H0 tk=none/\rw≠lf
 lft:lefts=D1 cs.length (λx=>outs x||BY kvt x) R
 row:∀ CH,EX cs (λx=>outs x||BY kvt x) lefts CH->EX cs outs (D1 cs.length outs R) (sofar++CH)
 ks:KeysOk kvt cs.length
 sl:sofar.length+lefts.length<=cs.length
def zsp(kvs:tS)(k x:Int)(v:V):BY (CA kvs (.inl k) v) x=(BY kvs x||x==k):=by
 unfold BY;rw[HU];by_cases e:(uv x:AO)=.inl k
 ·cases e;simp
 have:¬ x=k:=λy=>e (by rw[y]);simp[this]
example:(zsq,TZ,vS,7):=by
 apply u8;rintro A w rows n cs outs nl ns ⟨rfl,T,B,hs,hl,q,qe⟩;refine{by decide,λrw hrw tk htk=>?_}
 have nrt:=BI AF htk
 have htkH:H tk=none:=by rw[AI nrt.symm]at htk;exact htk
 have s1:=(AL  hrw).trans (AL (o:=.dK []) htk)
 have er1:upd (upd H rw (.lst [])) tk (.dK []) rw=some (.lst []):=by rw[AI nrt,AF]
 have et1:upd (upd H rw (.lst [])) tk _ tk=some (.dK []):=AF;revert s1 er1 et1;intro s1 er1 et1
 have B1:=B.same s1;obtain⟨dx1,hb1⟩:=B1.bk.ob;refine y2 {hb1,CT (by decide),x8 A w _ n cs _ nl ns {rfl,T,B1,s1.seq hs,hl,λkn lf H2 R r1 r2 r3 hlf s2 elf=>?_,λbad=>qe bad _ s1}}
 have cR:KA cs _ ns R:=⟨r1,r2,r3⟩
 have csz:=B.bk.sz
 have llen:(D1 cs.length outs R).length<=cs.length:=by
  have h2:=cr (λ(k:Nat)=> !outs k) (ν cs.length);rw[cw]at h2;exact ω (cr (λ(k:Nat)=>R k) _) h2
 refine{λm σ H'=>∃ (lf:Addr) (sofar lefts:List _) (kvt:List _),Cm cs outs R H rw tk lf sofar lefts kvt H'/\lefts.length=m/\∃ y5 y6,σ=[some _,some _,some _,some _,some<|.ref lf,y5,y6],x5 _ lf [] _ [] {{(s1.trans s2),s2 _ _ er1,s2 _ _ et1,elf,{hrw,htkH,(λe=>by rw[<-e,er1]at hlf;cases hlf)},(by simp[VU,FT]),λCH h=>?_,{jr,by simp},by show 0+_<=_;rw[me];exact llen},rfl,x2 _ _ rfl},?_};simpa [BY,VU,FT]using h;rintro m σ H3 ⟨lf,sofar,lefts,kvt,I,hm,y5,y6,rfl⟩;push_cast[];refine{_,.inl {_,SqL.of I.el,rfl},?_};cases lefts with
 |nil =>
  have:=I.row [] .nil;rw[il]at this;exact q kn rw _ R H3 cR this (I.sl) hrw I.sb I.er
 | cons k r =>
  have hk:=NQ.mp (show k∈D1 cs.length (λx=>outs x||BY kvt x) R by rw[<-I.lft];exact χ ..)
  have ec:=η hk.1;revert ec;generalize cs[k]=c;intro ec
  have B3:=B.same I.sb;obtain⟨dx3,hb3⟩:=B3.bk.ob;refine{λσ' H'=>∃ (lf':Addr) (lefts':t3) (kvt':tS),Cm cs outs R H rw tk lf' (sofar++[c.blk]) lefts' kvt' H'/\lefts'.length<m/\∃ y5 y6,σ'=[some (.ref A.b),some<|.ref nl,some<|.ref rw,some<|.ref tk,some<|.ref lf',y5,y6],λσ' H' ⟨lf',lefts',kvt',I',A0,y5,y6,e⟩=>{_,A0,x3 lf' _ lefts' {⟨kvt',I'⟩,rfl,x2 y5 y6 e}},?_};obtain⟨g1,g2,g3⟩:=I.nrt;refine y2 {hb3,CT (by decide +kernel),CY (SqL.of I.el) (n:=0) (v:=.int k) rfl rfl (x8 A w rows n cs outs k c {rfl,T,B3,ec,?_})};push_cast[↓vP_]
  have sl:=I.sl;rw[de]at sl;refine{.inl {rfl,_,SqL.of I.er},_,I.er,ψ (show(AM sofar).length<1000 by unfold AM;rw[ζ];lia) (by decide),?_}
  have s4:Same H (upd H3 rw (.lst<|AM sofar++[.int c.blk])):=λy o e=>by rw[AI (BI e hrw)];exact I.sb _ _ e
  have LX:upd H3 rw (.lst<|AM sofar++[.int c.blk]) rw=some (.lst<|AM<|sofar++[c.blk]):=by rw[AF];simp[AM]
  have et4:upd H3 rw (.lst<|AM sofar++[.int c.blk]) tk=some (.dK kvt):=by rw[AI nrt.symm];exact I.et
  have el4:upd H3 rw (.lst<|AM sofar++[.int c.blk]) lf=some (.lst<|AM (k::r)):=by rw[AI g3.symm];exact I.el
  revert s4 LX et4 el4;intro s4 LX et4 el4
  have B4:=B.same s4;obtain⟨dx4,hb4⟩:=B4.bk.ob;refine y2 {hb4,CT (by decide +kernel),x9 A w rows n cs outs c.blk tk kvt {rfl,T,B4,(by rw[<-B.nb];exact(B.bk.inn c<|θ ec).1),et4,oA (ω I.ks.len csz) rfl,λt ol hl5 H5 hol hhl nol s5 told=>BB told.1 (n:=0) rfl rfl (.inl {{_,SqL.of told.2.1},?_})}}
  have eo:=told.2.1;rw[zg8]at eo
  have oW:∀ x:Int,C3 cs (λx=>outs x||BY kvt x) c.blk x=((outs x||BY kvt x)||(outcome cs (λx=>outs x||BY kvt x) (λ_=>false) c.blk).out.any λ(k:Nat)=>x ==(k:Int)):=λx=>rfl;obtain⟨o1,o2,_⟩:=TC (cs:=cs) (outs:=λx=>outs x||BY kvt x) (b:=c.blk);generalize (outcome cs (λx=>outs x||BY kvt x) (λ_=>false) c.blk).out=out at eo o1 o2 oW
  have et5:=s5 _ _ et4
  have er5:=s5 _ _ LX
  have el5:=s5 _ _ el4
  have s45:=s4.trans s5
  have ntk:ol≠tk:=λe=>by rw[e,et4]at hol;cases hol
  refine EV (xs:=out.map λ(k:Nat)=>V.int k) (λq σ H'=>(∃ kv:tS,H'=upd H5 tk (.dK kv)/\(∀ x,BY kv x=(BY kvt x||(out.take q).any λ(k:Nat)=>x ==(k:Int)))/\KeysOk kv cs.length)/\∃ y6,σ=[some (.ref A.b),some<|.ref nl,some<|.ref rw,some<|.ref tk,some<|.ref lf,some<|.int c.blk,y6]) {{kvt,?_,by simp,I.ks},_,rfl} (λq σ H' _ {⟨kv,e,_⟩,_}=>by rw[e];exact SqL.of (by rw[AI ntk];exact eo)) (λq x σ H' hx hzz=>?_) (λσ H' hzz=>?_)
  ·funext y;by_cases e:y=tk
   ·subst e;rw[AF];exact et5
   ·rw[AI e]
  ·obtain⟨⟨kv,e,hkv,hks⟩,y6,ez⟩:=hzz;subst e;subst ez;rw[τ,aa]at hx;obtain⟨x',hx',rfl⟩:=hx
   have E8:=hks.len
   have et:out.take (q+1)=out.take q++[x']:=by
    obtain⟨h1,h2⟩:=ε.mp hx';rw[<-h2,ki]
   obtain⟨q1,q2⟩:=o2 x'<|θ hx'
   have hxn:x'<cs.length:=S6 q2
   have hno:BY kv x'=false:=by
    rw[hkv,(h_.mp q1).2,xu];cases h:(out.take q).any λ(k:Nat)=>(x':Int) ==(k:Int)with
    |false=>rfl
    |true =>
     exfalso;obtain⟨y,hy,e⟩:=dq.mp h
     have e:x'=y:=by have:=eq_of_beq e;exact cg this
     obtain⟨h1,h2⟩:=ε.mp hx'
     have rise:=o1;rw[<-iu q out,io h1,h2]at rise
     have:=(zx.mp rise).2.2 y hy x' (χ ..)
     lia
   push_cast[↓vQ_];refine{_,pI AF<|oC (ω E8 csz) rfl,CA kv (.inl x') (.bl true),GA,λx=>?_,hks.put hxn (by simpa [BY]using hno) _};rw[zsp,hkv,et,Je];simp[kj]
  ·obtain⟨⟨kv,e,hkv,hks⟩,y6,ez⟩:=hzz;subst e;subst ez;rw[ζ,bz]at hkv
   have s6:Same H (upd H5 tk<|.dK kv):=λy o e=>by rw[AI (BI e htkH)];exact s45 _ _ e
   have er6:upd H5 tk (.dK kv) rw=some (.lst<|AM<|sofar++[c.blk]):=by rw[AI nrt];exact er5
   have et6:upd H5 tk (.dK kv) tk=some (.dK kv):=AF
   have el6:upd H5 tk (.dK kv) lf=some (.lst<|AM (k::r)):=by rw[AI (BH el5 et5 (by intro z;cases z))];exact el5
   revert s6 er6 et6 el6;generalize upd H5 tk (.dK kv)=H6;intro s6 er6 et6 el6
   have eJ:(λx=>outs x||BY kv x)=C3 cs (λx=>outs x||BY kvt x) c.blk:=by funext x;rw[oW,hkv,kj]
   have hll:(AM (k::r)).length<=1000:=by unfold AM;rw[ζ,de];lia
   push_cast[↓vR_];refine .inl {{_,SqL.of el6},WU (λv=>match v with|.int x=> !BY kv x|_=>false) (CC _<|oA hll rfl) (SqL.of el6) (λv hv QB qb=>?_) λl2 C9=>?_}
   ·obtain⟨x,_,rfl⟩:=av.mp hv;push_cast[CO];exact{_,dI et6,qb}
   ·have ef:(AM (k::r)).filter (λv=>match v with|.int x=> !BY kv x|_=>false)=AM ((k::r).filter λ(x:Nat)=> !BY kv x):=by
     unfold AM;rw[zd]
     rfl
    rw[ef]
    have e2:(k::r).filter (λ(x:Nat)=> !BY kv x)=(k::r).filter λ(x:Nat)=> !C3 cs (λx=>outs x||BY kvt x) c.blk x:=ud λx hx=>by
     rw[I.lft]at hx
     have:=(h_.mp (NQ.mp hx).2.1).1;rw[<-eJ]
     show(!BY kv x)= !(outs x||BY kv x);rw[this,xu]
    have e3:(k::r).filter (λ(x:Nat)=> !BY kv x)=D1 cs.length (λx=>outs x||BY kv x) R:=by rw[e2,I.lft,pK,eJ]
    have k1:C3 cs (λx=>outs x||BY kvt x) c.blk k=true:=pL (λk c e=>(B.bk.need k c e).1) (λk c e ho=>cR.up k c e (h_.mp ho).1) I.lft.symm ec
    have short:((k::r).filter λ(x:Nat)=> !BY kv x).length<(k::r).length:=by
     rw[e2];exact zhb (χ ..) (by rw[k1];rfl)
    have nl2:rw≠l2:=BI er6 C9;refine x2 l2 _ {{kv,{s6.trans<|AL C9,AL C9 _ _ er6,AL C9 _ _ et6,AF,⟨g1,g2,nl2⟩,e3,λCH hr=>?_,hks,?_}},by lia,rfl}
    ·rw[dw];refine I.row _<|.cons ec ?_;rw[<-e2,<-eJ];exact hr
    ·rw[af,ir];rw[de]at short
     lia
example:(zsr,XY,rO,5):=by
 apply u6;rintro p dx n r c w ⟨rfl,T,hp,b1,b2,b3,b4,b5,q⟩;refine y3 {hp,T.cl,T.n1,by decide,y3 {AF,T.cl,T.n2,J0 (by decide),y3 {AF,T.cl,T.n3,J0  (oy (J0  (by decide))),y3 {AF,T.cl,T.n4,(J0  (oy (J0  (oy (J0  (by decide)))))),?_}}}};rw[GA,GA,GA];exact q _ {⟨dx,AF⟩,b1,b2,b3,b4,b5} λb o e hb=>by rw[AI hb];exact e
example:(zss,MH,rR,3):=by
 apply u7;rintro p n r c w k b ⟨rfl,T,L,q⟩;obtain⟨dx,e⟩:=L.ob
 have:=L.h1
 have:=L.hw;refine y3 {e,T.cl,T.n4,_,NR,({{by lia,by lia},y3 {e,T.cl,T.n4,_,NR,?_}})};push_cast[];exact{by lia,by decide,q}
example:(zst,KB,uJ,2):=by
 apply u6;rintro p n r c w k ⟨rfl,T,L,q⟩;obtain⟨dx,e⟩:=L.ob;exact y2 {e,B8,x7 p n r c w k 0 ⟨rfl,T,L,q⟩}
example:(zsu,HD,uK,2):=by
 apply u6;rintro p n r c w k ⟨rfl,T,L,q⟩;obtain⟨dx,e⟩:=L.ob;exact y2 {e,B8,y3 {e,T.cl,T.n1,_,TK,x7 p n r c w k _ ⟨rfl,T,L,q⟩}}
example:(zsv,MI,uL,2):=by
 apply u6;rintro p n r c w k ⟨rfl,T,L,q⟩;obtain⟨dx,e⟩:=L.ob;exact y2 {e,B8,y3 {e,T.cl,T.n1,_,TK,y3 {e,T.cl,T.n2,_,QE,(x7 p n r c w k _ ⟨rfl,T,L,q⟩)}}}
example:(zsw,KC,uM,2):=by
 apply u6;rintro p n r c w k ⟨rfl,T,L,q⟩;obtain⟨dx,e⟩:=L.ob;exact y2 {e,B8,y2 {e,B8,x5 p n r c w {rfl,T,L,x7 p n r c w k _ ⟨rfl,T,L,q⟩}}}
example:(zsx,KD,uN,2):=by
 apply u6;rintro p n r c w k ⟨rfl,T,L,q⟩;obtain⟨dx,e⟩:=L.ob;exact y2 {e,B8,y2 {e,B8,x5 p n r c w {rfl,T,L,y3 {e,T.cl,T.n2,_,QE,(x7 p n r c w k _ ⟨rfl,T,L,q⟩)}}}}
example:(zsy,QF,rQ,1):=by
 apply u5;rintro p n r c w ⟨rfl,T,L,q⟩;obtain⟨dx,e⟩:=L.ob;exact y3 {e,T.cl,T.n1,_,TK,y3 {e,T.cl,T.n2,_,QE,(y3 ⟨e,T.cl,T.n3,_,XX,q⟩)}}
example:(zsz,XZ,uO,1):=by
 apply u5;rintro p n r c w ⟨rfl,T,L,q⟩;obtain⟨dx,e⟩:=L.ob;exact y2 {e,B8,x5 p n r c w {rfl,T,L,y3 {e,T.cl,T.n2,_,QE,(y3 ⟨e,T.cl,T.n3,_,XX,q⟩)}}}
example:(zs0,MJ,rP,1):=by
 apply u5;rintro p n r c w ⟨rfl,T,L,q⟩;obtain⟨dx,e⟩:=L.ob;obtain⟨z,b1,b2,b3,b4,b5⟩:=L;refine y3 {e,T.cl,T.n1,_,TK,y3 {e,T.cl,T.n4,_,NR,({.inl {i0,by lia},y3 {e,T.cl,T.n2,_,QE,y3 {e,T.cl,T.n4,_,NR,({.inl {i0,by lia},y3 {e,T.cl,T.n3,_,XX,y3 {e,T.cl,T.n4,_,NR,?_}}})}}})}};push_cast[];exact{.inl {i0,by lia},by decide,q}
example:(zs1,X0,vW,1):=by
 apply u5;rintro p n r c w ⟨rfl,T,TP,L,q⟩;obtain⟨dx,e⟩:=L.ob
 have LL:=L;obtain⟨z,b1,b2,b3,b4,b5⟩:=L;refine y2 {e,B8,x5 p n r c w {rfl,T,LL,y3 {e,T.cl,T.n4,_,NR,λx dx' hx RJ hne=>?_}}}
 have s3:Same H (upd (upd H _<|.own x) x (.ins (a "Plank") dx' [])):=(AL RJ).trans (AL (by rw[AI hne.symm];exact hx));refine x4 x _ _ w {rfl,TP,AF,by lia,b4,oA b5 rfl,λcl H2 BC P2 s4=>{rfl,q x cl H2 hx (s3.free BC) P2 λb o eb=>s4 _ _ (s3 _ _ eb) (BI eb hx)}}
def zs2(hi:i<m)(h:f i=true)(hl:∀ j<i,f j=false):EN f m=i:=by
 unfold EN
 have:(ν m).find? f=some i:=by
  obtain⟨d,rfl⟩:=ia<|show i+1<=m from hi;rw[lb];refine{h,x2 (ν i) ((ν d).map (i+1+·)) {?_,λj hj=>by rw[hl j (ak.mp hj)];rfl}};rw[d_,wt,wt];simp[d_,Ga]
 rw[this]
def zs3(hl:∀ j<m,f j=false):EN f m= -1:=by
 unfold EN
 have:(ν m).find? f=none:=jv.mpr λj hj=>by rw[hl j (ak.mp hj)];exact ax
 rw[this]
def zs4(hx:∀ z∈xs,T2 z)(hv:GoodV n H v)(hf:HQ v=true):NC v xs=decide (v∈xs):=by
 rw[jf,decide_eq_true_iff];unfold NC
 have key:∀ z,T2 z->(G9 z v=true↔z=v):=λz hz=>by
  rcases hz with rfl|⟨i,rfl⟩<;>(cases v<;>first|(simp[G9];done)|(cases n<;>exact hv.elim)|(simp[HQ]at hf))
 rw[dq];constructor;rintro ⟨z,hz,e⟩;rw[<-(key z<|hx z hz).mp e];exact hz;exact λh=>{v,h,(key v<|hx v h).mpr rfl}
def D3(H H':Hp):Prop:=∀ b xs,H b=some (.tup xs)->H' b=some (.tup xs)
theorem GoodV.keep(k:D3 H H'):∀ {n:Nat} {v:V},GoodV n H v->GoodV n H' v
 |0,_,h=>h
 |_+1,.int _,_=>trivial
 |_+1,.non,_=>trivial
 |_+1,.str _,h=>h
 |n+1,.ref p,⟨xs,h1,h2,h3⟩=>{xs,k _ _ h1,h2,λv hv=>(h3 v hv).keep k}
def Same.tk{H H':Hp}(s:Same H H'):D3 H H':=λb xs e=>s _ _ e
def zs5(hg:GoodV 4 H v)(hv:H vl=some (.tup xs))(hx:∀ z∈xs,T2 z)(q:Q (.bl<|decide<|v∈xs) H):PY K v (.ref vl) H Q:=by
 have flat:HQ v=true->PY K v _ H Q:=λhf=>.inl ⟨vl,xs,rfl,.inr<|SqT.of hv,hf,(jo.mpr λz hz=>by rcases hx z hz with rfl|⟨i,rfl⟩<;>rfl),by
  rw[zs4 hx hg hf];exact q⟩
 cases v with
 |ref t =>
  have:decide ((V.ref t)∈xs)=false:=decide_eq_false λhm=>by rcases hx _ hm with z|⟨i,z⟩<;>cases z
  obtain⟨ys,e,y⟩:=hg;rw[this]at q;exact .inr<|x4 t ys vl xs {rfl,SqT.of e,rfl,SqT.of hv,hx,q}
 |int i=>exact flat rfl
 |non=>exact flat rfl
 |str z=>exact flat rfl
 |_=>exact hg.elim
example:(zs6,NT,wN,5):=by
 apply OO;rintro A w rows n cs outs pl vl ts xs f m ⟨rfl,T,TP,B,hp,hm,hm2,hv,hx,hf,q,qe⟩;obtain⟨dx,ho⟩:=B.bk.ob;refine{{_,SqL.of hp},WZ  (λi σ H'=>(Same H H'/\∀ j<i,f j=false)/\∃ x y,σ=[some _,some _,some _,x,y]) {{Same.refl _,λj hj=>absurd hj<|jx _},x2 _ _ rfl} (by rintro i σ H' u ⟨⟨s,u⟩,u⟩;exact SqL.of<|s _ _ hp) (λi x σ H' t hx' hzz ht=>?_) (λσ H' hzz=>?_)};obtain⟨⟨s,lo⟩,x0,y0,rfl⟩:=hzz;rw[τ]at hx';cases et:ts[i]? with
 |none=>rw[et]at hx';cases hx'
 | some tt =>
  rw[et]at hx';obtain rfl:=μ hx';refine u3 ?_<|hf i tt et;rintro bi bj v ⟨e1,on,ev,gv,ef⟩
  have s2:=s.trans<|AL (o:=.tup [.int i,.ref tt]) ht;refine{_,SqT.of AF,rfl,?_};revert s2;refine λs2=>y2 {s2 _ _ ho,CT,x9 A w _ n cs _ tt bi bj {rfl,T,TP,B.same s2,s2 _ _ e1,λu v' H3 ev' s3=>?_,λz=>absurd on z}};rw[ev]at ev';obtain rfl:=μ ev'
  have s4:=s2.trans s3;refine zs5 (gv.keep s4.tk) (s4 _ _ hv) hx ?_;rw[<-ef];push_cast[];cases hfi:f i with
  |true=>exact q i (zs2 (hm ▸ ((ε.mp et).1)) hfi lo) _ s4
  |false=>exact⟨s4,λj hj=>by
    rcases eq j i with z|z
    exact lo j z;rw[show j=i by exact j_ (fg hj) z];exact hfi⟩
 obtain⟨⟨s,lo⟩,x0,y0,ez⟩:=hzz;rw[ζ,hm]at lo;exact{by decide,qe (zs3 lo) _ s}
def aL{m w:Nat}{B:Nat->Int}{te:TE}{A7:t3}{σ:St}{H:Hp}{Q:VK}(hm:m<=1000)(ht:∀ i H' Q',i<m->Same H H'->GZ (B i) (i%w:Nat) Q' H'->te (some (.int<|0+(i:Int))::CO A7 σ) H' Q')
  (q:∀ (ts:tW) (H':Hp) (l:Addr),ts.length=m->Same H H'->(∀ k t,ts[k]? =some t->H' t=some (.tup [.int (B k),.int (k%w:Nat)]))->H' l=some (.lst<|ts.map V.ref)->Q (.ref l) H'):D8 (FO 0 m) (AE 0) CP te 1 A7 σ H Q:=by
 refine K5 (CC m<|oA hm rfl) (λi ys H'=>Same H H'/\∃ ts:List _,ys=ts.map V.ref/\ts.length=i/\∀ k t,ts[k]? =some t->H' t=some (.tup [.int (B k),.int<|k%w])) {Same.refl _,[],rfl,rfl,λk t h=>by simp at h} (λi ys H' hi hl hzz=>?_) λys H' hl hzz l hl'=>?_;obtain⟨s,ts,e,el,h⟩:=hzz;refine ht i H' _ hi s λt htn=>?_
 have st:=AL (o:=.tup [.int (B i),.int<|i%w]) htn;refine{s.trans st,ts++[t],by rw[e,ai];rfl,by simp[el],λk t' hk=>?_};rcases eq k _ with z|z
 rw[ba z]at hk;exact st _ _<|h k t' hk;rw[cf z]at hk
 have hk0:k-ts.length=0:=by
  rcases ma _ with z|z
  exact z;rw[bt (z)]at hk;cases hk
 rw[hk0]at hk;obtain rfl:=μ hk
 have:k=i:=by lia
 subst this;exact AF;obtain⟨s,ts,rfl,el,h⟩:=hzz
 have st:=AL (o:=.lst<|ts.map V.ref) hl';exact q ts _ l (by simpa using hl) (s.trans st) (λk t hk=>st _ _<|h k t hk) AF
def Cp{rows:sT}{w i j:Nat}(hw:∀ r∈rows,r.length=w)(hi:i<rows.length)(hj:j<w)(cs:z8):∃ v,EM cs rows i j=some v:=by
 unfold EM;cases e:DR cs i j with
 |some k =>
  exact{_,by show(cs[k]?).map _=_;rw[η (MF e)];rfl}
 |none =>
  have er:=η hi;exact{_,by rw[b_,er];exact η<|Nat.lt_of_lt_of_eq hj (hw _<|θ er).symm}
def zs7{n r c w kind k:Nat}(hk:kind<3)(h:k<BJ n r c w kind):BG n r c w kind k<n+r+c+r+c:=by
 unfold BG
 have hd:=kf (by rw[da];exact h);rcases(c3 hk)with z|z|z<;>subst z<;>simp at hd ⊢ <;>lia
def Cq{n r c w kind k:Nat}(h:k<BJ n r c w kind):1<=w:=by
 rcases ma w with z|z
 rw[z]at h;exact nZ h;exact z
def UO{n r c w kind:Nat}(h1:n<=6)(h2:r<=6)(h3:c<=6)(h4:w<=6):BJ n r c w kind<=36:=by
 have h:(if kind=0 then n else if kind=1 then r else if kind=2 then c else if kind=3 then r else c)<=6:=by
  split<;>(try split)<;>(try split)<;>(try split)<;>lia
 exact gy h h4
def Q6(kind:Nat):Oq:=if kind=0 then [.non]else [.non,.int 0]
def zs8(kind:Nat)(v:V):decide (v∈Q6 kind)=LC kind v:=by
 unfold Q6 LC;by_cases h:kind=0;subst h;simp;rw[if_neg h];simp[ss h]
def aM{kind:Nat}{A:BA}{n r c w:Nat}{rows:sT}{nn:Nat}{cs:z8}{outs:qW}{ts:tW}{l:Addr}{H':Hp}(hk:kind<3)(T:TB K a)(TP:DL K a)(s:Same H H')(B:DW a H A w rows nn cs outs)(hM:rows.length=n+r+c+r+c)(h1:n<=6)(h2:r<=6)(h3:c<=6)(h4:w<=6)
  (gh:∀ i j v,EM cs rows i j=some v->GoodV 4 H v) (hts:ts.length=BJ n r c w kind) (ht:∀ k t,ts[k]? =some t->H' t=some (.tup [.int (BG n r c w kind k:Nat),.int (k%w:Nat)])) (el:H' l=some (.lst<|ts.map V.ref))
  (q:∀ k:Nat,EN (MM cs rows n r c w kind) (BJ n r c w kind)=k->∀ H',Same H H'->Q (.int k) H') (qe:EN (MM cs rows n r c w kind) (BJ n r c w kind)= -1->∀ H',Same H H'->E (.ref<|a "NoRoom") none H') :
  ∀ u,H' u=none->NT K a [.ref A.b,.ref l,.ref u] (upd H' u<|.tup<|Q6 kind) Q E:=λu hu=>by
 have su:=AL (o:=.tup<|Q6 kind) hu
 have s2:=s.trans su;refine ON A w _ nn cs _ l u ts _ _ _ {rfl,T,TP,B.same s2,su _ _ el,hts,oA (UO  h1 h2 h3 h4) rfl,AF,λz hz=>?_,λk t hkt=>?_,λk hk' H3 s3=>q k hk' H3<|s2.trans s3,λhk' H3 s3=>qe hk' H3<|s2.trans s3};unfold Q6 at hz;split at hz<;>simp at hz;exact .inl hz;rcases hz with z|z
 exact .inl z;exact .inr {0,z}
 have A0:=hts ▸ ((ε.mp hkt).1)
 have hb:=zs7 hk A0
 have hj:k%w<w:=sr _<|(Cq A0);obtain⟨v,ev⟩:=Cp (λr' hr'=>B.pk.wd r' hr') (show BG n r c w kind k<rows.length by lia) hj cs;refine x3 _ _ v {su _ _<|ht k t hkt,{i0,dn.mpr<|hM ▸ hb,i0,dn.mpr hj},ev,(gh _ _ _ ev).keep s2.tk,?_};unfold MM;rw[ev,zs8]
example:(zs9,T5,Z5,3):=by
 apply u2;rintro p b ⟨rfl,A,n,r,c,w,rows,nn,cs,outs,rfl,T,TP,TL,L,h1,h2,h3,h4,B,hM,gh,q,qe⟩;obtain⟨dx,e⟩:=L.ob;push_cast[Z5,↓xE_];refine y2 {e,B8,x5 p n r c w {rfl,TL,L,λt ht=>?_}}
 have s1:=AL (o:=.tup [V.int (n*w),V.int<|r*w,V.int<|c*w]) ht;refine BB AF  rfl rfl ?_;revert s1
 have hk:=UO (kind:=0) h1 h2 h3 h4
 have em:n*w=(BJ n r c w 0):=by unfold BJ;simp
 refine λs1=>{i0,by lia,aL   (oA hk rfl) (λi H' Q' hi s' q'=>(y2 {s' _ _<|s1 _ _ e,B8,x6 p n r c w i {(by simp),TL,(L.same s1).same s',?_}})) λts H' l hts s' htt el=>{by decide,aM  (by decide) T TP (s1.trans s') B hM h1 h2 h3 h4 gh hts htt el q qe}}
 exact q'
example:(zta,YB,Z6,3):=by
 apply u2;rintro p b ⟨rfl,A,n,r,c,w,rows,nn,cs,outs,rfl,T,TP,TL,L,h1,h2,h3,h4,B,hM,gh,q,qe⟩;obtain⟨dx,e⟩:=L.ob;push_cast[Z6,↓xF_];refine y2 {e,B8,x5 p n r c w {rfl,TL,L,λt ht=>?_}}
 have s1:=AL (o:=.tup [V.int (n*w),V.int<|r*w,V.int<|c*w]) ht;refine BB AF  rfl rfl ?_;revert s1
 have hk:=UO (kind:=1) h1 h2 h3 h4
 have em:r*w=(BJ n r c w 1):=by unfold BJ;simp
 refine λs1=>{i0,by lia,aL   (oA hk rfl) (λi H' Q' hi s' q'=>(y2 {s' _ _<|s1 _ _ e,B8,x6 p n r c w i {(by simp),TL,(L.same s1).same s',?_}})) λts H' l hts s' htt el=>{by decide,aM  (by decide) T TP (s1.trans s') B hM h1 h2 h3 h4 gh hts htt el q qe}}
 exact q'
example:(ztb,YC,Z7,3):=by
 apply u2;rintro p b ⟨rfl,A,n,r,c,w,rows,nn,cs,outs,rfl,T,TP,TL,L,h1,h2,h3,h4,B,hM,gh,q,qe⟩;obtain⟨dx,e⟩:=L.ob;push_cast[Z7,↓xG_];refine y2 {e,B8,x5 p n r c w {rfl,TL,L,λt ht=>?_}}
 have s1:=AL (o:=.tup [V.int (n*w),V.int<|r*w,V.int<|c*w]) ht;refine BB AF  rfl rfl ?_;revert s1
 have hk:=UO (kind:=2) h1 h2 h3 h4
 have em:c*w=(BJ n r c w 2):=by unfold BJ;simp
 refine λs1=>{i0,by lia,aL   (oA hk rfl) (λi H' Q' hi s' q'=>(y2 {s' _ _<|s1 _ _ e,B8,x6 p n r c w i {(by simp),TL,(L.same s1).same s',?_}})) λts H' l hts s' htt el=>{by decide,aM  (by decide) T TP (s1.trans s') B hM h1 h2 h3 h4 gh hts htt el q qe}}
 exact q'
theorem Cv:∀ {n:Nat} {v:V},GoodV n H v->∃ d,Dat K H n v d
 |_+1,.int i,_=>{_,Dat.int i}
 |_+1,.non,_=>⟨_,Dat.non⟩
 |_+1,.str z,h=>{_,.str z,h,bv _}
 | n+1,.ref p,⟨xs,h1,h2,h3⟩=>by
  have:∀ (l:Oq),(∀ v∈l,GoodV n H v)->∃ ds,Paired _ l ds:=λl=>by
   induction l with
   |nil=>exact λy=>{[],.nil}
   |cons x r ih =>
    intro h;obtain⟨d,hd⟩:=Cv<|h x<|χ ..;obtain⟨ds,hds⟩:=ih λv hv=>h v<|ρ _ hv;exact{_,.cons hd hds}
  obtain⟨ds,hds⟩:=this xs h3;exact{_,Dat.tup (SqT.of h1) hds}
def Cw(h:∀ v∈l,GoodV n H v):∃ ds,Paired (Dat K H n) l ds:=by
 induction l with
 |nil=>exact{[],.nil}
 |cons x r ih =>
  obtain⟨d,hd⟩:=Cv  (h x<|χ ..);obtain⟨ds,hds⟩:=ih λv hv=>h v<|ρ _ hv;exact{_,.cons hd hds}
def Cy{cs:z8}{rows:sT}(g:goodH H cs rows){i j:Int}{v:V}(h:EM cs rows i j=some v):GoodV 4 H v:=by
 unfold EM at h;cases e:DR cs i j with
 |some k =>
  rw[e]at h
  have h:(cs[k]?).map _=some v:=h;cases ec:cs[k]? with
  |none=>rw[ec]at h;cases h
  |some c =>
   rw[ec]at h;obtain rfl:=μ h;exact g.2 c<|θ ec
 |none =>
  rw[e]at h;cases er:rows[i.toNat]? with
  |none=>rw[er]at h;cases h
  |some r =>
   rw[er]at h;exact g.1 r (θ er) v (θ h)
def goodH.keep(g:goodH H cs rows)(k:D3 H H'):goodH H' cs rows:={λr hr v hv=>(g.1 r hr v hv).keep k,λc hc=>(g.2 c hc).keep k}
def ztc{cs:z8}{rows:sT}{i j:Int}{bi bj:Nat}{v:V}{nd:sZ}:EM (cs++[⟨bi,bj,v,nd⟩]) rows i j=if(bi:Int)=i/\(bj:Int)=j then some v else EM cs rows i j:=by
 unfold EM;rw[XM];by_cases h:bi=i/\bj=j;rw[if_pos h,if_pos h];simp;rw[if_neg h,if_neg h];cases e:DR cs i j with
 |none=>rfl
 |some k =>
  show((cs++[_])[k]?).map _=(cs[k]?).map _;rw[ba (MF e)]
def KK{G:zV}{H H':Hp}(s:SameBut G H H')(g:∀ x,G x->FF (H x)):D3 H H':=λb xs e=>s _ _ e λz=>(g _ z).1 _ e
def aN{p p':Addr}{xs:Oq}(h1:SqL K H p xs)(h2:SqL K H p' xs)(hg:∀ v∈xs,GoodV 4 H v)(q:Q (.bl false) H):K4 K (.ref p) (.ref p') H Q:=by
 obtain⟨ds,D⟩:=Cw  hg;exact zb4  (by decide) (Dat.lst h1 D) (Dat.lst h2 D) q
def Cz{z:Str}{i:Int}{n:Nat}{c:Nat}{Q:VK}(hi:i=n)(hL:z.cps.toList.length<=1000)(hc:z.cps.toList[n]? =some c)(q:Q (.str {#[c]}) H):BX K (.str z) (.int i) H Q:=by
 subst hi;exact .inr (.inr (x3 z n c {rfl,rfl,ω (hL) (CC _ (by decide)),VO hc,q}))
def ztd:[c]<(bg " ").cps.toList↔c<32:=by
 rw[show(bg _).cps.toList=[32] by decide +kernel,mw];simp
def zte:(bg "~").cps.toList<[c]↔126<c:=by
 rw[show(bg _).cps.toList=[126] by decide +kernel,mw];simp
def ztf:[c]<(bg "a").cps.toList↔c<97:=by
 rw[show(bg _).cps.toList=[97] by decide +kernel,mw];simp
def ztg:(bg "z").cps.toList<[c]↔122<c:=by
 rw[show(bg _).cps.toList=[122] by decide +kernel,mw];simp
example:(zth,YD,ZF,1,h):=by
 obtain⟨c,rfl,q⟩:=h;push_cast[ZF,↓rE_,ztd,zte];unfold LD at q;split;rename_i h1;split;rename_i h2;rw[decide_eq_true (cj h1),decide_eq_true<|cj h2]at q
 have e:(!decide (((#[c].getD 0 0):Int)=37))=decide (c≠37):=by
  rw[show(#[c]).getD 0 0=c from rfl,<-decide_not];exact decide_eq_decide.mpr (by lia)
 refine{rfl,?_};rw[e];exact q;rw[show decide (c<=126)=false from decide_eq_false (by lia)]at q;simpa using q;rw[decide_eq_false (by lia)]at q;exact q
def Db(hz:z.length<=1000)(ht:∀ c (Q':VK),Q' (.bl<|f c) H->te [some (.str {#[c]})] H Q')(q:∀ H',Same H H'->Q (.bl<|z.cps.toList.all f) H') :
  D8 (PK z) (AE 0) CP te 1 [] [some (.str z)] H λx H1=>NH K [x] H1 Q:=by
 refine zat (CC _<|oA hz rfl) (λi ys H'=>H'=H/\ys=(z.cps.toList.take i).map λc=>V.bl<|f c) ⟨rfl,rfl⟩ (λi c ys H' hc hl hzz=>?_) (λys H' hl hzz p hp=>?_);obtain⟨rfl,e2⟩:=hzz
 have hc':z.cps.toList[i]? =some c:=by simpa using hc
 refine ht c _ {rfl,?_};rw[ci,hc',e2];simp;obtain⟨rfl,e2⟩:=hzz
 have e3:ys=(z.cps.toList.map f).map V.bl:=by
  rw[e2,oq,dz (by simp)];rfl
 refine x2 p _ {rfl,by rw[<-e3];exact SqL.of AF,?_};rw[Es];exact(q _<|AL  hp)
example:(zti,YE,ZG,1,h):=by
 obtain⟨z,rfl,hz,q⟩:=h;push_cast[ZG,↓rF_];unfold BO at q;refine{_,{CC _<|oA hz rfl,rfl},?_};split;rename_i h1;rw[decide_eq_true (by exact dn.mp h1)]at q;by_cases h2:z.length<=8;rw[decide_eq_true h2]at q;rw[if_pos (by lia)];refine Db hz (λc Q' q'=>?_) q;push_cast[ztf,ztg];unfold QI at q';split;rename_i h3;rw[decide_eq_true (cj h3)]at q';rw[show(!decide _)=decide (c<=122) by rw[<-decide_not];exact decide_eq_decide.mpr (by lia)];exact q';rw[decide_eq_false (by lia)]at q';exact q';rw[decide_eq_false h2]at q;rw[if_neg (by exact λz=>h2<|vx.mp z)];exact q _<|Same.refl _;rename_i h1;rw[decide_eq_false (λz=>h1<|vx.mpr z)]at q;exact q _<|Same.refl _
example:(ztj,YF,ZS,1,h):=by
 obtain⟨z,rfl,hz,q⟩:=h;push_cast[ZS,↓uD_];unfold IB at q;refine{_,{CC _<|oA hz rfl,rfl},?_};split;rename_i h1;rw[decide_eq_true (by exact dn.mp h1)]at q;by_cases h2:z.length<=40;rw[decide_eq_true h2]at q;rw[if_pos (by lia)];exact Db hz (λc Q' q'=>⟨c,rfl,q'⟩) q;rw[decide_eq_false h2]at q;rw[if_neg (by exact λz=>h2<|vx.mp z)];exact q _<|Same.refl _;rename_i h1;rw[decide_eq_false (λz=>h1<|vx.mpr z)]at q;exact q _<|Same.refl _
def UP(x:Int){n:Nat}(h:1<=n):∃ b:Nat,x%(n:Int)=b/\b<n :=
 ⟨_,(gr (ve x (show(n:Int)≠0 by exact λz=>iz h<|cg z))).symm,by
  have:=rj x (show(0:Int)<n by exact dn.mpr h)
  lia⟩
section
variable{lp b tk:Addr}
def IG:(sf lp b tk).lookup ("plan":Str)=some (V.ref lp):=by simp[sf]
def HH:(sf lp b tk).lookup ("book":Str)=some (V.ref b):=by
 simp[sf,ao,A9 (a:="book") (b:="plan") (by decide)]
def aO:(sf lp b tk).lookup ("taken_out":Str)=some (V.ref tk):=by
 simp[sf,ao,A9 (a:="taken_out") (b:="plan") (by decide),A9 (a:="taken_out") (b:="book") (by decide)]
def BZ{x:Str}(h:(DS x "plan" || DS x "book" || DS x "taken_out")=false:=by decide +kernel):(sf lp b tk).lookup x=none:=by
 simp only[h_]at h;obtain⟨⟨h1,h2⟩,h3⟩:=h;simp[sf,ao,A9 h1,A9 h2,A9 h3]
def ztk:BQ "taken_out" (.ref tk) (BQ "book" (.ref b) (BQ "plan" (.ref lp) []))=sf lp b tk:=by
 rfl
end
def ztl{w k k':Nat}(h1:k/w=k'/w)(h2:k%w=k'%w):k=k':=by
 rw[<-rg k w,<-rg k' w,h1,h2]
def ztm{f:sX}{m k:Nat}(h:EN f m=k):k<m:=by
 unfold EN at h;cases e:(ν m).find? f with
 |none=>rw[e]at h;simp at h
 |some k' =>
  have:=ak.mp<|wy e
  lia
def Dc{z:Str}(h:BO z=true):gk z=true:=by
 unfold BO at h;rw[cb]at h
 have h:=h.2;unfold gk;rw[<-yf];rw[jo]at h ⊢;intro c hc
 have:=h c hc;simp only[QI,cb,decide_eq_true_eq]at this ⊢;exact oC this.2 rfl
def RepC.keep(k:D3 H H'):∀ {x:CV} {v:V},RepC H x v->RepC H' x v
 |.no,_,h=>h
 |.nm _ _,_,⟨t,e,et⟩=>{t,e,k _ _ et}
 |.mk _,_,h=>h
 |.rc _ _,_,⟨t,u,e,et,eu⟩=>{t,u,e,k _ _ et,k _ _ eu}
 |.tx _,_,h=>h
theorem LaidA.keep(k:D3 H H')(h:LaidA n r c w H cs as):LaidA n r c w H' cs as:=by
 induction h with
 |nil=>exact .nil
 |snoc _ e1 e2 e3 e4 e5 e6 ih=>exact ih.snoc e1 e2 (e3.keep k) e4 e5 e6
def SM.same(I:SM a H S n r c w rows nn cs outs tks M)(s:Same H H'):SM a H' S n r c w rows nn cs outs tks M:=by
 obtain⟨⟨dx,e1⟩,e2,e3,e4,e5,e6,e7,e8,e9,e10,e11,e12⟩:=I;exact{{dx,s _ _ e1},e2.same s,e3.same s,s _ _ e4,e5,e6,e7,e8,e9.keep s.tk,λkind k v h1 h2 hv=>(e10 _ k v h1 h2 hv).keep s.tk,e11,e12.keep s.tk}
example:(ztn,T6,rG,1):=by
 apply u5;rintro x dx lp b tk ⟨rfl,T,e,q⟩;exact y3 ⟨e,T.cl,T.n2,_,HH,q⟩
def BookAt.ins1(B:BookAt a C H A w rows n cs outs)(s:SameBut (· =x) H H')(hx:H x=some (.ins C' dx fs))(hf:fs.length<=2):BookAt a C H' A w rows n cs outs:=by
 obtain⟨⟨⟨d1,e1⟩,⟨chs,e2,e3⟩,e4,e5,e6,⟨kvs,e7,e8⟩,⟨DQ,e9,e10⟩,r1,r2,r3,r4,r5⟩,⟨⟨d2,f1⟩,⟨ts,f2,f3⟩,f4,f5,f6⟩,nb⟩:=B
 have o:∀ {y:Addr} {o:HO},H y=some o->(∀ C'' d'' ,o≠.ins C'' d'' fs)->H' y=some o:=λe h=>s _ _ e<|BH e hx<|h _ _
 have oi:∀ {y:Addr} {C'' d'':Addr} {gs:List _},H y=some _->2<gs.length->H' y=some (.ins C'' d'' gs):=λe h=>o e λv v z=>by injection z with _ _ z;rw[z]at h;exact nL h hf
 have ol:∀ {y:Addr} {o':HO},H y=some o'->(∀ C'' d'' gs,o'≠.ins C'' d'' gs)->H' y=some o':=λe h=>o e λv v=>h _ _ _;exact{{{d1,oi e1 (by simp[bf])},{_,ol e2 (by simp),Paired.mapP e3 (by rintro y c ⟨d,pl,nt,g1,g2,g3⟩;exact x3 d pl nt {oi g1 (by simp[GH]),ol g2 (by simp),ol g3 (by simp)})},ol e4 (by simp),λi l h=>ol (e5 i l h) (by simp),e6,{_,ol e7 (by simp),e8},{_,ol e9 (by simp),e10},r1,r2,r3,r4,r5},{{d2,oi f1 (by simp[pf])},{ts,ol f2 (by simp),Paired.mapP f3 λt r z=>ol z (by simp)},f4,f5,f6},nb}
example:(zto,QK,wL,3):=by
 apply OO;rintro x dx lp gp cl n r c w rows nn M ⟨rfl,⟨T,TP,TL,TS⟩,hx,L,P,sz,g,hrp,hok,q⟩;refine y3 {hx,TS.cl,TS.n1,by decide,?_}
 have e1:upd H x _ x=some (.ins (a "Store") dx (BQ "plan" (.ref lp) [])):=AF
 have s1:SameBut _ H (upd H x<|.ins (a "Store") dx (BQ "plan" (.ref lp) [])):=λy o e n=>by rw[AI n];exact e
 revert e1 s1;generalize upd H x _=H1;intro e1 s1
 have P1:PlankAt a H1 gp cl w rows nn:=by
  obtain⟨⟨dx',f1⟩,⟨ts,f2,f3⟩,r1,r2,r3⟩:=P;exact{{_,s1 _ _ f1 (BH f1 hx (NP (by simp[pf])))},{ts,s1 _ _ f2 (BH f2 hx (by intro z;cases z)),Paired.mapP f3 λt r z=>s1 _ _ z (BH z hx (by intro z;cases z))},r1,r2,r3}
 refine zsh T TP P1 λA H2 eg ec off B s2=>?_
 have hx2:=s2 _ _ e1;refine y3 {hx2,TS.cl,TS.n2,FW  (by decide),λp hp=>?_}
 have np:=BI AF hp;rw[AI np.symm]at hp;refine y3 {by rw[AI np,AF],TS.cl,TS.n3,FW  (FW  (by decide)),?_};rw[ztk]
 have s3:SameBut _ H2 (upd (upd (upd H2 x<|.ins (a "Store") dx (BQ "book" (.ref A.b) (BQ "plan" (.ref lp) []))) p (.dK [])) x (.ins (a "Store") dx (sf lp A.b p))):=λy o e n=>by
  rw[AI n,AI<|BI e hp,AI n];exact e
 have e3:upd (upd (upd H2 x<|.ins (a "Store") dx (BQ "book" (.ref A.b) (BQ "plan" (.ref lp) []))) p (.dK [])) x _ x=some (.ins (a "Store") dx (sf lp A.b p)):=AF
 have p3:upd (upd (upd H2 x<|.ins (a "Store") dx (BQ "book" (.ref A.b) (BQ "plan" (.ref lp) []))) p (.dK [])) x (.ins (a "Store") dx (sf lp A.b p)) p=some (.dK []):=by rw[AI np.symm,AF]
 revert s3 e3 p3;generalize upd _ x _=H3;intro s3 e3 p3
 have sb:=(s1.trans<|Same.sb s2).trans s3
 have tk:D3 H H3:=λb xs e=>sb _ _ e (BH e hx (by intro z;cases z));obtain⟨dl,el⟩:=L.ob;refine q ⟨A,x,lp,p⟩ H3 rfl rfl eg ec (λy o e=>?_) (s1.none (by rw[e1];intro z;cases z) (s2.free hp)) {⟨dx,e3⟩,L.sb sb (BH el hx (NP (by simp[lf]))),(B.ins1 s3 hx2 (ω (OW _ _ _) (by simp))),p3,υ _,λz v h=>by simp[BF]at h,B.off hp,sz,{λr hr v hv=>(g r hr v hv).keep tk,λc hc=>by cases hc},λkind k v h1 h2 hv=>(hrp _ k v h1 h2 hv).keep tk,hok,.nil} sb;by_cases hy:y=x;subst hy;exact(off _ _ e1).imp id id;exact off y o<|s1 _ _ e hy
section
variable{X:SX}{cs:z8}{tks:tS}{M:Hs}
def aP{n r c w kind kind' k k':Nat}(h1:kind<5)(h2:kind'<5)(hk:k<BJ n r c w kind)(hk':k'<BJ n r c w kind')(e1:BG n r c w kind k=BG n r c w kind' k')(e2:k%w=k'%w):kind=kind'/\k=k':=by
 have f:∀ {kind x:Nat},kind<5->x<(if kind=0 then n else if kind=1 then r else if kind=2 then c else if kind=3 then r else c)->∀ b,(if kind=0 then 0 else if kind=1 then n+r+c else if kind=2 then n+r+c+r else if kind=3 then n else n+r)+x=b->(if b<n then 0 else if b<n+r then 3 else if b<n+r+c then 4 else if b<n+r+c+r then 1 else 2)=kind:=by
  intro kind x h hx b e;rcases(c5 h)with z|z|z|z|z<;>subst z
  rw[if_pos]<;>simp at hx e<;>exact e ▸ hx
  all_goals rw[if_neg]<;>simp at hx e<;>lia
 have key:kind=kind'/\k/w=k'/w:=by
  obtain rfl:kind=kind':=(f h1 (kf (by rw[da];exact hk)) _ e1).symm.trans (f h2 (kf (by rw[da];exact hk')) _ rfl);exact{rfl,Nat.add_left_cancel e1}
 exact{key.1,ztl key.2 e2}
def LaidA.newest{n r c w:Nat}{H:Hp}{cs:z8}{as:Oz}(h:LaidA n r c w H cs as){kind k:Nat}(h1:kind<5)(hk:k<BJ n r c w kind):DR cs (BG n r c w kind k:Nat) (k%w:Nat)=HE kind k as/\cs.length=as.length:=by
 induction h with
 |nil=>exact⟨rfl,rfl⟩
 |@snoc cs as ch x _ e1 e2 e3 e4 e5 e6 ih =>
  refine{?_,by rw[af,ih.2];rfl};rw[XM,ih.1,ih.2]
  show _=(if x.kind=kind/\x.k=k then some _ else HE _ k as);by_cases e:x.kind=kind/\x.k=k;rw[if_pos e,if_pos {by rw[e1,e.1,e.2],by rw[e2,e.2]}];rw[if_neg e,if_neg λz=>e (aP e5 h1 e6 hk (by lia) (by lia))]
def SM.on(I:X.at a H cs tks M)(h1:kind<5)(hk:k<BJ X.n X.r X.c X.w kind):BG X.n X.r X.c X.w kind k<X.rows.length/\k%X.w<X.w:=by
 refine{?_,sr _<|(Cq hk)};rw[I.sz.2.2.2.2];unfold BG
 have hd:=kf (by rw[da];exact hk);rcases(c5 h1)with z|z|z|z|z<;>subst z<;>simp at hd ⊢ <;>lia
def SM.onPl(I:X.at a H cs tks M){kind k:Nat}(h1:kind<5)(hk:k<BJ X.n X.r X.c X.w kind):onPl X.rows X.w (BG X.n X.r X.c X.w kind k:Nat) (k%X.w:Nat):=by
 have:=I.on h1 hk;exact{lh _,by lia,lh _,dn.mpr this.2}
def SM.val(I:X.at a H cs tks M){kind k:Nat}(h1:kind<5)(hk:k<BJ X.n X.r X.c X.w kind):∃ v,EM cs X.rows (BG X.n X.r X.c X.w kind k:Nat) (k%X.w:Nat)=some v/\RepC H (M kind k) v:=by
 obtain⟨b1,b2⟩:=I.on h1 hk;obtain⟨v,ev⟩:=Cp (λr' hr'=>I.bk.pk.wd r' hr') b1 b2 cs;exact{v,ev,I.rp _ k v h1 hk ev}
def SM.snoc{H':Hp}{kind k:Nat}{v:V}{x:CV}{nd:sZ}{nd':t3}(hd:∀ y:Int,y∈nd↔(∃ j∈nd',y=(j:Nat))\/pN cs (BG X.n X.r X.c X.w kind k:Nat) (k%X.w:Nat) y)(I:X.at a H cs tks M)(h1:kind<5)(hk:k<BJ X.n X.r X.c X.w kind)(B:DW a H' X.S.A X.w X.rows X.nn (cs++[{BG X.n X.r X.c X.w kind k,k%X.w,v,nd}]) X.outs)(s:SameBut X.S.A.F H H')(g:GoodV 4 H' v)(rx:RepC H' x v)(ox:DX kind x):X.at a H' (cs++[{BG X.n X.r X.c X.w kind k,k%X.w,v,nd}]) tks (M.put kind k x nd'):=by
 have lo:∀ x,X.S.A.F x->FF _:=λx hx=>I.bk.loose hx
 have tk:=KK s lo;obtain⟨⟨dx,e1⟩,e2,e3,e4,e5,e6,e7,e8,e9,e10,e11,e12⟩:=I;obtain⟨dl,el⟩:=e2.ob;refine{{dx,s _ _ e1 λz=>(lo _ z).2 _ _ _ e1},e2.sb s λz=>(lo _ z).2 _ _ _ el,B,s _ _ e4 e7,by rw[af];exact cu e5,λz v h=>?_,e7,e8,{(e9.keep tk).1,λc hc=>?_},λkind' k' v' h1' hk' hv=>?_,λkind' k' h1' hk'=>?_,(e12.keep tk).snoc rfl rfl rx (λy=>by rw[hd];unfold pN;rw[(e12.newest h1 hk).1]) h1 hk};obtain⟨k,ek,hk⟩:=e6 z v h;exact{k,ek,by rw[af];exact cu hk};rcases a_.mp hc with y|y
 exact(e9.keep tk).2 c y;rw[ae.mp y];exact g;rw[ztc]at hv;rw[Hs.put_at];by_cases hp:kind'=kind/\k'=k;obtain⟨rfl,rfl⟩:=hp;rw[if_pos ⟨rfl,rfl⟩]at hv ⊢;obtain rfl:=μ hv;exact rx;rw[if_neg λy=>hp (by
  have:=aP h1 h1' hk hk' (cg y.1) (cg y.2);exact⟨this.1.symm,this.2.symm⟩)]at hv
 rw[if_neg hp];exact(e10 _ k' v' h1' hk' hv).keep tk;rw[Hs.put_at];split;rename_i y;rw[y.1];exact ox;exact e11 _ k' h1' hk'
def IH{kind k:Nat}{v:V}{x:CV}{u nl:Addr}{ns:sZ}(T4:CN K a)(I:X.at a H cs tks M)(h1:kind<5)(hk:k<BJ X.n X.r X.c X.w kind)(hu:H u=some (.tup [.int (BG X.n X.r X.c X.w kind k:Nat),.int (k%X.w:Nat)]))(hn:H nl=some (.lst<|ns.map V.int))(hl:ns.length<=60)(hcs:cs.length<990)(kn:∀ x∈ns,known cs x)(g:GoodV 4 H v)(rx:RepC H x v)(ox:DX kind x)
  (q:∀ ch H',X.at a H' (cs++[ch]) tks (M.put kind k x<|LF ns)->SameBut X.S.A.F H H'->Q (.int cs.length) H'):GK K a [.ref X.S.A.b,.ref u,v,.ref nl] H Q E:=by
 obtain⟨T,TP,TL,TS⟩:=T4;refine ON _ _ _ _ cs _ u nl v ns _ _ {rfl,T,TP,I.bk,hu,SqL.of hn,hl,hcs,λz z nd H5 pw mem B5 E7=>?_,λy=>absurd (I.onPl h1 hk) y,λz ⟨x,hx,hk⟩=>absurd (kn x hx) hk}
 have tk:=KK E7 λx hx=>I.bk.loose hx;refine q _ H5 (I.snoc (λy=>?_) h1 hk B5 E7 (g.keep tk) (rx.keep tk) ox) E7;rw[mem];refine or_congr {λh=>{_,av.mpr ⟨y,h,rfl⟩,(gr<|(kn y h).1).symm},λhzz=>?_} Ju;obtain⟨j,hj,e⟩:=hzz;obtain⟨x,hx,rfl⟩:=av.mp hj
 have:=(kn x hx).1;rw[show y=x by lia];exact hx
end
def NmX(H:Hp)(v:V):Option (Str × Nat)->Prop
 |none=>v=.non
 |some (z,k)=>∃ t,v=.ref t/\H t=some (.tup [.str z,.int k])
def NmX.keep(h:NmX H v x)(k:D3 H H'):NmX H' v x:=by
 cases x with
 |none=>exact h
 |some p=>obtain⟨t,e,et⟩:=h;exact{t,e,k _ _ et}
def RepC.nmv(h:RepC H (M 0 k) v)(ok:DX 0 (M 0 k)):NmX H v (D9 M k):=by
 unfold D9;cases e:M 0 k with
 |no=>rw[e]at h;exact h
 |nm z r=>rw[e]at h;exact h
 |mk i=>rw[e]at ok;exact ok.elim
 |rc m ps=>rw[e]at ok;exact ok.elim
 |tx z=>rw[e]at ok;exact ok.elim
example:(ztp,QL,ZZ,1):=by
 apply u4;rintro X cs tks M ⟨rfl,⟨T,TP,TL,TS⟩,I,q⟩;obtain⟨S,n,r,c,w,rows,nn,outs⟩:=X;obtain⟨dx,ho⟩:=I.ob;obtain⟨dl,el⟩:=I.ly.ob;obtain⟨db,eb⟩:=I.bk.bk.ob
 have hz:=I.sz
 have hkm:=gy hz.1 hz.2.2.2.1;push_cast[ZZ,↓wO_];refine y3 {ho,TS.cl,TS.n1,_,IG,y2 {el,B8,x5 _ n r c w {rfl,TL,I.ly,λt ht=>?_}}}
 have s1:=AL (o:=.tup [V.int (n*w),V.int<|r*w,V.int<|c*w]) ht;refine BB AF  rfl rfl ?_;revert s1
 have em:(n:Int)*w=(n*w:Nat):=rfl;intro s1;rw[em];push_cast[];refine{i0,by lia,K5 (CC _<|oA hkm rfl) (λi ys H'=>Same H H'/\ys.length=i/\∀ k v,ys[k]? =some v->EM cs rows (BG n r c w 0 k) (k%w)=some v) {s1,rfl,λk v h=>by simp at h} (λi ys H' hi hl hzz=>?_) (λys H' hl hzz p hp=>?_)}
 ·obtain⟨s,x,al⟩:=hzz;refine y3 {s _ _ ho,TS.cl,TS.n2,_,HH,y2 {s _ _ eb,CT,y3 {s _ _ ho,TS.cl,TS.n1,_,IG,y2 {s _ _ el,B8,x6 _ n r c w i {by simp,TL,I.ly.same s,λu hu=>?_}}}}}
  have s2:=s.trans<|AL (o:=.tup [.int (0+i/w),.int<|i%w]) hu;refine x9 _ w rows nn cs _ u (BG n r c w 0 i) (i%w) {rfl,T,TP,I.bk.same s2,by rw[AF];simp[BG],λx v H3 ev s3=>{s2.trans s3,by simp[hl],λk v' hk=>?_},λz=>absurd (SM.onPl I  (by decide) (hi)) z};rcases eq k _ with z|z
  rw[ba z]at hk;exact al k v' hk
  have:k=i:=by
   rcases Nat.eq_or_lt_of_le z with y|y
   exact hl ▸ y.symm;rw[bt (by simp;lia)]at hk;cases hk
  rw[cf z]at hk;subst this;rw[hl,vy]at hk;obtain rfl:=μ hk;exact ev
 obtain⟨s,x,al⟩:=hzz
 have s3:=s.trans<|AL (o:=.lst ys) hp;exact q p ys _ s3 AF hl λk v hk=>((I.rp 0 k v (by decide) (by simp[BJ];exact hl ▸ ((ε.mp hk).1)) (al k v hk)).keep s3.tk)
def ztq(hi:i<m)(h:(D9 M i).any (λp=>decide<|p.1=z)=true)(hl:∀ j<i,(D9 M j).any (λp=>decide<|p.1=z)=false):cellOf M m z=some i:=by
 unfold cellOf;obtain⟨d,rfl⟩:=ia<|show i+1<=m from hi;rw[lb];refine{h,x2 (ν i) ((ν d).map (i+1+·)) {?_,λj hj=>by rw[hl j (ak.mp hj)];rfl}};rw[d_,wt,wt];simp[d_,Ga]
def aQ(hl:∀ j<m,(D9 M j).any (λp=>decide<|p.1=z)=false):cellOf M m z=none:=jv.mpr λj hj=>by rw[hl j (ak.mp hj)];exact ax
example:(ztr,NU,xK,4):=by
 apply u5;rintro X cs tks M z ⟨rfl,T4,I,q⟩;obtain⟨dx,ho⟩:=I.ob;refine y2 {ho,BZ,x4 X cs _ M {rfl,T4,I,λl xs H1 s1 el hl hx=>({{_,SqL.of el},WZ  (λi σ H'=>(Same H H'/\Same H1 H'/\∀ j<i,(D9 M j).any (λp=>decide<|p.1=z)=false)/\∃ x y,σ=[some _,some _,x,y]) {{s1,Same.refl _,λj hj=>absurd hj<|jx _},x2 _ _ rfl} (by rintro i σ H' v ⟨⟨v,s,v⟩,v⟩;exact SqL.of<|s _ _ el) (λi x σ H' t hxi hzz ht=>?_) (λσ H' hzz=>?_)})}};obtain⟨⟨sH,s,lo⟩,y1,y2,rfl⟩:=hzz
 have hi:=(ε.mp hxi).1
 have s2:=s.trans<|AL (o:=.tup [.int i,x]) ht
 have sH2:=sH.trans<|AL (o:=.tup [.int i,x]) ht
 have nx:=((hx i x hxi).nmv (I.ok 0 i (by decide) (by rw[hl]at hi;exact hi))).keep s2.tk;refine{_,SqT.of AF,rfl,?_};revert s2 sH2 nx;generalize upd H' t _=H2;intro s2 sH2 nx
 have next:(D9 M i).any (λp=>decide _)=false->Same H H2/\Same H1 H2/\∀ j<i+1,(D9 M j).any (λp=>decide _)=false:=λh=>⟨sH2,s2,λj hj=>by
  rcases eq j i with y|y
  exact lo j y;rw[show j=i by exact j_ (fg hj) y];exact h⟩
 push_cast[↓xJ_,↓xI_];cases en:D9 M i with
 |none =>
  rw[en]at nx next;rw[nx];exact next rfl
 |some p =>
  rw[en]at nx next;obtain⟨u,rfl,eu⟩:=nx;refine BB eu  rfl rfl ?_;push_cast[];by_cases hz:p.1=z;rw[if_pos hz]
  have:=q _ sH2;rw[ztq  (hl ▸ hi) (by rw[en];simpa using hz) lo]at this;exact this;rw[if_neg hz];exact next (by simpa using hz)
 obtain⟨⟨sH,s,lo⟩,y1,y2,ez⟩:=hzz
 have:=q _ sH;rw[aQ (by rw[<-hl];exact lo)]at this;exact this
example:(zts,YG,Z8,1):=by
 apply u4;rintro X cs tks M ⟨rfl,T4,I,q⟩
 have hz:=I.sz;obtain⟨dx,ho⟩:=I.ob
 have hkm:=gy hz.1 hz.2.2.2.1;push_cast[Z8,↓xH_];refine y2 {ho,BZ (by decide),x4 X cs _ M {rfl,T4,I,λl xs H1 s1 el hl hx=>(.inl {{_,SqL.of el},nR  (CC _<|oA (ω (bh hl) hkm) rfl) (λi σ' ys H'=>H'=H1/\(∃ y0,σ'=[y0])/\ys=(LE M i).map V.str) {rfl,⟨_,rfl⟩,rfl} (by rintro i σ' ys H' ⟨e,z,ey⟩;exact{e ▸ SqL.of el,by rw[ey,ζ];exact ω (fu _ _) (by simp)}) (λi x σ' ys H' hi hxi hzz=>?_) (λσ' ys H' hzz p hp=>?_)})}};obtain⟨e,⟨y0,es⟩,ey⟩:=hzz
 have nx:=(hx i x hxi).nmv (I.ok 0 i (by decide) (by rw[hl]at hi;simpa [BJ]using hi));subst e es
 have U6:LE M (i+1)=LE M i++((D9 M i).map (·.1)).toList:=by
  unfold LE;rw[bu];cases e:D9 M i<;>simp[e]
 cases en:D9 M i with
 |none =>
  rw[en]at nx U6;rw[nx];exact{_,by lia,rfl,hi,by rw[U6,ey];simp}
 |some p =>
  rw[en]at nx U6;obtain⟨u,rfl,eu⟩:=nx;exact{λy H4=>y=.str _/\H4=H',(by rintro y H4 ⟨e1,e2⟩;exact{_,by lia,rfl,hi,e2,by rw[U6,ey,e1];simp}),BB eu  rfl rfl ⟨rfl,rfl⟩}
 obtain⟨rfl,z,ey⟩:=hzz
 have sp:=AL (o:=.lst ys) hp;exact x2 p (LE M _) {rfl,by rw[<-hl,<-ey];exact SqL.of AF,cm (fu _ _) (by simp;exact oC hkm rfl),λD ks hD pk hs=>(q D ks _ (s1.free<|sp.free hD) ((s1.trans sp).trans (AL hD)) AF pk hs)}
example:(ztt,T7,aB,3):=by
 apply u7;rintro X cs tks M z gl zs ⟨rfl,T4,I,eg,hl,hy,q,q1,q2⟩;obtain⟨dx,ho⟩:=I.ob;push_cast[aB,↓xV_];refine .inl {{_,SqL.of eg},mI  (CC _ (by rw[ζ];exact oA hl rfl)) (λi ys H'=>Same H H'/\ys=((zs.take i).map BO).map V.bl) {Same.refl _,rfl} (λi ys H' y ⟨s,_⟩=>SqL.of<|s _ _ eg) (λi x ys H' hxi hyl hzz=>?_) (λys H' hyl hzz p hp=>?_)};obtain⟨s,ey⟩:=hzz;rw[τ,aa]at hxi;obtain⟨x',hx',rfl⟩:=hxi;refine{x',rfl,hy x'<|θ hx',λH2 s2=>{s.trans s2,?_}};rw[ci,hx',ey];simp;obtain⟨s,ey⟩:=hzz;rw[ζ,bz]at ey
 have s2:=s.trans<|AL (o:=.lst ys) hp;refine x2 p _ {rfl,by rw[<-ey];exact SqL.of AF,?_};rw[Es,Function.id_comp];revert s2;intro s2;cases hb:zs.all _ with
 |false =>
  exact{by decide,q1 hb _ s2}
 |true =>
  refine y2 {s2 _ _ ho,BZ,x5 X cs _ M z {rfl,T4,I.same s2,λH3 s3=>?_}}
  have s4:=s2.trans s3;cases hc:cellOf M _ z with
  |none =>
   exact q hb hc _ s4
  |some k =>
   exact{by decide,q2 hb ⟨k,hc⟩ _ s4}
def KL{S:SA}{dx db gp mm mi lt ou:Addr}{mth:Str}{P:V->Prop}(TS:QJ K a)(ho:H S.st=some (.ins (a "Store") dx (sf S.lp S.A.b S.tk)))(eb:H S.A.b=some (.ins (a "Hold") db (bf gp mm mi lt ou)))(hm:(bf gp mm mi lt ou).lookup mth=none)(p:P (.ref S.A.b)) :
  ∃ x x1 x2,H S.st=some (.ins x x1 x2)/\Cls K x/\NoAttr K x "book"/\∃ v,x2.lookup ("book":Str)=some v/\CQ v λb=>∃ y y1,H b=some (.ins (a "Hold") y y1)/\y1.lookup mth=none/\P v:=y3 {ho,TS.cl,TS.n2,_,HH,y2 ⟨eb,hm,p⟩}
def G3{S:SA}{dx dl:Addr}{n r c w:Int}{mth:Str}{P:V->Prop}(TS:QJ K a)(ho:H S.st=some (.ins (a "Store") dx (sf S.lp S.A.b S.tk)))(el:H S.lp=some (.ins (a "Layout") dl (lf n r c w)))(hm:(lf n r c w).lookup mth=none)(p:P (.ref S.lp)) :
  ∃ x x1 x2,H S.st=some (.ins x x1 x2)/\Cls K x/\NoAttr K x "plan"/\∃ v,x2.lookup ("plan":Str)=some v/\CQ v λb=>∃ y y1,H b=some (.ins (a "Layout") y y1)/\y1.lookup mth=none/\P v:=y3 {ho,TS.cl,TS.n1,_,IG,y2 ⟨el,hm,p⟩}
section
variable{p:Addr}{n r c w k:Nat}
def Dd(TL:D2 K a)(L:LayAt a H p n r c w)(q:GZ (0+k/w) (k%w) Q H):KB K a [.ref p,.int k] H Q E:=x6 p n r c w k ⟨rfl,TL,L,q⟩
def N4(TL:D2 K a)(L:LayAt a H p n r c w)(q:GZ (n+k/w) (k%w) Q H):HD K a [.ref p,.int k] H Q E:=x6 p n r c w k ⟨rfl,TL,L,q⟩
def Dg(TL:D2 K a)(L:LayAt a H p n r c w)(q:GZ (n+r+k/w) (k%w) Q H):MI K a [.ref p,.int k] H Q E:=x6 p n r c w k ⟨rfl,TL,L,q⟩
def Dh(TL:D2 K a)(L:LayAt a H p n r c w)(q:GZ (n+r+c+k/w) (k%w) Q H):KC K a [.ref p,.int k] H Q E:=x6 p n r c w k ⟨rfl,TL,L,q⟩
def lPM(TL:D2 K a)(L:LayAt a H p n r c w)(q:GZ (n+r+c+r+k/w) (k%w) Q H):KD K a [.ref p,.int k] H Q E:=x6 p n r c w k ⟨rfl,TL,L,q⟩
end
theorem aR:∀ {l:t3},(∀ k∈l,f k=g k)->l.find? f=l.find? g
 | [],_=>rfl
 |k::l,h=>by
  rw[y_,y_,h k χ,aR λk' hk'=>h k'<|ρ _ hk']
def ztv(h:∀ k<m,f k=g k):EN f m=EN g m:=by
 unfold EN;rw[aR λk hk=>h k<|ak.mp hk]
section
variable{X:SX}{cs:z8}{tks:tS}{M:Hs}
def SM.free(I:X.at a H cs tks M){kind:Nat}(hk:kind<3):EN (MM cs X.rows X.n X.r X.c X.w kind) (BJ X.n X.r X.c X.w kind)=G1 M kind (BJ X.n X.r X.c X.w kind):=ztv λk hkm=>by
 obtain⟨v,ev,rv⟩:=I.val (oA hk rfl) hkm;unfold MM;rw[ev];cases e:M _ k with
 |no=>rw[e]at rv;rw[rv];simp[LC,G0]
 |nm z r=>rw[e]at rv;obtain⟨t,rfl,y⟩:=rv;simp[LC,G0]
 |mk i =>
  rw[e]at rv;rw[rv];simp[LC,G0]
 |rc m ps=>rw[e]at rv;revert rv;apply u2;rintro t u ⟨rfl,y⟩;simp[LC,G0]
 |tx z=>rw[e]at rv;rw[rv];simp[LC,G0]
def Dj(h:cellOf M m z=some cell):cell<m/\∃ k,M 0 cell=.nm z k:=by
 have h2:=Jf h;unfold D9 at h2;refine{(ak.mp<|wy h),?_};cases e:M 0 _ with
 |nm z' k =>
  rw[e]at h2;simp at h2;exact{k,by rw[h2]}
 |_=>rw[e]at h2;simp at h2
def UQ{kind:Nat}(T4:CN K a)(I:X.at a H cs tks M)(hk:kind<3)(q:∀ k:Nat,G1 M kind (BJ X.n X.r X.c X.w kind)=k->k<BJ X.n X.r X.c X.w kind->∀ H',Same H H'->Q (.int k) H')(qe:G1 M kind (BJ X.n X.r X.c X.w kind)= -1->EA a H "NoRoom" E):T3 kind K a X.S.lp X.S.A.b H Q E:=by
 obtain⟨z1,z2,z3,z4,z5⟩:=I.sz;obtain⟨T,TP,TL,TS⟩:=T4;refine x9 _ _ _ _ _ _ _ cs _ {rfl,T,TP,TL,I.ly,z1,z2,z3,z4,I.bk,z5,λi j v hv=>Cy I.gd hv,λk e H' s=>?_,λe H' s=>?_};rw[I.free hk]at e;exact q k e (ztm e) H' s;rw[I.free hk]at e;exact qe e H' s
end
example:(ztw,JC,Z0,2):=by
 apply u5;rintro X cs tks M rec ⟨rfl,⟨T,TP,TL,TS⟩,I,hr,q⟩;obtain⟨dx,ho⟩:=I.ob;obtain⟨dl,el⟩:=I.ly.ob;obtain⟨db,eb⟩:=I.bk.bk.ob
 have hm:rec<BJ X.n X.r X.c _ 3:=hr;push_cast[Z0,↓wP_];refine KL TS (ho) (eb) (CT) (G3 TS (ho) (el) (B8) (N4 TL (I.ly) λu hu=>?_))
 have s2:=AL (o:=.tup [.int (X.n+rec/X.w),.int<|rec%X.w]) hu;refine x9 _ _ _ _ cs _ u _ _ {rfl,T,TP,I.bk.same s2,by rw[AF];simp[BG],λy v H3 ev s3=>?_,λz=>absurd (I.onPl  (by decide) hm) z}
 have s4:=s2.trans s3;exact q v H3 ((I.rp 3 _ v (by decide) hm ev).keep s4.tk) s4
example:(ztx,KG,xW,3):=by
 apply u5;rintro X cs tks M z ⟨rfl,T4,I,q,qe⟩;obtain⟨dx,ho⟩:=I.ob;refine y2 {ho,BZ,x5 X cs _ M z {rfl,T4,I,λH1 s1=>?_}};cases e:cellOf M _ z with
 |none =>
  exact{by decide,qe e _ s1}
 |some cell =>
  obtain⟨hc,k,ek⟩:=Dj e;refine y2 {s1 _ _ ho,BZ,x4 X cs _ M {rfl,T4,I.same s1,λl xs H2 s2 el hl hx=>?_}}
  have ex:=η (by rw[hl];exact hc)
  have rx:=hx _ _ ex;rw[ek]at rx;obtain⟨t,et,et2⟩:=rx;exact CY (SqL.of el) rfl ex (by rw[et];exact BB et2  rfl rfl (q _ k e hc ek _<|s1.trans s2))
def Dk{X:SX}{cs:z8}{tks:tS}{M:Hs}{cell rec need:Nat}{z:Str}{nl:Addr}{ns:sZ}{H2:Hp}(T4:CN K a)(I:X.at a H cs tks M)(hc:cell<X.m0)(hcs:cs.length<980)(hz:gk z=true)(s:Same H H2)(en:H2 nl=some (.lst<|ns.map V.int))(hl:ns.length<=60)(kn:∀ x∈ns,known cs x)
  (q:T8 X a H cs tks (M.put 0 cell (.nm z rec) (LF ns)) Q) :
  Z1 K a (λ_=>E) (λ_=>E) (AX Q) [some (.ref X.S.st),some<|.int cell,some<|.str z,some<|.int rec,some<|.int need,some<|.ref nl] H2:=by
 have T4':=T4;obtain⟨T,TP,TL,TS⟩:=T4;obtain⟨dx,ho⟩:=I.ob;obtain⟨dl,el⟩:=I.ly.ob;obtain⟨db,eb⟩:=I.bk.bk.ob;push_cast[↓Z1_];refine KL TS (s _ _ ho) (s _ _ eb) (CT) (G3 TS (s _ _ ho) (s _ _ el) (B8) (Dd TL (I.ly.same s) λu hu=>?_))
 have s2:=s.trans<|AL (o:=.tup [.int (0+cell/X.w),.int<|cell%X.w]) hu
 have eu:upd H2 u (.tup [.int (0+cell/X.w),.int<|cell%X.w]) u=some (.tup [.int (BG X.n X.r X.c X.w 0 cell),.int<|cell%X.w]):=by rw[AF];simp[BG]
 have en2:=AL (o:=.tup [.int (0+cell/X.w),.int<|cell%X.w]) hu _ _ en;revert s2 eu en2;generalize upd H2 u _=H3;refine λs2 eu en2=>{by decide,λt ht=>?_}
 have st:=AL (o:=.tup [V.str z,V.int rec]) ht
 have s4:=s2.trans st
 have et:upd H3 t _ t=some (.tup [V.str z,V.int rec]):=AF;refine IH T4' (I.same s4)  (x:=.nm z _) (by decide) (hc) (st _ _ eu) (st _ _ en2) hl (oA hcs rfl) kn {_,et,by simp,λv hv=>?_} ⟨t,rfl,et⟩ trivial λch H' I' sb=>q ch H' I' λb o e n=>sb _ _ (s4 _ _ e) n;simp only[aj,bx,or_false]at hv;rcases hv with rfl|rfl
 exact hz
 trivial
example:(zty,T9,Z2,6):=by
 apply u8;rintro X cs tks M cell rec need z ⟨rfl,⟨T,TP,TL,TS⟩,I,hc,hn,hcs,hz,q⟩;obtain⟨dx,ho⟩:=I.ob;push_cast[Z2,↓wQ_];refine{by decide,λnl hnl=>?_}
 have s1:=AL (o:=.lst [V.int need]) hnl;refine y3 {s1 _ _ ho,TS.cl,TS.n3,_,aO,_,dS<|s1 _ _ I.tk,?_}
 have e1:upd H nl _ nl=some (.lst [V.int need]):=AF
 have kn:known cs _:={i0,dn.mpr hn}
 cases hv:BF tks _ with
 |none =>
  rw[show FG _ z=[] by unfold FG;rw[hv]]at q;exact Dk (ns:=[need]) ⟨T,TP,TL,TS⟩ I hc hcs hz s1 e1 (by simp) (λx hx=>by rw[ae.mp hx];exact kn) q
 |some v =>
  obtain⟨k,rfl,hk⟩:=I.tv z v hv;rw[show FG _ z=[k] by unfold FG;rw[hv];rfl]at q;refine{.inl {rfl,_,SqL.of e1},y3 {s1 _ _ ho,TS.cl,TS.n3,_,aO,_,dS' (s1 _ _ I.tk) hv,{_,e1,(by show 1<sizeLine;decide),?_}}};rw[GA];refine Dk (ns:=[need,k]) ⟨T,TP,TL,TS⟩ I hc hcs hz (AL hnl) AF (by simp) (λx hx=>?_) q;simp only[aj,bx,or_false]at hx;rcases hx with rfl|rfl
  exact kn;exact{i0,dn.mpr hk}
def ztz(ps:t3):∀ v∈AM ps,GoodV (n+1) H v:=λv hv=>by
 obtain⟨p,z,rfl⟩:=av.mp hv
 trivial
def aS{H:Hp}{t u:Addr}{m:Nat}{ps:t3}(h1:H t=some (.tup [.int m,.ref u]))(h2:H u=some (.tup<|AM ps))(hl:ps.length<=100):GoodV 4 H (.ref t):=⟨_,h1,by simp,λv hv=>by
 simp only[aj,bx,or_false]at hv;rcases hv with rfl|rfl
 trivial
 exact{_,h2,by simp[AM];exact hl,ztz ps}⟩
example:(zt0,QM,xM,5):=by
 apply U8;rintro X cs tks M rec m m' more ps nl ns ⟨rfl,T4,I,hr,eM,hm',hps,en,hl,kn,hcs,q⟩
 have T4':=T4;obtain⟨T,TP,TL,TS⟩:=T4;obtain⟨dx,ho⟩:=I.ob;obtain⟨dl,el⟩:=I.ly.ob;obtain⟨db,eb⟩:=I.bk.bk.ob;refine y2 {ho,BZ,x5 X cs _ M _ {rfl,T4',I,hr,λv H1 rv s=>?_}};rw[eM]at rv;revert rv;apply u2;rintro t0 u0 ⟨rfl,GP,F9⟩;push_cast[↓xL_];refine KL TS (s _ _ ho) (s _ _ eb) (CT) (G3 TS (s _ _ ho) (s _ _ el) (B8) (N4 TL (I.ly.same s) λu hu=>?_))
 have sa:=AL (o:=.tup [.int (X.n+rec/X.w),.int<|rec%X.w]) hu
 have eu:upd H1 u (.tup [.int (X.n+rec/X.w),.int<|rec%X.w]) u=some (.tup [.int (BG X.n X.r X.c X.w 3 rec),.int<|rec%X.w]):=by rw[AF];simp[BG]
 revert sa eu;generalize upd H1 u _=H2;refine λsa eu=>BB (sa _ _ GP)  rfl rfl (BB (sa _ _ GP)  rfl rfl {by decide,λt ht=>?_});rw[hm']
 have st:=AL (o:=.tup [V.int m',V.ref u0]) ht
 have s4:=(s.trans sa).trans st
 have e1:upd H2 t _ t=some (.tup [V.int m',V.ref u0]):=AF
 have e2:=st _ _<|sa _ _ F9;exact IH T4' (I.same s4)  (x:=.rc m' ps) (by decide) (hr) (st _ _ eu) (s4 _ _ en) hl (oA hcs rfl) kn (aS e1 e2 hps) (x2 t u0 ⟨rfl,e1,e2⟩) trivial λch H' I' sb=>q ch H' I' λb o e n=>sb _ _ (s4 _ _ e) n
example:(zt1,UA,Z9,4):=by
 apply U8;rintro X cs tks M rec m ps ps' pl nl ns ⟨rfl,T4,I,hr,eM,epl,hps,en,hl,kn,hcs,q⟩
 have T4':=T4;obtain⟨T,TP,TL,TS⟩:=T4;obtain⟨dx,ho⟩:=I.ob;obtain⟨dl,el⟩:=I.ly.ob;obtain⟨db,eb⟩:=I.bk.bk.ob;push_cast[Z9,↓xN_];refine KL TS (ho) (eb) (CT) (G3 TS (ho) (el) (B8) (N4 TL (I.ly) λu hu=>?_))
 have sa:=AL (o:=.tup [.int (X.n+rec/X.w),.int<|rec%X.w]) hu
 have eu:upd H u (.tup [.int (X.n+rec/X.w),.int<|rec%X.w]) u=some (.tup [.int (BG X.n X.r X.c X.w 3 rec),.int<|rec%X.w]):=by rw[AF];simp[BG]
 revert sa eu;refine λsa eu=>y2 {sa _ _ ho,BZ,x5 X cs _ M _ {rfl,T4',I.same sa,hr,λv H3 rv s3=>?_}};rw[eM]at rv;revert rv;apply u2;rintro t0 u0 ⟨rfl,GP,F9⟩;refine BB GP  rfl rfl {by decide,λt ht=>?_}
 have st:=AL (o:=.tup [V.int m,V.ref pl]) ht
 have s4:=(sa.trans s3).trans st
 have e1:upd H3 t _ t=some (.tup [V.int m,V.ref pl]):=AF
 have e2:=s4 _ _ epl;exact IH T4' (I.same s4)  (x:=.rc m _) (by decide) (hr) (st _ _<|s3 _ _ eu) (s4 _ _ en) hl (oA hcs rfl) kn (aS e1 e2 hps) (x2 t pl ⟨rfl,e1,e2⟩) trivial λch H' I' sb=>q ch H' I' λb o e n=>sb _ _ (s4 _ _ e) n
def N5{α β γ :Type}{F: α -> β ->Prop}{G: α -> γ ->Prop}{f: β -> γ}:∀ {l:List α} {m:List β},Paired F l m->(∀ x y,F x y->G x (f y))->Paired G l (m.map f):=λh k=>by
 induction h with
 |nil=>exact .nil
 |cons h t ih=>exact .cons (k _ _ h) ih
def UR{te:TE}{A7:t3}{σ:St}{b:Addr}{xs:Oq}(hn:xs.length<=sizeLine)(Pv:Nat->Oq->Hp->Prop)(h0:Pv 0 [] H)(hq:∀ i ys H,i<=xs.length->Pv i ys H->SqT K H b xs)
  (hs:∀ i x ys H,xs[i]? =some x->ys.length=i->Pv i ys H->te (some x::CO A7 σ) H λy H2=>Pv (i+1) (ys++[y]) H2)
  (hd:∀ ys H,ys.length=xs.length->Pv xs.length ys H->∀ p,H p=none->Q (.ref p) (upd H p<|.lst ys)) :
  D8 (IL K b) (AE 0) CP te 1 A7 σ H Q:=by
 refine{λi m σ' ys H=>m=xs.length-i/\i<=xs.length/\ys.length=i/\(∃ x0,σ'=x0::CO _ σ)/\Pv i ys H,{xs.length,rfl,bv _,rfl,⟨_,rfl⟩,h0},?_};rintro i m σ' ys H ⟨rfl,hi,hl,⟨x0,rfl⟩,p⟩
 have q:=hq i ys H hi p;by_cases A0:i<xs.length;refine .inr {x2 xs (xs[i]) {q,by simp[A0]},by lia,λx H' y=>?_};obtain⟨rfl,y⟩:=y;refine{_,λy H4 q=>{_,by lia,rfl,A0,?_,⟨_,rfl⟩,q},hs i x ys _ (y xs q) hl p};rw[af,ir,hl]
 have e:i=xs.length:=by lia
 subst e;exact .inl {{xs,q,υ _},hd ys H hl p}
section
variable{X:SX}{cs:z8}{tks:tS}{M:Hs}
def SM.lput{l:Addr}{xs ys:Oq}(I:X.at a H cs tks M)(e:H l=some (.lst xs))(f:¬ X.S.A.F l):X.at a (upd H l<|.lst ys) cs tks M:=by
 have s:SameBut _ H (upd H l<|.lst ys):=λy o ey n=>by rw[AI n];exact ey
 have g:∀ x,x=l->FF _:=λx hx=>by rw[hx];exact LA e
 have tk:=KK s g;obtain⟨⟨dx,e1⟩,e2,e3,e4,e5,e6,e7,e8,e9,e10,e11,e12⟩:=I;obtain⟨dl,el⟩:=e2.ob;exact{{dx,s _ _ e1 (BH e1 e (by intro z;cases z))},e2.sb s (BH el e (by intro z;cases z)),e3.sb s g λx hx=>by rw[hx];exact f,s _ _ e4 (BH e4 e (by intro z;cases z)),e5,e6,e7,e8,e9.keep tk,λkind k v h1 h2 hv=>(e10 _ k v h1 h2 hv).keep tk,e11,e12.keep tk}
def SM.taken(I:X.at a H cs tks M)(hk:k<cs.length)(hl:tks.length<cs.length):X.at a (upd H X.S.tk<|.dK<|CA tks (.inr z) (.int k)) cs (CA tks (.inr z) (.int k)) M:=by
 have s:SameBut _ H (upd H X.S.tk<|.dK<|CA tks (.inr z) (.int k)):=λy o ey n=>by rw[AI n];exact ey
 have g:∀ x,x=X.S.tk->FF _:=λx hx=>by rw[hx];exact S7 I.tk
 have tk:=KK s g;obtain⟨⟨dx,e1⟩,e2,e3,e4,e5,e6,e7,e8,e9,e10,e11,e12⟩:=I;obtain⟨dl,el⟩:=e2.ob;refine{{dx,s _ _ e1 (BH e1 e4 (by intro z;cases z))},e2.sb s (BH el e4 (by intro z;cases z)),e3.sb s g λx hx=>by rw[hx];exact e7,AF,ω (IS ..) (hl),λy v h=>?_,e7,e8,e9.keep tk,λkind k v h1 h2 hv=>(e10 _ k v h1 h2 hv).keep tk,e11,e12.keep tk};rw[HU]at h;split at h;obtain rfl:=μ h;exact⟨k,rfl,hk⟩;exact e6 y v h
end
example:(zt2,UB,aC,4):=by
 apply u8;rintro X cs tks M cell z nl ns ⟨rfl,T4,I,ec,hc,en,hl,kn,hcs,q⟩
 have T4':=T4;obtain⟨dx,ho⟩:=I.ob;obtain⟨dl,el⟩:=I.ly.ob;obtain⟨T,TP,TL,TS⟩:=T4;obtain⟨db,eb⟩:=I.bk.bk.ob;push_cast[aC,↓xX_];refine y3 {ho,TS.cl,TS.n2,_,HH,y2 {eb,CT,y3 {ho,TS.cl,TS.n1,_,IG,y2 {el,B8,y2 {ho,BZ,x5 X cs _ M z {rfl,T4',I,λH1 s1=>?_}}}}}};rw[ec];refine x6 _ _ _ _ _ _ {rfl,TL,I.ly.same s1,λu hu=>?_}
 have eu:upd H1 u (.tup [.int (0+cell/X.w),.int<|cell%X.w]) u=some (.tup [.int (BG X.n X.r X.c X.w 0 cell),.int<|cell%X.w]):=by rw[AF];simp[BG]
 have s2:=s1.trans<|AL (o:=.tup [.int (0+cell/X.w),.int<|cell%X.w]) hu;revert eu s2;refine λeu s2=>IH T4' (I.same s2)  (x:=.no) (by decide) (hc) eu (s2 _ _ en) hl (oA hcs rfl) kn trivial rfl trivial λch H3 I3 sb=>?_;obtain⟨dx3,ho3⟩:=I3.ob
 have tl:=I.tl;refine y3 {ho3,TS.cl,TS.n3,_,aO,_,pS I3.tk<|oD (cm tl hcs) rfl,(q ch _ (I3.taken (by simp) (by simp;exact xa tl)) λy o e n=>?_)};rw[AI λy=>n<|.inr y];exact sb _ _ (s2 _ _ e) λy=>n<|.inl y
def drI(a:Ad)(X:SX)(cs:z8)(tks:tS)(M:Hs)(rec gone:Nat)(u0 ml:Addr)(pls:List (Nat × Nat))(H6:Hp)(i:Nat)(σ:St)(H':Hp):Prop:=(∃ ex,ex.length=i+1/\X.at a H' (cs++ex) tks ((pls.take i).foldl (λ(M:Hs) (y:Nat × Nat)=>M.put y.1 y.2 (.mk 0) [cs.length]) (M.put 3 rec .no [gone]))/\H' ml=some (.lst (AM ((ν<|i+1).map (cs.length+·))))/\SameBut (λx=>X.S.A.F x\/x=ml) H6 H')/\∃ y6,σ=[some (.ref X.S.st),some<|.int rec,some<|.int gone,some<|.ref u0,some<|.int cs.length,some<|.ref ml,y6]
example:(zt4,YH,xS,7):=by
 apply u8;rintro X cs tks M rec m gone ps ⟨rfl,T4,I,hr,eM,hg,hps,BV,hcs,q⟩
 have T4':=T4;obtain⟨dx,ho⟩:=I.ob;obtain⟨T,TP,TL,TS⟩:=T4;refine y2 {ho,BZ,x5 X cs _ M _ {rfl,T4',I,hr,λv H1 rv s=>?_}};rw[eM]at rv;revert rv;apply u2;rintro t0 u0 ⟨rfl,GP,F9⟩
 have I1:=I.same s;refine BB GP  rfl rfl ?_;obtain⟨dx1,ho1⟩:=I1.ob;obtain⟨dl1,el1⟩:=I1.ly.ob;obtain⟨db1,eb1⟩:=I1.bk.bk.ob;push_cast[↓xO_];refine KL TS (ho1) (eb1) (CT) (G3 TS (ho1) (el1) (B8) (N4 TL (I1.ly) λu hu=>{by decide,λnl hnl=>?_}))
 have sb:=AL (o:=.lst [V.int gone]) hnl
 have eu:=sb _ _ (show upd H1 u _ u=some (.tup [.int (BG X.n X.r X.c X.w 3 rec),.int<|rec%X.w]) by rw[AF];simp[BG])
 have en:upd (upd H1 u<|.tup [.int (X.n+rec/X.w),.int<|rec%X.w]) nl _ nl=some (.lst<|[(gone:Int)].map V.int):=AF
 have s2:=(AL  hu).trans sb;revert eu en s2;refine λeu en s2=>IH T4' (I1.same s2)  (x:=.no) (by decide) (hr) eu en (by simp) (oA hcs rfl) (λx hx=>by rw[ae.mp hx];exact{i0,dn.mpr hg}) trivial rfl trivial λch H3 I3 M3=>?_;push_cast[↓xP_];refine{by decide,λml hml=>?_}
 have sm:=AL (o:=.lst [V.int cs.length]) hml
 have I4:=I3.same sm
 have fml:=I3.bk.off hml
 have eu4:=sm _ _<|(KK M3 λx hx=>(I1.same s2).bk.loose hx) _ _ (s2 _ _ F9)
 have em4:upd H3 ml _ ml=some (.lst [V.int cs.length]):=AF
 have hmlH:H ml=none:=by
  cases e:H ml with
  |none=>rfl
  |some o=>have:=M3 _ _ (s2 _ _<|s _ _ e) fml;rw[hml]at this;cases this
 have sb4:SameBut _ H _:=λy o e n=>sm _ _<|M3 _ _ (s2 _ _<|s _ _ e) n;revert I4 eu4 em4 sb4;generalize upd H3 ml _=H4;intro I4 eu4 em4 sb4;obtain⟨dx4,ho4⟩:=I4.ob;obtain⟨dl4,el4⟩:=I4.ly.ob;push_cast[↓xR_];refine .inr {{_,SqT.of eu4},UR  (CC _ (by simp[AM];exact oA BV rfl)) (λi ys H'=>Same H4 H'/\∃ us:List _,ys=us.map V.ref/\Paired (λu p=>H' u=some (.tup [.int (BG X.n X.r X.c X.w 2 p),.int<|p%X.w])) us (ps.take i)) {Same.refl _,[],rfl,.nil} (λi ys H' j ⟨s',_⟩=>SqT.of<|s' _ _ eu4) (λi x ys H' hx hyl hzz=>?_) (λys H' hyl hzz lc hlc=>?_)};obtain⟨s',us,ey,pu⟩:=hzz;unfold AM at hx;rw[τ,aa]at hx;obtain⟨p,ep,rfl⟩:=hx;push_cast[CO];refine y3 {s' _ _ ho4,TS.cl,TS.n1,_,IG,y2 {s' _ _ el4,B8,x6 _ _ _ _ _ p {rfl,TL,I4.ly.same s',λu' hu'=>?_}}}
 have su:=AL (o:=.tup [.int (X.n+X.r+X.c+X.r+(p:Int)/X.w),.int<|(p:Int)%X.w]) hu';refine{s'.trans su,us++[u'],by rw[ey,ai];rfl,?_};rw[ci,ep];exact Paired.snoc (Paired.mapP pu λt r z=>su _ _ z) (by rw[AF];simp[BG]);obtain⟨s',us,rfl,pu⟩:=hzz;rw[show(AM ps).length=ps.length by simp[AM],bz]at pu
 have sc:=AL (o:=.lst<|us.map V.ref) hlc
 have s5:=s'.trans sc;refine G3 TS (s5 _ _ ho4) (s5 _ _ el4) (B8) (Dh TL (I4.ly.same s5) λur hur=>{by decide,λlr hlr=>.inl ?_})
 have se:=AL (o:=.lst [V.ref ur]) hlr
 have sd:=AL (o:=.tup [.int (X.n+X.r+X.c+(rec:Int)/X.w),.int<|(rec:Int)%X.w]) hur;refine x4 lc lr _ _ {rfl,rfl,se _ _<|sd _ _ AF,AF,CC _ (by have:=pu.length;simp;exact oA (ω (bh this) BV) rfl),λl2 C9=>?_}
 have sf':=AL (o:=.lst<|us.map V.ref++[V.ref ur]) C9
 have er:upd (upd (upd (upd H' lc<|.lst<|us.map V.ref) ur (.tup [.int (X.n+X.r+X.c+(rec:Int)/X.w),.int<|(rec:Int)%X.w])) lr (.lst [V.ref ur])) l2 (.lst<|us.map V.ref++[V.ref ur]) ur=some (.tup [.int (BG X.n X.r X.c X.w 1 rec:Nat),.int (rec%X.w:Nat)]):=(se.trans sf') _ _ (by rw[AF];simp[BG])
 have sg:=(sd.trans se).trans sf'
 have hl2F:¬ X.S.A.F l2:=by
  have:=((I4.same s5).same (sd.trans se)).bk.off C9;exact this
 have el2:upd (upd (upd (upd H' lc<|.lst<|us.map V.ref) ur (.tup [.int (X.n+X.r+X.c+(rec:Int)/X.w),.int<|(rec:Int)%X.w])) lr (.lst [V.ref ur])) l2 (.lst<|us.map V.ref++[V.ref ur]) l2=some (.lst<|(us++[ur]).map V.ref):=by rw[AF];simp
 have s6:=s5.trans sg
 have nlm:=(BI (se _ _<|sd _ _<|s5 _ _ em4) C9).symm
 have PP:Paired (λu (y:Nat × Nat)=>upd (upd (upd (upd H' lc<|.lst<|us.map V.ref) ur (.tup [.int (X.n+X.r+X.c+(rec:Int)/X.w),.int<|(rec:Int)%X.w])) lr (.lst [V.ref ur])) l2 (.lst<|us.map V.ref++[V.ref ur]) u=some (.tup [.int (BG X.n X.r X.c X.w y.1 y.2:Nat),.int (y.2%X.w:Nat)])) (us++[ur]) (ps.map (λp=>(2,p))++[(1,rec)]) :=
  Paired.snoc (N5 pu λu p z=>sg _ _<|sc _ _ z) er
 revert s6 el2 PP;generalize upd (upd (upd (upd H' lc<|.lst<|us.map V.ref) ur (.tup [.int (X.n+X.r+X.c+(rec:Int)/X.w),.int<|(rec:Int)%X.w])) lr (.lst [V.ref ur])) l2 (.lst<|us.map V.ref++[V.ref ur])=H6;intro el2 s6 PP;generalize us++[ur]=vs at el2 PP
 have hall:∀ y∈ps.map (λp=>(2,p))++[(1,rec)],(y.1=1\/y.1=2)/\y.2<BJ X.n X.r X.c X.w y.1:=λy hy=>by
  rcases a_.mp hy with hy|hy
  ·obtain⟨p,hp,rfl⟩:=av.mp hy;exact{.inr rfl,by simpa [BJ]using hps p hp}
  ·rw[ae.mp hy];exact{.inl rfl,by simpa [BJ]using hr}
 have hyl:(ps.map (λp=>((2:Nat),p))++[(1,rec)]).length=ps.length+1:=by simp
 have hfin:(ps.map (λp=>(2,p))++[(1,rec)]).foldl (λ(M:Hs) (y:Nat × Nat)=>M.put y.1 y.2 (.mk 0) [cs.length]) (M.put 3 rec .no [gone])=((M.put 3 rec .no [gone]).unmark cs.length ps).put 1 rec (.mk 0) [cs.length]:=by
  rw[ke,List.foldl_map];rfl
 revert hall hyl hfin PP;generalize ps.map (λp=>((2:Nat),p))++[(1,rec)]=pls;intro PP hall hyl hfin;refine(.inl ⟨{_,SqL.of el2},EV (xs:=vs.map V.ref) (drI a X cs tks M rec gone u0 ml pls H6)
  {{[ch],rfl,I4.same s6,by rw[s6 _ _ em4];simp[AM,bu],λy o e j=>e},_,rfl} (λi σ H' j {⟨_,_,_,_,sb'⟩,_}=>SqL.of<|sb' _ _ el2 ?_) (λi x σ H7 hx hzz=>?_) (λσ H7 hzz=>?_)⟩)
 rintro (y|y);exact hl2F y;exact nlm y;obtain⟨⟨ex,EG,I7,em7,sb7⟩,y6,rfl⟩:=hzz
 have hi:=(ε.mp hx).1;rw[ζ]at hi
 have hip:i<pls.length:=by rw[<-PP.length];exact hi
 have ey:=η hip;obtain⟨u',eu',hu'⟩:=JZ PP ey;rw[τ,eu']at hx;obtain rfl:=μ hx;obtain⟨hk12,hky⟩:=hall _<|θ ey
 have etk:pls.take (i+1)=pls.take i++[pls[i]]:=by rw[ci,ey];rfl
 revert etk hk12 hky hu';generalize pls[i]=y;intro hu' hk12 hky etk;obtain⟨dx7,ho7⟩:=I7.ob;obtain⟨db7,eb7⟩:=I7.bk.bk.ob;push_cast[↓xQ_]
 have k67:∀ b xs,H6 b=some (.tup xs)->H7 b=some (.tup xs):=λb xs e=>sb7 _ _ e λz=>z.elim (λz=>((I4.same s6).bk.loose z).1 _ e) λz=>by rw[z,s6 _ _ em4]at e;cases e
 refine{.inl {rfl,_,SqL.of em7},y3 {ho7,TS.cl,TS.n2,_,HH,y2 {eb7,CT,by decide,λn8 hn8=>?_}}}
 have s8:=AL (o:=.lst [V.int cs.length]) hn8;refine IH (ns:=[(cs.length:Int)]) T4' (I7.same s8) (kind:=y.1) (x:=.mk 0) (by lia) hky (s8 _ _<|k67 _ _ hu') AF (by simp) (by simp;lia) (λx hx=>by rw[ae.mp hx];exact{i0,by simp;lia}) trivial rfl (by rcases hk12 with z|z<;>rw[z]<;>exact bv _) λch9 H9 I9 OI=>?_
 have em9:=OI _ _ (s8 _ _ em7) fml;refine{_,em9,ψ (show(AM ((ν<|i+1).map (cs.length+·))).length<1000 by simp[AM];lia) (by decide),({{ex++[ch9],by simp[EG],by have:=I9.lput (ys:=AM ((ν<|i+1).map (cs.length+·))++[V.int ((cs++ex).length:Nat)]) em9 fml;rw[etk,ke,<-dw];exact this,by rw[AF];simp[AM,bu,EG],λb o e n=>?_},_,rfl})};rw[AI λz=>n<|.inr z];exact OI _ _ (s8 _ _<|sb7 _ _ e n) λz=>n<|.inl z;obtain⟨⟨ex,EG,I7,em7,sb7⟩,y6,rfl⟩:=hzz
 have hvl:=PP.length;rw[ζ,hvl,hyl]at EG em7;rw[ζ,hvl,bz,hfin]at I7;exact q ex ml H7 hmlH em7 EG I7 λy o e n=>(sb7 _ _ (s6 _ _<|sb4 _ _ e n) λy'=>y'.elim n λz=>by rw[z,hmlH]at e;cases e)
def MU{X:SX}{cs:z8}{tks:tS}{M:Hs}{H':Hp}{l:Addr}(I:X.at a H' cs tks M)(sb:SameBut (λx=>X.S.A.F x\/x=X.S.tk) H H')(hl:H' l=none):H l=none:=by
 cases e:H l with
 |none=>rfl
 |some o =>
  have:=sb _ _ e λz=>z.elim (I.bk.off hl) λz=>by rw[z,I.tk]at hl;cases hl
  rw[hl]at this;cases this
example:(zt5,YI,aD,6):=by
 apply u5;rintro X cs tks M z ⟨rfl,T4,I,hzl,hcs,q,q1,q2,q3⟩;obtain⟨dx,ho⟩:=I.ob
 have T4':=T4
 have hm3:BJ X.n X.r X.c X.w 3=X.r*X.w:=by simp[BJ]
 push_cast[aD,↓xY_];refine y2 {ho,BZ,by decide,λgl hgl=>?_}
 have s1:=AL (o:=.lst [V.str z]) hgl;refine x7 X cs _ M z gl [z] {rfl,T4,I.same s1,AF,by simp,λy hy=>by rw[ae.mp hy];exact hzl,λhb hc H2 s2=>?_,λhb H2 s2=>q1 (by simpa using hb) _ (s1.trans s2),λhb hc H2 s2=>q2 (by simpa using hb) hc _ (s1.trans s2)}
 have hb:BO z=true:=by simpa using hb
 have CS:=s1.trans s2;obtain⟨T,TP,TL,TS⟩:=T4;refine y3 {CS _ _ ho,TS.cl,TS.n1,_,IG,y3 {CS _ _ ho,TS.cl,TS.n2,_,HH,x2 _ _ {rfl,UQ T4' (I.same CS) (by decide) (λrec er G5 H3 s3=>?_) λer H3 s3=>q3 hb hc (.inl<|er) _ (CS.trans s3)}}}
 have s13:=CS.trans s3;refine y3 {s13 _ _ ho,TS.cl,TS.n1,_,IG,y3 {s13 _ _ ho,TS.cl,TS.n2,_,HH,x2 _ _ {rfl,UQ T4' (I.same s13) (by decide) (λcell ec BC H4 s4=>?_) λer H3 s3=>q3 hb hc (.inr<|er) _ (s13.trans s3)}}}
 have s14:=s13.trans s4
 have I4:=I.same s14;obtain⟨dl4,el4⟩:=I4.ly.ob;obtain⟨dx4,ho4⟩:=I4.ob;obtain⟨db4,eb4⟩:=I4.bk.bk.ob;push_cast[↓xZ_];refine KL TS (ho4) (eb4) (CT) (G3 TS (ho4) (el4) (B8) (Dh TL (I4.ly) λu hu=>{by decide,λl0 hl0=>?_}))
 have sb:=AL (o:=.lst []) hl0
 have eu:=sb _ _ (show upd H4 u _ u=some (.tup [.int (BG X.n X.r X.c X.w 1 rec),.int<|rec%X.w]) by rw[AF];simp[BG])
 have el0:upd (upd H4 u<|.tup [.int (X.n+X.r+X.c+rec/X.w),.int<|rec%X.w]) l0 _ l0=some (.lst<|([]).map V.int):=AF
 have s5:=(AL (o:=.tup [.int (X.n+X.r+X.c+rec/X.w),.int<|rec%X.w]) hu).trans sb;revert eu el0 s5;refine λeu el0 s5=>IH T4' (I4.same s5)  (x:=.mk 1) (by decide) (G5) eu el0 (by simp) (oA hcs rfl) (λx hx=>by cases hx) trivial rfl (υ _) λc1 H6 I6 sb6=>?_;obtain⟨dx6,ho6⟩:=I6.ob;obtain⟨dl6,el6⟩:=I6.ly.ob;obtain⟨db6,eb6⟩:=I6.bk.bk.ob;push_cast[↓yA_];refine KL TS (ho6) (eb6) (CT) (G3 TS (ho6) (el6) (B8) (N4 TL (I6.ly) λu2 hu2=>({by decide,λe6 he6=>{by decide,λt6 ht6=>{by decide,λl6 hl6=>?_}}})))
 have sc:=AL (o:=.tup [.int 1,.ref e6]) ht6
 have sd:=AL (o:=.lst [.int cs.length]) hl6
 have sb:=AL (o:=.tup []) he6
 have s67:=(((AL  hu2).trans sb).trans sc).trans sd
 have f1:=sd _ _ (sc _ _ (sb _ _ (show upd H6 u2 _ u2=some (.tup [.int (BG X.n X.r X.c X.w 3 rec),.int<|rec%X.w]) by rw[AF];simp[BG])))
 have f2:=sd _ _<|sc _ _<|AF   
 have f3:=sd _ _<|AF   
 have f4:=AF (H:=upd (upd (upd H6 u2<|.tup [.int (X.n+rec/X.w),.int<|rec%X.w]) e6 (.tup [])) t6 (.tup [.int 1,.ref e6])) (a:=l6) (o:=.lst [.int cs.length]);revert s67 f1 f2 f3 f4;refine λs67 f1 f2 f3 f4=>IH (ns:=[cs.length]) T4' (I6.same s67)  (x:=.rc 1 []) (by decide) (by exact G5) f1 f4 (by simp) (by simp;exact oC hcs rfl) (λx hx=>by rw[ae.mp hx];exact{i0,by simp;exact Ar _}) (aS (ps:=[]) f3 f2 (by simp)) (x2 t6 e6 ⟨rfl,f3,f2⟩) trivial λc2 H8 I8 sb8=>?_;obtain⟨dx8,ho8⟩:=I8.ob
 have CG:(cs++[c1]).length=cs.length+1:=by simp
 push_cast[↓yB_];rw[CG];refine y2 {ho8,BZ,x8 X _ _ _ _ _ _ z {rfl,T4',I8,BC,by simp,by simp;exact oH hcs rfl,Dc hb,λc3 H9 I9 OI=>{by decide,λl hl=>?_}}}
 have sl:=AL (o:=.lst [V.int cs.length,V.int<|cs.length+1,V.int<|(cs++[c1]++[c2]).length]) hl
 have sbH:SameBut (λx=>X.S.A.F x\/x=X.S.tk) H H9:=λy o e n=>OI _ _ (sb8 _ _ (s67 _ _<|sb6 _ _ (s5 _ _<|s14 _ _ e) λz=>n<|.inl z) λz=>n<|.inl z) λz=>n<|.inl z;exact q hb hc _ _ er ec G5 BC _ l _ rfl (MU I9 sbH hl) (by rw[AF];simp[AM,bu]) (by simpa using (I9.same sl)) λy o e n=>sl _ _<|sbH _ _ e n
example:(zt6,UC,aE,6):=by
 apply u6;rintro X cs tks M y z ⟨rfl,T4,I,hyl,hzl,hcs,q,q1,q2,q3,q4⟩
 have T4':=T4;obtain⟨dx,ho⟩:=I.ob;push_cast[aE,↓yC_];refine y2 {ho,BZ,by decide,λgl hgl=>?_}
 have s1:=AL (o:=.lst [V.str y,V.str z]) hgl;refine x7 X cs _ M z gl [y,z] {rfl,T4,I.same s1,AF,by simp,λx hx=>?_,λhb hc H2 s2=>?_,λhb H2 s2=>q1 (by simpa using hb) _ (s1.trans s2),λhb hc H2 s2=>?_};simp only[aj,bx,or_false]at hx;rcases hx with rfl|rfl
 exact hyl;exact hzl
 have hb:BO y=true/\BO z=true:=by simpa using hb
 have CS:=s1.trans s2;obtain⟨T,TP,TL,TS⟩:=T4;refine y2 {CS _ _ ho,BZ,x5 X cs _ M y {rfl,T4',I.same CS,λold rec eo hol eM H3 s3=>?_,λeo H3 s3=>q3 hb.1 hb.2 hc eo _<|CS.trans s3}}
 have s13:=CS.trans s3;refine y3 {s13 _ _ ho,TS.cl,TS.n1,_,IG,y3 {s13 _ _ ho,TS.cl,TS.n2,_,HH,x2 _ _ {rfl,UQ T4' (I.same s13) (by decide) (λcell ec BC H4 s4=>?_) λer H3 s3=>q4 hb.1 hb.2 hc ⟨_,eo⟩ (er) _ (s13.trans s3)}}};obtain⟨hr,m,ps,eR,hps,q⟩:=q hb.1 hb.2 hc _ _ _ eo hol eM
 have s14:=s13.trans s4;refine y2 {s14 _ _ ho,BZ,by decide,λl0 hl0=>?_}
 have s5:=AL (o:=.lst []) hl0;refine OM X cs _ M _ m _ 1 ps l0 [] {rfl,T4',(I.same s14).same s5,hr,eR,rfl,hps,AF,by simp,(λx hx=>by cases hx),oA hcs rfl,λc1 H6 I6 sb6=>?_};obtain⟨dx6,ho6⟩:=I6.ob;push_cast[↓yD_];refine y2 {ho6,BZ,x8 X _ _ _ _ _ _ z {rfl,T4',I6,BC,by simp,by simp;exact oC hcs rfl,Dc hb.2,λc2 H7 I7 sb7=>{by decide,λl hl=>?_}}}
 have sl:=AL (o:=.lst [V.int cs.length,V.int<|(cs++[c1]).length]) hl
 have sbH:SameBut (λx=>X.S.A.F x\/x=X.S.tk) H H7:=λy o e n=>sb7 _ _ (sb6 _ _ (s5 _ _<|s14 _ _ e) λz=>n<|.inl z) λz=>n<|.inl z;exact q ec BC _ l _ rfl (MU I7 sbH hl) (by rw[AF];simp[AM,bu]) (by simpa using (I7.same sl)) λy o e n=>sl _ _<|sbH _ _ e n
 have hb:BO y=true/\BO z=true:=by simpa using hb
 exact q2 hb.1 hb.2 hc _<|s1.trans s2
def zt7(n d:Nat):AM ((ν<|d+1).map (n+·))=[V.int n]++AM ((ν d).map (n+1+·)):=by
 rw[yp];simp[AM,d_,t_ 1]
example:(zt8,YJ,yG,4):=by
 apply u5;rintro X cs tks M z ⟨rfl,T4,I,hcs,q,q1⟩;obtain⟨dx,ho⟩:=I.ob;refine y2 {ho,BZ,x5 X cs _ M z {rfl,T4,I,λcell rec ec BC eM H1 s1=>?_,λeo H3 s3=>q1 eo _ s3}};obtain⟨hr,m,ps,eR,hps,BV,q2,q3⟩:=q _ _ ec BC eM;refine y2 {s1 _ _ ho,BZ,by decide,λl0 hl0=>?_}
 have s2:=AL (o:=.lst []) hl0;refine x8 X cs _ M _ z l0 [] {rfl,T4,(I.same s1).same s2,ec,BC,AF,by simp,(λx hx=>by cases hx),oA hcs rfl,λc1 H3 I3 M3=>?_}
 have sb:SameBut (λx=>X.S.A.F x\/x=X.S.tk) H H3:=λy o e n=>M3 _ _ (s2 _ _<|s1 _ _ e) n
 have eR':(M.put 0 cell .no<|LF []) 3 _=.rc m ps:=eR;obtain⟨dx3,ho3⟩:=I3.ob;refine y2 {ho3,BZ,x5 X _ _ _ _ {rfl,T4,I3,hr,λv H4 rv s4=>?_}};rw[eR']at rv;revert rv;apply u2;rintro t0 u0 ⟨rfl,GP,F9⟩
 have I4:=I3.same s4;refine BB GP  rfl rfl ?_;push_cast[];split;rename_i hm;push_cast[↓yE_];refine y2 {s4 _ _ ho3,BZ,by decide,λl5 hl5=>?_}
 have s5:=AL (o:=.lst [V.int cs.length]) hl5;refine OM X _ _ _ _ m (m-1) _ ps l5 [cs.length] {rfl,T4,I4.same s5,hr,eR',by lia,oA BV rfl,AF,by simp,(λx hx=>by rw[ae.mp hx];exact{i0,by simp;exact Ar _}),by simp;exact oC hcs rfl,λc2 H6 I6 sb6=>{by decide,λl hl=>?_}}
 have sl:=AL (o:=.lst [V.int cs.length,V.int<|(cs++[c1]).length]) hl
 have sbH:SameBut (λx=>X.S.A.F x\/x=X.S.tk) H H6:=λy o e n=>sb6 _ _ (s5 _ _<|s4 _ _<|sb _ _ e n) λz=>n<|.inl z;exact q2 (dn.mp hm) _ l _ rfl (MU I6 sbH hl) (by rw[AF];simp[AM,bu]) (by simpa using (I6.same sl)) λy o e n=>sl _ _<|sbH _ _ e n;push_cast[↓yF_];refine{by decide,λl5 hl5=>?_}
 have s5:=AL (o:=.lst [V.int cs.length]) hl5;refine y2 {s5 _ _<|s4 _ _ ho3,BZ,x8 X _ _ _ _ m _ ps {rfl,T4,(I4.same s5),hr,eR',by simp,hps,BV,by simp;exact oC hcs rfl,λex l H6 hl6 el6 hex I6 sb6=>.inl (x4 l5 l _ _ {rfl,rfl,sb6 _ _ AF<|I4.bk.off hl5,el6,CC _ (by simp[AM];lia),λl7 hl7=>?_})}}
 have sl:=AL (o:=.lst ([V.int cs.length]++AM ((ν<|ps.length+2).map ((cs++[c1]).length+·)))) hl7
 have sbH:SameBut (λx=>X.S.A.F x\/x=X.S.tk) H H6:=λy o e n=>sb6 _ _ (s5 _ _<|s4 _ _<|sb _ _ e n) λz=>n<|.inl z;exact q3 (by lia) (c1::ex) l7 _ (by simp[hex]) (MU I6 sbH hl7) (by rw[AF,zt7 _<|ps.length+2];simp) (by simpa using (I6.same sl)) λy o e n=>sl _ _<|sbH _ _ e n
def cat_tup(h1:H b=some (.tup xs))(h2:H d=some (.tup ys))(hy:ys≠[])(hl:xs.length+ys.length<=1000)(q:∀ p H',Same H H'->H' p=some (.tup<|xs++ys)->Q (.ref p) H'):BD K (.ref b) (.ref d) H Q:=by
 by_cases hx:xs=[];subst hx;exact .inr<|.inr<|x3 b d ys {rfl,rfl,SqT.of h1,SqT.of h2,q d H (Same.refl _) h2};exact .inr<|.inl<|x4 b d xs ys {rfl,rfl,SqT.of h1,SqT.of h2,hx,CC _<|oA hl rfl,λe=>absurd e hy,λz p hp=>q p _ (AL hp) AF}
example:(zt9,YK,yK,7):=by
 apply u6;rintro X cs tks M z t ⟨rfl,T4,I,htl,hts,hcs,q,q1,q2,q3⟩
 have T4':=T4;obtain⟨dx,ho⟩:=I.ob;refine y2 {ho,BZ,x5 X cs _ M z {rfl,T4,I,λcell rec ec BC eM H1 s1=>?_,λeo H3 s3=>q1 eo _ s3}};obtain⟨T,TP,TL,TS⟩:=T4;refine{t,rfl,htl,λH2 s2=>?_}
 have CS:=s1.trans s2;cases hb:IB t with
 |false =>
  exact{by decide,q2 ⟨_,ec⟩ hb _ CS}
 |true =>
  refine y3 {CS _ _ ho,TS.cl,TS.n1,_,IG,y3 {CS _ _ ho,TS.cl,TS.n2,_,HH,x2 _ _ {rfl,UQ T4' (I.same CS) (by decide) (λp ep BV H4 s4=>?_) λer H3 s3=>q3 ⟨_,ec⟩ hb (er) _ (CS.trans s3)}}};obtain⟨hr,m,ps,eR,hps,q⟩:=q _ _ ec BC eM hb p ep BV
  have s14:=CS.trans s4
  have I4:=I.same s14;obtain⟨dx4,ho4⟩:=I4.ob;obtain⟨dl4,el4⟩:=I4.ly.ob;obtain⟨db4,eb4⟩:=I4.bk.bk.ob;push_cast[↓yH_];refine KL TS (ho4) (eb4) (CT) (G3 TS (ho4) (el4) (B8) (lPM TL (I4.ly) λu hu=>{by decide,λl0 hl0=>?_}))
  have sb:=AL (o:=.lst []) hl0
  have sa:=AL (o:=.tup [.int (X.n+X.r+X.c+X.r+p/X.w),.int<|p%X.w]) hu
  have eu:=sb _ _ (show upd H4 u _ u=some (.tup [.int (BG X.n X.r X.c X.w 2 p),.int<|p%X.w]) by rw[AF];simp[BG])
  have el0:upd (upd H4 u<|.tup [.int (X.n+X.r+X.c+X.r+p/X.w),.int<|p%X.w]) l0 _ l0=some (.lst<|([]).map V.int):=AF
  have s5:=sa.trans sb;revert eu el0 s5;refine λeu el0 s5=>IH T4' (I4.same s5)  (x:=.mk 1) (by decide) (BV) eu el0 (by simp) (oA hcs rfl) (λx hx=>by cases hx) trivial rfl (υ _) λc1 H6 I6 sb6=>?_;obtain⟨dx6,ho6⟩:=I6.ob;obtain⟨dl6,el6⟩:=I6.ly.ob;obtain⟨db6,eb6⟩:=I6.bk.bk.ob;push_cast[↓yI_];refine KL TS (ho6) (eb6) (CT) (G3 TS (ho6) (el6) (B8) (Dg TL (I6.ly) λu2 hu2=>{by decide,λl6 hl6=>?_}))
  have sb:=AL (o:=.lst [.int cs.length]) hl6
  have f1:=sb _ _ (show upd H6 u2 _ u2=some (.tup [.int (BG X.n X.r X.c X.w 4 p),.int<|p%X.w]) by rw[AF];simp[BG])
  have sa:=AL (o:=.tup [.int (X.n+X.r+p/X.w),.int<|p%X.w]) hu2
  have f4:=AF (H:=upd H6 u2<|.tup [.int (X.n+X.r+p/X.w),.int<|p%X.w]) (a:=l6) (o:=.lst [.int cs.length])
  have s67:=sa.trans sb;revert s67 f1 f4;refine λf1 f4 s67=>IH (ns:=[cs.length]) T4' (I6.same s67)  (x:=.tx t) (by decide) (by exact BV) f1 f4 (by simp) (by simp;exact oC hcs rfl) (λx hx=>by rw[ae.mp hx];exact{i0,by simp;exact Ar _}) hts rfl trivial λc2 H8 I8 sb8=>?_;obtain⟨dx8,ho8⟩:=I8.ob
  have eR':((M.put 2 p (.mk 1) (LF [])).put 4 p (.tx t) (LF [cs.length])) 3 rec=.rc m ps:=eR;push_cast[↓yJ_];refine y2 {ho8,BZ,y2 {ho8,BZ,x5 X _ _ _ _ {rfl,T4',I8,hr,λv H9 rv s9=>?_}}};rw[eR']at rv;obtain⟨t0,u0,rfl,GP,F9⟩:=rv;refine BB GP  rfl rfl {by decide,λt9 ht9=>?_}
  have sa:=AL (o:=.tup [V.int p]) ht9;refine cat_tup (sa _ _ F9) AF (by simp) (by simp[AM];exact oA hps rfl) λpp H10 s10 epp=>{by decide,λl10 hl10=>?_}
  have sc:=AL (o:=.lst [V.int ((cs++[c1]).length)]) hl10
  have CS:=((s9.trans sa).trans s10).trans sc;refine OM X _ _ _ _ m ps (ps++[p]) pp _ [((cs++[c1]).length)] {rfl,T4',I8.same CS,hr,eR',sc _ _ (by rw[epp];simp[AM]),by simp;exact oA hps rfl,AF,by simp,(λx hx=>by rw[ae.mp hx];exact{i0,by simp}),by simp;exact oH hcs rfl,λc3 H13 I13 sb13=>{by decide,λl hl=>?_}}
  have sl:=AL (o:=.lst [V.int cs.length,V.int<|(cs++[c1]).length,V.int<|(cs++[c1]++[c2]).length]) hl
  have sbH:SameBut (λx=>X.S.A.F x\/x=X.S.tk) H _:=λy o e n=>sb13 _ _ (CS _ _<|sb8 _ _ (s67 _ _<|sb6 _ _ (s5 _ _<|s14 _ _ e) λz=>n<|.inl z) λz=>n<|.inl z) λz=>n<|.inl z;exact q _ l _ rfl (MU I13 sbH hl) (by rw[AF];simp[AM,bu]) (by simpa using (I13.same sl)) λy o e n=>sl _ _<|sbH _ _ e n
example:(zua,UD,yO,3):=by
 apply u5;rintro X cs tks M z ⟨rfl,T4,I,q,q1⟩
 have T4':=T4;obtain⟨dx,ho⟩:=I.ob;obtain⟨dl,el⟩:=I.ly.ob;obtain⟨db,eb⟩:=I.bk.bk.ob;obtain⟨T,TP,TL,TS⟩:=T4;refine y2 {ho,BZ (by decide),y2 {ho,BZ (by decide),x5 X cs _ M z {rfl,T4',I,λcell rec ec BC eM H1 s1=>?_,λeo H3 s3=>q1 eo _ s3}}};obtain⟨hr,m,ps,eR,hps,ts,pt,q⟩:=q _ _ ec BC eM;refine x5 X cs _ M _ {rfl,T4',I.same s1,hr,λv H2 rv s2=>?_};rw[eR]at rv;revert rv;apply u2;rintro t0 u0 ⟨rfl,GP,F9⟩
 have CS:=s1.trans s2;refine BB GP  rfl rfl (.inr {{_,SqT.of F9},UR  (CC _ (by simp[AM];exact oA hps rfl)) (λi ys H'=>Same H2 H'/\ys=(ts.take i).map V.str) {Same.refl _,rfl} (λi ys H' y ⟨s',_⟩=>SqT.of<|s' _ _ F9) (λi x ys H' hx hyl hzz=>?_) (λys H' hyl hzz lc hlc=>?_)});obtain⟨s',ey⟩:=hzz;unfold AM at hx;rw[τ,aa]at hx;obtain⟨p,ep,rfl⟩:=hx
 have hti:i<ts.length:=by have:=(ε.mp ep).1;have:=pt.length;lia
 have eti:=η hti;obtain⟨p',ep',RI,eP⟩:=JZ pt eti;rw[ep]at ep';obtain rfl:=μ ep'
 have hm:p<BJ X.n X.r X.c _ 4:=RI
 have sH:=CS.trans s'
 have I':=I.same sH;refine y3 {sH _ _ ho,TS.cl,TS.n2,_,HH,y2 {sH _ _ eb,CT (by decide),y3 {sH _ _ ho,TS.cl,TS.n1,_,IG,y2 {sH _ _ el,B8 (by decide),x6 _ _ _ _ _ p {rfl,TL,I'.ly,λu' hu'=>?_}}}}}
 have su:=AL (o:=.tup [.int (X.n+X.r+p/X.w),.int<|p%X.w]) hu';refine x9 _ _ _ _ cs _ u' _ _ {rfl,T,TP,I'.bk.same su,by rw[AF];simp[BG],λy v H3 ev s3=>?_,λz=>absurd (I.onPl  (by decide) hm) z}
 have rv:=I.rp 4 p v (by decide) hm ev;rw[eP]at rv;rw[rv];refine{(s'.trans su).trans s3,?_};rw[ci,eti,ey,ai]
 rfl;obtain⟨s',ey⟩:=hzz
 have hl:(AM ps).length=ts.length:=by rw[<-pt.length];simp[AM]
 rw[hl,bz]at ey;subst ey;exact q lc _ (CS.free<|s'.free hlc) ((CS.trans s').trans (AL  hlc)) AF
def zub(h1:H b=some (.tup xs))(h2:H d=some (.tup ys))(hl:xs.length+ys.length<=1000)(q:∀ p H',Same H H'->H' p=some (.tup<|xs++ys)->Q (.ref p) H'):BD K (.ref b) (.ref d) H Q:=by
 by_cases hy:ys=[];subst hy;by_cases hx:xs=[];subst hx;exact .inr<|.inr<|x3 b d [] {rfl,rfl,SqT.of h1,SqT.of h2,q d H (Same.refl _) h2};exact .inr (.inl (x4 b d xs [] {rfl,rfl,SqT.of h1,SqT.of h2,hx,CC _<|oA hl rfl,λz=>q b H (Same.refl _) (by rw[h1];simp),λe=>absurd rfl e}));exact cat_tup h1 h2 hy hl q
example:(zuc,YL,yN,6):=by
 apply u6;rintro X cs tks M z x ⟨rfl,T4,I,hcs,q,q1⟩
 have T4':=T4;obtain⟨dx,ho⟩:=I.ob;refine y2 {ho,BZ,x5 X cs _ M z {rfl,T4,I,λcell rec ec BC eM H1 s1=>?_,λeo H3 s3=>q1 eo _ s3}};obtain⟨hr,m,ps,eR,hps,q2,q3⟩:=q _ _ ec BC eM;refine y2 {s1 _ _ ho,BZ,x5 X cs _ M rec {rfl,T4,I.same s1,hr,λv H2 rv s2=>?_}};rw[eR]at rv;revert rv;apply u2;rintro t0 u0 ⟨rfl,GP,F9⟩
 have CS:=s1.trans s2;refine BB GP  rfl rfl ?_;push_cast[↓yL_];split;rename_i h0;refine{ps.length,.inr {_,SqT.of F9,by simp[AM]},?_};split;exact{by decide,q2 (by lia) _ CS};obtain⟨k,rfl⟩:∃ k:Nat,x=k:={_,(gr h0).symm}
 have hk:k<ps.length:=by lia
 have ek:=η hk;obtain⟨hp,q3⟩:=q3 k _ rfl ek
 have e1:HT.sIx (AM ps).length (AM ps).length (some k)=k:=by
  simp[AM];exact rf<|li hk
 refine y2 {CS _ _ ho,BZ,?_}
 have e2:HT.sIx (AM ps).length 0 (some<|k+1)=k+1:=by
  simp[AM];exact rf hk
 have hnl:(AM ps).length=ps.length:=by simp[AM]
 refine .inr (x2 u0 _ {rfl,SqT.of F9,λy=>by lia,λp1 OG=>?_})
 have sa:=AL (o:=.tup<|FX (AM ps) none (some k)) OG;refine .inr (x2 u0 _ {rfl,SqT.of<|sa _ _ F9,λy=>by lia,λp2 JP=>?_})
 have sb:=AL (o:=.tup<|FX (AM ps) (some<|k+1) none) JP
 have c1:FX (AM ps) none (some k)=AM (ps.take k):=by rw[oU _ (i0),b_];simp[AM]
 have c2:FX (AM ps) (some<|k+1) none=AM (ps.drop<|k+1):=by rw[XL _ (by exact i0)];simp[AM]
 rw[c1,c2]at sb;rw[c1]at sa;rw[c1,c2];refine zub (sb _ _ AF) AF (by simp[AM];lia) λpp H5 s5 epp=>{by decide,λl5 hl5=>?_}
 have sc:=AL (o:=.lst []) hl5
 have s6:=(((CS.trans sa).trans sb).trans s5).trans sc;refine OM X cs _ M _ m ps (ps.eraseIdx k) pp l5 [] {rfl,T4',I.same s6,hr,eR,sc _ _ (by rw[epp,ko];simp[AM]),(by rw[List.length_eraseIdx];split<;>lia),AF,by simp,(λx hx=>by cases hx),oA hcs rfl,λc1' H7 I7 sb7=>?_};obtain⟨T,TP,TL,TS⟩:=T4;obtain⟨dx7,ho7⟩:=I7.ob;obtain⟨dl7,el7⟩:=I7.ly.ob;obtain⟨db7,eb7⟩:=I7.bk.bk.ob;push_cast[↓yM_]
 have hm2:BJ X.n X.r X.c X.w 2=X.c*X.w:=by simp[BJ]
 refine y3 {ho7,TS.cl,TS.n2,_,HH,y2 {eb7,CT,y3 {ho7,TS.cl,TS.n1,_,IG,y2 {el7,B8,BB ((KK sb7 λx hx=>(I.same s6).bk.loose hx) _ _ ((((sa.trans sb).trans s5).trans sc) _ _ F9)) (n:=k) rfl (by unfold AM;rw[τ,ek];rfl) (x6 X.S.lp X.n X.r X.c X.w (ps[k]) {rfl,TL,I7.ly,λu hu=>{by decide,λl8 hl8=>?_}})}}}}
 have se:=AL (o:=.lst [.int cs.length]) hl8
 have sd:=AL (o:=.tup [.int (X.n+X.r+X.c+X.r+(ps[k]:Int)/X.w),.int<|(ps[k]:Int)%X.w]) hu;refine IH (ns:=[(cs.length:Int)]) T4' (I7.same<|sd.trans se) (kind:=2) (x:=.mk 0) (by decide) (by rw[hm2];exact hp) (se _ _ (show upd H7 u (.tup [.int (X.n+X.r+X.c+X.r+(ps[k]:Int)/X.w),.int<|(ps[k]:Int)%X.w]) u=some (.tup [.int (BG X.n X.r X.c X.w 2 ps[k]:Nat),.int (ps[k]%X.w:Nat)]) by rw[AF];simp[BG])) AF (by simp) (by simp;exact oC hcs rfl) (λx hx=>by rw[ae.mp hx];exact{i0,by simp;exact Ar _}) trivial rfl (bv _) λc2' H9 I9 OI=>{by decide,λl hl=>?_}
 have sl:=AL (o:=.lst [V.int cs.length,V.int ((cs++[c1']).length:Nat)]) hl
 have sbH:SameBut (λx=>X.S.A.F x\/x=X.S.tk) H H9:=λy o e n=>OI _ _ ((sd.trans se) _ _ (sb7 _ _ (s6 _ _ e) λz=>n<|.inl z)) λz=>n<|.inl z;exact q3 [c1',c2'] l _ rfl (MU I9 sbH hl) (by rw[AF];simp[AM,bu]) (by have:=I9.same sl;simpa using this) λy o e n=>sl _ _<|sbH _ _ e n;exact{by decide,q2 (by lia) _ CS}
def N7{f:sX}{m k:Nat}(h:EN f m=k):f k=true:=by
 unfold EN at h;cases e:(ν m).find? f with
 |none=>rw[e]at h;simp at h
 |some k' =>
  rw[e]at h
  have:=Jf e
  have  :=cg h;subst this
  assumption
def zud(hyz:y≠z)(fc:G0 0 (M 0 cell)=true):cellOf ((M.put 3 rec x n1).put 0 cell (.nm z rec) n2) m y=cellOf M m y:=by
 refine aR λk v=>?_;unfold D9;by_cases hk:k=cell;subst hk;rw[Hs.put_at];cases e:M 0 k with
 |nm z' r'=>rw[e]at fc;simp[G0]at fc
 |_=>simp;exact λh=>hyz h.symm
 rw[Hs.put_at,if_neg<|λz=>hk z.2,Hs.put_at,if_neg<|nE rfl]
example:(zue,YM,yV,6):=by
 apply u6;rintro X cs tks M y z ⟨rfl,T4,I,hyl,hzl,hcs,q,q1,q2,q3,q4⟩;obtain⟨dx,ho⟩:=I.ob;refine y2 {ho,BZ,x6 X cs _ M y z {rfl,T4,I,hyl,hzl,oA hcs rfl,λhy hz hc old rec cell eo hol e0=>?_,q1,q2,q3,q4}};obtain⟨hr,m,ps,e3,hps,q⟩:=q hy hz hc _ _ _ eo hol e0;refine{hr,x2 m ps {e3,hps,λec BC ex l1 H1 hex DI el1 I1 sb1=>?_}}
 have fc:=N7 ec
 have e01:((M.put 3 rec (.rc (m+1) ps) []).put 0 cell (.nm z rec) (cs.length::FG tks z)) 0 old=.nm y rec:=by rw[Hs.put_at,if_neg (λz=>(λh=>by rw[<-h,e0]at fc;simp[G0]at fc) z.2)];exact e0
 have ec1:cellOf ((M.put 3 rec (.rc (m+1) ps) []).put 0 cell (.nm z rec) (cs.length::FG tks z)) X.m0 y=some old:=by rw[zud (λh=>by rw[h,hc]at eo;cases eo) fc];exact eo
 obtain⟨dx1,ho1⟩:=I1.ob
 have fl1:¬ X.S.A.F l1/\l1≠X.S.tk:={λz=>(I.bk.off DI) z,λz=>by rw[z,I.tk]at DI;cases DI}
 refine y2 {ho1,BZ,x5 X _ _ _ y {rfl,T4,I1,λcell' k' ec' hc' eM' H2 s2=>?_,λe=>by rw[ec1]at e;cases e}};rw[ec1]at ec';obtain rfl:=μ ec';rw[e01]at eM';cases eM';push_cast[↓yT_];refine y2 {s2 _ _ ho1,BZ,CY (SqL.of<|s2 _ _ el1)  (v:=.int<|cs.length+1) rfl (by simp[AM]) {by decide,λl3 hl3=>?_}}
 have s3:=AL (o:=.lst [V.int (cs.length+1)]) hl3;refine x8 X _ _ _ _ y l3 [((cs.length+1))] {rfl,T4,((I1.same s2).same s3),ec1,hol,AF,by simp,(λx hx=>by rw[ae.mp hx];exact{i0,by simp[hex]}),by simp[hex];exact oH hcs rfl,λc3 H4 I4 sb4=>?_};obtain⟨dx4,ho4⟩:=I4.ob
 have CG:(cs++ex).length=cs.length+2:=by simp[hex]
 rw[CG];push_cast[↓yU_];refine y2 {ho4,BZ,by decide,λl5 hl5=>?_}
 have s5:=AL (o:=.lst [V.int (cs.length+2)]) hl5;refine OM X _ _ _ _ _ m _ ps l5 [((cs.length+2))] {rfl,T4,I4.same s5,hr,(by rw[Hs.put_at,if_neg<|nE rfl];exact(by rw[Hs.put_at,if_neg<|nE rfl,Hs.put_at,if_pos ⟨rfl,rfl⟩])),by lia,hps,AF,by simp,(λx hx=>by rw[ae.mp hx];exact{i0,by simp[hex]}),by simp[hex];exact oH hcs rfl,λc4 H6 I6 sb6=>{by decide,λl6 hl6=>.inl ?_}}
 have s6:=AL (o:=.lst [V.int (cs.length+2),V.int<|(cs++ex++[c3]).length]) hl6;refine x4 l1 l6 _ _ {rfl,rfl,s6 _ _<|sb6 _ _ (s5 _ _<|sb4 _ _ (s3 _ _<|s2 _ _ el1) λz=>z.elim fl1.1 fl1.2) fl1.1,AF,CC _ (by simp[AM]),λl hl=>?_}
 have sl:=AL (o:=.lst (AM ((ν 2).map (cs.length+·))++[V.int (cs.length+2),V.int<|(cs++ex++[c3]).length])) hl
 have h2:((cs.length:Int)+2).toNat=cs.length+2:=rfl
 have sbH:SameBut (λx=>X.S.A.F x\/x=X.S.tk) H _:=λb o e n=>s6 _ _<|sb6 _ _ (s5 _ _<|sb4 _ _ (s3 _ _<|s2 _ _<|sb1 _ _ e n) n) λz=>n<|.inl z;exact(q ec BC) (ex++[c3]++[c4]) l _ (by simp[hex]) (MU (I6.same s6) sbH hl) (by rw[AF];simp[AM,bu,hex]) (by simpa [hex,h2]using ((I6.same s6).same sl)) λb o e n=>sl _ _<|sbH _ _ e n
theorem Dl(C C':sX)(hC:∀ j,C j=true->C' j=true)(kind k:Nat):∀ as:Oz,(∃ x,∀ M,sh M C' as kind k=x)\/((∀ M,sh M C' as kind k=M kind k)/\∀ M,sh M C as kind k=M kind k)
 | []=>.inr {λ_=>rfl,λ_=>rfl}
 |b::r=>by
  have ih:=Dl C C' hC kind k r;by_cases e:kind=b.kind/\k=b.k;obtain⟨rfl,rfl⟩:=e;by_cases c:C' r.length=true;exact .inl {_,λM=>by rw[CZ c,CU]};rcases ih with⟨x,h⟩|⟨h1,h2⟩
  exact .inl {x,λM=>by rw[ED c];exact h M};exact .inr {λM=>by rw[ED c];exact h1 M,λM=>by rw[ED (λz=>c<|hC _ z)];exact h2 M}
  have far:∀ (D:sX) (M:Md),sh M D _ _ k=sh M D r _ k:=λD M=>by
   by_cases c:D r.length=true;rw[CZ c];exact if_neg e;rw[ED c]
  rcases ih with⟨x,h⟩|⟨h1,h2⟩
  exact .inl {x,λM=>by rw[far];exact h M};exact .inr {λM=>by rw[far];exact h1 M,λM=>by rw[far];exact h2 M}
def zuf(hC:∀ j,C j=true->C' j=true):sh (sh M C as) C' as kind k=sh M C' as kind k:=by
 rcases Dl C C' hC _ k as with⟨x,h⟩|⟨h1,h2⟩
 rw[h,h];rw[h1,h1,h2]
def zug:EW (cs++[ch]) O b row=if ch.blk=b/\O cs.length=true then(EW cs O b row).set ch.cell ch.val else EW cs O b row:=by
 have st:∀ (l:List _) (row:Oq),(∀ k∈l,k<cs.length)->l.foldl (HC (cs++[ch]) O) row=l.foldl (HC cs O) row:=by
  intro l
  induction l with
  |nil=>intro y y;rfl
  |cons k l ih =>
   intro row h;rw[gb,gb,ih _ λj hj=>h j<|ρ _ hj];unfold HC;rw[ba (h k χ)]
 have lt:∀ k∈DC cs b,k<cs.length:=λk hk=>by
  obtain⟨c,e,y⟩:=S8.mp hk;exact(ε.mp e).1
 have ib:DC (cs++[ch]) b=if ch.blk=b then DC cs b++[cs.length]else DC cs b:=by simp[DC,GY]
 unfold EW;rw[ib];by_cases e:ch.blk=b;rw[if_pos e,ke,st _ _ lt];simp only[gb,List.foldl_nil];unfold HC;rw[cf (υ _),vy];by_cases o:O cs.length=true;rw[if_pos o,if_pos ⟨e,o⟩];rfl;rw[if_neg o,if_neg λz=>o z.2];rw[if_neg e,if_neg λz=>e z.1,st _ _ lt]
section
variable{n r c w:Nat}{cs:z8}{as:Oz}
def LaidA.len(h:LaidA n r c w H cs as):cs.length=as.length:=by
 induction h with
 |nil=>rfl
 |snoc _ _ _ _ _ _ _ ih=>rw[af,ih];rfl
def LaidA.cut(h:LaidA n r c w H cs as)(hc:TF cs outs):GI (λj=>outs (j:Nat)) as:=by
 induction h with
 |nil=>trivial
 |@snoc cs as ch x l e1 e2 e3 e4 e5 e6 ih =>
  refine{ih λk c ec=>hc k c (by rw[ba (ε.mp ec).1];exact ec),λo=>?_}
  have nd:=hc _ ch (by rw[cf (υ _),vy];rfl) (by rw[l.len];exact o);exact{λy hy=>nd _<|(e4 _).mpr (.inl ⟨y,hy,rfl⟩),λj hj=>nd _<|(e4 _).mpr (.inr ⟨j,hj,rfl⟩)}
def LaidA.far(h:LaidA n r c w H cs as){C C':qW}(hC:∀ (j:Nat) (ch:Ch),cs[j]? =some ch->ch.blk≠b->C' j=C j)(hb:BG n r c w kind k≠b):sh M (λj=>C' (j:Nat)) as kind k=sh M (λj=>C (j:Nat)) as kind k:=by
 induction h with
 |nil=>rfl
 |@snoc cs as ch x l e1 e2 e3 e4 e5 e6 ih =>
  have ih:=ih λj c ec=>hC j c (by rw[ba (ε.mp ec).1];exact ec);by_cases e:kind=x.kind/\k=x.k
  have cc:=hC _ ch (by rw[cf (υ _),vy];rfl) (by rw[e1,<-e.1,<-e.2];exact hb);rw[l.len]at cc;by_cases o:C as.length=true;rw[CZ (C:=λj=>C j) o,CZ  (cc.trans o),e.1,e.2,CU,CU];rw[ED (C:=λj=>C j) o,ED  (by rw[cc];exact o)];exact ih
  have far:∀ D:Nat->Bool,sh M D _ _ k=sh M D as _ k:=λD=>by
   by_cases o:D as.length=true;rw[CZ o];exact if_neg e;rw[ED o]
  rw[far,far];exact ih
def LaidA.laid(h:LaidA n r c w H cs as)(hr:∀ kind k v,kind<5->k<BJ n r c w kind->BG n r c w kind k=b->row[k % w]? =some v->RepC H (S kind k) v):∀ kind k v,kind<5->k<BJ n r c w kind->BG n r c w kind k=b->(EW cs O b row)[k % w]? =some v->RepC H (sh S (λj=>O (j:Nat)) as kind k) v:=by
 induction h with
 |nil=>exact hr
 |@snoc cs as ch x l e1 e2 e3 e4 e5 e6 ih =>
  intro kind k v h1 hk hb hv;rw[zug]at hv
  have ih:=ih _ k v h1 hk hb;by_cases e:kind=x.kind/\k=x.k;obtain⟨rfl,rfl⟩:=e;rw[e1,hb]at hv;by_cases o:O as.length=true;rw[CZ  o,CU];rw[if_pos {rfl,by rw[l.len];exact o},e2]at hv
  have hl:=(ε.mp hv).1;rw[jd]at hl;rw[dv hl]at hv;obtain rfl:=μ hv;exact e3;rw[ED  o];rw[if_neg λz=>o (by rw[<-l.len];exact z.2)]at hv;exact ih hv
  have far:sh S (λj=>O j) (x::as) kind k=sh S (λj=>O j) as kind k:=by
   by_cases o:O as.length=true;rw[CZ  o];exact if_neg e;rw[ED  o]
  rw[far];refine ih ?_;split at hv;rename_i z
  have:ch.cell≠k%w:=λy=>e ((aP     h1 e5 hk e6 (by rw[hb,<-e1];exact z.1.symm) (by rw[<-y,e2])));rw[fh this]at hv;exact hv;exact hv
end
def RowsAre.keep(h:RowsAre H n r c w rows S)(k:D3 H H'):RowsAre H' n r c w rows S:=λkind i v h1 h2 h3=>(h _ i v h1 h2 h3).keep k
def RowsAre.write{rows:sT}{outs:qW}(h:RowsAre H n r c w rows (sh B (λj=>outs (j:Nat)) as))(l:LaidA n r c w H cs as)(er:rows[b]? =some row) :
  RowsAre H n r c w (rows.set b<|EW cs (C3 cs outs b) b row) (sh B (λj=>C3 cs outs b (j:Nat)) as):=λkind k v h1 hk hv=>by
 by_cases e:BG n r c w kind k=b;rw[e,dv<|(ε.mp er).1]at hv
 have:=l.laid     (λkind k v h1 hk e hv=>h _ k v h1 hk (by rw[e,er];exact hv)) _ k v h1 hk e hv;rw[zuf   (λj e=>by unfold C3;rw[e];rfl)]at this;exact this;rw[fh (λz=>e z.symm)]at hv;rw[l.far    (λj ch ej nb=>?_) e];exact h _ k v h1 hk hv;unfold C3
 have:(outcome cs outs (λy=>false) b).out.any (λi=>j ==(i:Int))=false:=by
  rw[Eo];intro z;obtain⟨i,hi,ei⟩:=dq.mp z
  have ei:=cg (beq_iff_eq.mp ei).symm;subst ei;obtain⟨c',ec',eb⟩:=S8.mp<|(TC.2.1 i hi).2;rw[ej]at ec';obtain rfl:=μ ec';exact nb eb
 rw[this,pq]
def zuh(hn:DR cs (b:Nat) (j:Nat)=none):(EW cs O b row)[j]? =row[j]? :=by
 rw[zg4,pE];cases el:JB cs _ j with
 |none=>simp
 |some c =>
  obtain⟨k,hk,ec,ecell,z⟩:=pF el;obtain⟨c',ec',eb⟩:=S8.mp (dh.mp hk).1;rw[ec]at ec';obtain rfl:=μ ec';refine u2 ?_<|zg5 ec;rintro j0 c0 ⟨hn0,z⟩;rw[eb,ecell,hn]at hn0;cases hn0
def zui(h:v∈EW cs O b row):v∈row\/∃ c∈cs,v=c.val:=by
 unfold EW at h;revert h;generalize DC cs b=l
 induction l generalizing row with
 |nil=>exact .inl
 |cons k l ih =>
  intro h;rcases ih h with h|h
  unfold HC at h;split at h;split at h;rename_i c ec;rcases pd h with h|h
  exact .inl h;exact .inr {c,θ ec,h};exact .inl h;exact .inl h;exact .inr h
theorem KM{α β :Type}{F: α -> β ->Prop}{x: α}:∀ {l:List α} {m:List β} {i:Nat},Paired F l m->l[i]? =some x->∃ y,m[i]? =some y/\F x y
 |_,_,0,.cons h _,e=>{_,rfl,by cases e;exact h}
 |_,_,i+1,.cons _ t,e=>KM (i:=i) t e
example:(zuj,YN,yR,4):=by
 apply u5;rintro X cs tks M z ⟨rfl,T4,I,q,qE⟩;obtain⟨dx,ho⟩:=I.ob
 have T4':=T4;obtain⟨T,TP,TL,TS⟩:=T4;refine y2 {ho,BZ (by decide),x5 X cs _ M z {rfl,T4',I,λcell rec e BC hm H1 s1=>?_,qE}};obtain⟨hr,m,ps,e3,hps,RI,q⟩:=q _ _ e BC hm
 have I1:=I.same s1;obtain⟨d1,ho1⟩:=I1.ob;obtain⟨dl1,el1⟩:=I1.ly.ob;push_cast[↓yP_];refine G3 TS ho1 el1 (B8 (by decide)) (y2 {ho1,BZ (by decide),x5 X cs _ M z {rfl,T4',I1,λH2 s2=>?_}});rw[e]
 have I2:=I1.same s2;refine Dd  TL I2.ly λt1 ht1=>?_
 have I3:=I2.same<|AL (o:=.tup [.int (0+cell/X.w),.int<|cell%X.w]) ht1;obtain⟨d3,ho3⟩:=I3.ob;obtain⟨dl3,el3⟩:=I3.ly.ob
 have b1:∀ k:Nat,[V.int _,V.int _]=JD X (0,k):=λk=>by
  rfl
 have b3:∀ k:Nat,[V.int _,V.int _]=JD X (3,k):=λk=>rfl;refine G3 TS ho3 el3 (B8 (by decide)) (N4  TL I3.ly λt2 ht2=>{by decide,λl1 DI=>?_})
 have st3:=AL (o:=.lst [.ref t1,.ref t2]) DI
 have st2:=AL (o:=.tup [.int (X.n+rec/X.w),.int<|rec%X.w]) ht2
 have et1:=st3 _ _<|st2 _ _<|AF   
 have et2:=st3 _ _<|AF  
 have s4:=s1.trans<|s2.trans<|(AL  ht1).trans (st2.trans st3)
 have el1':upd (upd (upd H2 t1<|.tup [.int (0+cell/X.w),.int<|cell%X.w]) t2 (.tup [.int (X.n+rec/X.w),.int<|rec%X.w])) l1 _ l1=some (.lst [.ref t1,.ref t2]):=AF;push_cast[↓yQ_];revert et1 et2 s4 el1';intro et1 et2 s4 el1'
 have I4:=I.same s4;obtain⟨d4,ho4⟩:=I4.ob;refine y2 {ho4,BZ (by decide),x5 X cs _ M _ {rfl,T4',I4,hr,λv H5 rv s5=>?_}};rw[e3]at rv;revert rv;apply u2;rintro t u ⟨rfl,et,eu⟩;refine BB et  rfl rfl (.inr {{_,SqT.of eu},UR  (CC _ (by simp[AM];exact oA hps rfl)) (λi ys H'=>Same H5 H'/\∃ ts:List _,ys=ts.map V.ref/\Paired (λt p=>H' t=some (.tup<|JD X p)) ts ((ps.take i).map λp=>(4,p))) {Same.refl _,[],rfl,.nil} (λi ys H' y ⟨s',_⟩=>SqT.of<|s' _ _ eu) (λi x ys H' hx hyl hzz=>?_) (λys H' hyl hzz lc hlc=>?_)});obtain⟨s',ts,ey,P⟩:=hzz;unfold AM at hx;rw[τ,aa]at hx
 have I6:=(I4.same s5).same s';obtain⟨p,hp,rfl⟩:=hx;obtain⟨d6,ho6⟩:=I6.ob;obtain⟨dl6,el6⟩:=I6.ly.ob;push_cast[CO];refine G3 TS ho6 el6 (B8 (by decide)) (Dg  TL I6.ly λt ht=>{s'.trans<|AL ht,ts++[t],by rw[ey,ai];rfl,?_});rw[ci,hp,ai];exact Paired.snoc (Paired.mapP P λt p h=>AL ht _ _ h) AF;obtain⟨s',ts,ey,P⟩:=hzz;rw[ey]
 have s6:=AL (o:=.lst<|ts.map V.ref) hlc
 have hts:ts.length<=100:=by
  have:=P.length;rw[ζ,ce]at this
  lia
 refine .inl (x4 l1 lc _ _ {rfl,rfl,s6 _ _<|s' _ _<|s5 _ _ el1',AF,by rw[sx];simp;lia,λl hl=>?_})
 have s7:=s6.trans<|AL (o:=.lst<|[V.ref t1,V.ref t2]++ts.map V.ref) hl
 have s57:=s5.trans<|s'.trans s7;refine q l _ _ (s4.trans s57) AF (.cons ?_<|.cons ?_ ?_);exact s57 _ _ et1;exact s57 _ _ et2
 have P':=Paired.mapP P λt p h=>s7 _ _ h;rw[dz (by simp[AM])]at P';exact P'
example:(zuk,QN,yY,4):=by
 apply u5;rintro X cs tks M z ⟨rfl,T4,I,q,qE⟩;obtain⟨dx,ho⟩:=I.ob
 have T4':=T4;obtain⟨T,TP,TL,TS⟩:=T4;refine y2 {ho,BZ (by decide),y5 {rfl,TS,ho,?_}};push_cast[↓yW_];refine y2 {ho,BZ (by decide),x5 X cs _ M z {rfl,T4',I,λcell rec e BC hm=>?_,qE}};obtain⟨hr,m,ps,e3,hps,RI,q⟩:=q _ _ e BC hm;refine{hr,x2 m ps {e3,hps,RI,λl ts H1 s1 el P=>(.inl {{_,SqL.of el},?_})}}
 have I1:=I.same s1
 have hts:ts.length<=102:=by
  have:=P.length;unfold DH at this;simp at this
  lia
 have on:∀ p∈DH cell rec ps,p.1<5/\p.2<BJ _ _ _ _ p.1:=λp hp=>by
  rcases aj.mp hp with rfl|hp
  exact{by show 0<5;decide,BC};rcases aj.mp hp with rfl|hp
  exact{by show 3<5;decide,hr};obtain⟨k,hk,rfl⟩:=av.mp hp;exact{by show 4<5;decide,RI k hk}
 refine mI  (CC _ (by rw[ζ];exact oA hts rfl)) (λi ys H'=>Same H1 H'/\ys=((DH cell rec ps).take i).map λp=>NS<|DR cs (BG X.n X.r X.c X.w p.1 p.2) (p.2%X.w:Nat)) {Same.refl _,rfl} (λi ys H' _ ⟨s',_⟩=>SqL.of<|s' _ _ el) (λi x ys H' hx hyl hzz=>?_) (λys H' hyl hzz lc hlc=>?_);obtain⟨s',ey⟩:=hzz;rw[τ,aa]at hx
 have I2:=I1.same s';obtain⟨t,ht,rfl⟩:=hx;obtain⟨p,hp,e1⟩:=KM P ht;obtain⟨o1,o2⟩:=on p<|θ hp;obtain⟨db,eb⟩:=I2.bk.bk.ob;refine y2 {eb,CT (by decide),x9 _ _ _ _ cs _ t _ _ {rfl,T,TP,I2.bk,s' _ _ e1,λ_=>{s',?_},λz=>absurd (I2.onPl o1 o2) z}};rw[ci,hp,ai,ey]
 rfl;obtain⟨s',ey⟩:=hzz
 have e6:upd H' lc _ lc=some (.lst ys):=AF;push_cast[↓yX_];refine .inl {{_,SqL.of e6},WU (λv=>match v with|.non=>false|_=>true) (CC _ (by simp at *;lia)) (SqL.of e6) (λv hv QB qb=>?_) λl2 C9=>?_};rw[ey]at hv;obtain⟨p,_,rfl⟩:=av.mp hv;revert qb;cases DR cs _ _ with
 |none=>intro qb;exact qb
 |some k=>intro qb;exact qb
 have ef:ys.filter (λv=>match v with|.non=>false|_=>true)=(EY X cs<|DH cell rec ps).map V.int:=by
  rw[ey,dz (by rw[ζ];exact bh P.length.symm)];unfold EY;generalize DH _ _ ps=L
  induction L with
  |nil=>rfl
  |cons p L ih =>
   rw[dg,jh];cases DR cs _ _ with
   |none=>exact ih
   |some k=>exact congrArg _ ih
 have s7:=(AL  hlc).trans (AL (o:=.lst<|(EY X cs<|DH cell rec ps).map V.int) C9);rw[ef]
 have ln:(EY X cs<|DH cell rec ps).length<=200:=by
  refine ω (fu _ _) ?_;exact oA (ω (bh P.length.symm) hts) rfl
 refine x8 _ _ _ _ cs _ l2 _ {rfl,T,(I1.same<|s'.trans s7).bk,SqL.of AF,by omega,λ_ l' row R H8 c1 c2 c3 c4 s8 e8=>q l' _ R H8 c1 c2 c3 ((s1.trans<|s'.trans s7).free c4) (s1.trans<|(s'.trans s7).trans s8) e8,λhzz=>?_};obtain⟨x,hx,nx⟩:=hzz;exfalso;obtain⟨p,_,ex⟩:=ix.mp hx;obtain⟨k,ek,rfl⟩:=aa.mp ex;exact nx {i0,dn.mpr<|MF ek}
def FZ{c A B:Prop}[Decidable c](h:c)(x:A):if c then A else B:=by rw[if_pos h];exact x
def E5{c A B:Prop}[Decidable c](h:¬ c)(x:B):if c then A else B:=by rw[if_neg h];exact x
def zul{α :Type}{l:List (Option α)}{k:Nat}{c: α}(h:AY l k=some c):some c∈l:=by
 unfold AY at h;cases e:l[k]? with
 |none=>rw[e]at h;cases h
 |some y =>
  rw[e]at h;exact h ▸ θ e
def FindsL.on{H':Hp}{l:Addr}{fs:sT}(h:FindsL H l fs)(hl:∀ o,H l=some o->H' l=some o)(tk:D3 H H'):FindsL H' l fs:=by
 obtain⟨ps,e,P⟩:=h;exact{ps,hl _ e,Paired.mapP P λp f e=>tk _ _ e}
def NmV.keep(k:D3 H H')(h:NmV H v c):NmV H' v c:=by
 cases c with
 |none=>exact h
 |some c=>obtain⟨p,e,h1⟩:=h;exact{p,e,k _ _ h1}
def RcV.keep(k:D3 H H')(h:RcV H v c):RcV H' v c:=by
 cases c with
 |none=>exact h
 |some c=>revert h;apply u2;rintro p q ⟨e,h1,h2⟩;exact x2 p q {e,k _ _ h1,k _ _ h2}
def PcV.keep(_:D3 H H')(h:PcV H v c):PcV H' v c:=by
 cases c<;>exact h
def MkV.keep(_:D3 H H')(h:MkV H v c):MkV H' v c:=by
 cases c<;>exact h
def LstAt.keep{α :Type}{R:Hp->V-> α ->Prop}{H':Hp}{p:Addr}{cs:List α}(h:LstAt R H p cs)(kr:∀ v c,R H v c->R H' v c)(kp:∀ o,H p=some o->H' p=some o):LstAt R H' p cs:=by
 obtain⟨vs,e,P⟩:=h;exact{vs,kp _ e,Paired.mapP P λv c=>kr v c}
def FindsL.same(h:FindsL H l fs)(s:Same H H'):FindsL H' l fs:=by
 obtain⟨ps,e,P⟩:=h;exact{ps,s _ _ e,Paired.mapP P λp f e=>s _ _ e}
def ViewAt.same{H':Hp}{x:Addr}{A:VA}{vw:Vw}(h:ViewAt a H x A vw)(s:Same H H'):ViewAt a H' x A vw:=by
 obtain⟨⟨dx,e⟩,h1,h2,h3,h4,h5,h6,h7,h8,ok⟩:=h;exact{{dx,s _ _ e},h1.keep (λv c=>NmV.keep s.tk) (λo=>s _ _),h2.keep (λv c=>RcV.keep s.tk) (λo=>s _ _),h3.keep (λv c=>PcV.keep s.tk) (λo=>s _ _),h4.keep (λv c=>MkV.keep s.tk) (λo=>s _ _),h5.keep (λv c=>MkV.keep s.tk) (λo=>s _ _),s _ _ h6,s _ _ h7,s _ _ h8,ok}
def LstAt.at{α :Type}{R:Hp->V->Option α ->Prop}{p:Addr}{cs:List (Option α)}{k:Nat}(h:LstAt R H p cs)(hk:k<cs.length):∃ vs v,H p=some (.lst vs)/\vs.length=cs.length/\vs[k]? =some v/\R H v (AY cs k):=by
 obtain⟨vs,e,P⟩:=h;obtain⟨v,ev,hr⟩:=JZ P<|η hk;refine x2 vs v {e,P.length,ev,?_};unfold AY;rw[η hk];exact hr
def US{l:t3}{k:Nat}{m:Nat}(h:l[k]? =some m):(AM l)[k]? =some (.int m):=by
 unfold AM;rw[τ,h]
 rfl
def N8{n k:Nat}{f:Nat->Nat}(h:k<n):((ν n).map f)[k]? =some (f k):=by
 rw[τ,vp h]
 rfl
def Q7{p:Addr}{n k:Nat}{f:Nat->Nat}{Q:VK}(h:H p=some (.lst<|AM<|(ν n).map f))(hk:k<n)(q:Q (.int<|f k) H):BX K (.ref p) (.int k) H Q :=
 CY (SqL.of h)  rfl (US<|N8 hk) q
def zum:(vf A).lookup ("name_values":Str)=some (V.ref A.n):=by simp[vf]
def UT:(vf A).lookup ("record_values":Str)=some (V.ref A.r):=by
 simp[vf,ao,A9 (a:="record_values") (b:="name_values") (by decide)]
def zun:(vf A).lookup ("piece_values":Str)=some (V.ref A.p):=by
 simp[vf,ao,A9 (a:="piece_values") (b:="name_values") (by decide),A9 (a:="piece_values") (b:="record_values") (by decide)]
def Dm{A:VA}:(vf A).lookup ("record_marks":Str)=some (V.ref A.rm):=by
 simp[vf,ao,A9 (a:="record_marks") (b:="name_values") (by decide),A9 (a:="record_marks") (b:="record_values") (by decide),A9 (a:="record_marks") (b:="piece_values") (by decide)]
def Dp{A:VA}:(vf A).lookup ("piece_marks":Str)=some (V.ref A.pm):=by
 simp[vf,ao,A9 (a:="piece_marks") (b:="name_values") (by decide),A9 (a:="piece_marks") (b:="record_values") (by decide),A9 (a:="piece_marks") (b:="piece_values") (by decide),A9 (a:="piece_marks") (b:="record_marks") (by decide)]
def aT{A:VA}:(vf A).lookup ("leads":Str)=some (V.ref A.ld):=by
 simp[vf,ao,A9 (a:="leads") (b:="name_values") (by decide),A9 (a:="leads") (b:="record_values") (by decide),A9 (a:="leads") (b:="piece_values") (by decide),A9 (a:="leads") (b:="record_marks") (by decide),A9 (a:="leads") (b:="piece_marks") (by decide)]
def Dq{A:VA}:(vf A).lookup ("namings":Str)=some (V.ref A.ng):=by
 simp[vf,ao,A9 (a:="namings") (b:="name_values") (by decide),A9 (a:="namings") (b:="record_values") (by decide),A9 (a:="namings") (b:="piece_values") (by decide),A9 (a:="namings") (b:="record_marks") (by decide),A9 (a:="namings") (b:="piece_marks") (by decide),A9 (a:="namings") (b:="leads") (by decide)]
def zuo:(vf A).lookup ("reached":Str)=some (V.ref A.rh):=by
 simp[vf,ao,A9 (a:="reached") (b:="name_values") (by decide),A9 (a:="reached") (b:="record_values") (by decide),A9 (a:="reached") (b:="piece_values") (by decide),A9 (a:="reached") (b:="record_marks") (by decide),A9 (a:="reached") (b:="piece_marks") (by decide),A9 (a:="reached") (b:="leads") (by decide),A9 (a:="reached") (b:="namings") (by decide)]
def MV{A:VA}{x:Str}(h:(DS x "name_values" || DS x "record_values" || DS x "piece_values" || DS x "record_marks" || DS x "piece_marks" || DS x "leads" || DS x "namings" || DS x "reached")=false):(vf A).lookup x=none:=by
 simp only[h_]at h;obtain⟨⟨⟨⟨⟨⟨⟨h1,h2⟩,h3⟩,h4⟩,h5⟩,h6⟩,h7⟩,h8⟩:=h;simp[vf,ao,A9 h1,A9 h2,A9 h3,A9 h4,A9 h5,A9 h6,A9 h7,A9 h8]
section
variable{tt:TT}{te:TE}{A7:t3}{σ:St}
def HI{H0 H':Hp}{l:Addr}{o:HO}(s:Same H0 H')(h:H' l=none):Same H0 (upd H' l o):=s.trans<|AL h
def FnW(H:Hp)(is:t3)(p:sX)(f:tU)(i:Nat)(ys:Oq)(H':Hp):Prop:=Same H H'/\∃ ps:tW,ys=ps.map V.ref/\Paired (λq g=>H' q=some (.tup g)) ps (((is.take i).filter p).map f)
def JI{α :Type}{l:List α}{i:Nat}{x: α}(h:l[i]? =some x):l.take (i+1)=l.take i++[x]:=by
 obtain⟨g1,g2⟩:=ε.mp h;rw[<-g2,ki]
def FnW.yes{p:sX}{f:tU}(h:FnW H is p f i ys H')(hk:is[i]? =some k)(hp:p k=true)(ht:H' t=none):FnW H is p f (i+1) (ys++[.ref t]) (upd H' t<|.tup<|f k):=by
 obtain⟨s,ps,e,P⟩:=h;refine{HI s ht,ps++[t],by rw[e,ai];rfl,?_};rw[JI hk,l_,ai]
 have:([k].filter p).map f=[f k]:=by simp[hp]
 rw[this];exact Paired.snoc (Paired.mapP P λq g e=>AL ht _ _ e) AF
def FnW.no{is:t3}{p:sX}{f:tU}{i k:Nat}{ys:Oq}{H':Hp}(h:FnW H is p f i ys H')(hk:is[i]? =some k)(hp:p k=false):FnW H is p f (i+1) ys H':=by
 obtain⟨s,ps,e,P⟩:=h;refine{s,ps,e,?_}
 have:([k].filter p).map f=[]:=by simp[hp]
 rw[JI hk,l_,ai,this,il];exact P
def FnW.len{is:t3}{p:sX}{f:tU}{i:Nat}{ys:Oq}{H':Hp}(h:FnW H is p f i ys H'):ys.length<=i:=by
 obtain⟨s,ps,e,P⟩:=h;rw[e,ζ,P.length,ζ];exact ω (cr ..) (by rw[ce];lia)
def FnW.fin{is:t3}{p:sX}{f:tU}{ys:Oq}{H':Hp}{l:Addr}(h:FnW H is p f is.length ys H')(hl:H' l=none):H l=none/\Same H (upd H' l<|.lst ys)/\FindsL (upd H' l<|.lst ys) l ((is.filter p).map f):=by
 obtain⟨s,ps,rfl,P⟩:=h;rw[bz]at P;exact{s.free hl,HI s hl,ps,AF,Paired.mapP P λq g e=>AL hl _ _ e}
def MW{b:Addr}{is:t3}(p:sX)(f:tU)(hb:H b=some (.lst<|AM is))(hn:is.length<=1000)
  (ht:∀ k∈is,∀ H',Same H H'->∀ QB:Bool->Hp->Prop,QB (p k) H'->tt (some (.int (k:Int))::CO A7 σ) H' QB)
  (he:∀ k∈is,p k=true->∀ H' (Q':VK),Same H H'->(∀ t,H' t=none->Q' (.ref t) (upd H' t<|.tup<|f k))->te (some (.int (k:Int))::CO A7 σ) H' Q') (hd:newF ((is.filter p).map f) H Q):D8 (GB K b) (AE 0) tt te 1 A7 σ H Q:=by
 have at':∀ {i:Nat} {x:V},(AM is)[i]? =some x->∃ k,is[i]? =some k/\x=.int k:=λe=>by
  unfold AM at e;rw[τ,aa]at e;obtain⟨k,h1,h2⟩:=e;exact⟨k,h1,h2.symm⟩
 have hl:(AM is).length=is.length:=by simp[AM]
 refine W8  (λi=>match is[i]? with
  |some k=>p k
  |none=>false) (CC _<|oA (ω (bh hl) hn) rfl) (FnW H is p f) {Same.refl _,[],rfl,.nil} (λi ys H' _ h=>{SqL.of<|h.1 _ _ hb,h.len}) (λi x ys H' hx h QB qb=>?_) (λi x ys H' hx hp h=>?_) (λi x ys H' hx hp h=>?_) (λys H' h q hq=>?_)
 obtain⟨k,ek,rfl⟩:=at' hx;simp only[ek]at qb;exact ht k (θ ek) H' h.1 QB qb;obtain⟨k,ek,rfl⟩:=at' hx;simp only[ek]at hp;exact he k (θ ek) hp H' _ h.1 λt ht0=>h.yes ek hp ht0;obtain⟨k,ek,rfl⟩:=at' hx;simp only[ek]at hp;exact h.no ek hp;rw[hl]at h;obtain⟨h1,h2,h3⟩:=h.fin hq;exact hd q _ h1 h2 h3
def Q8{b:Addr}{xs:Oq}(p:sX)(hb:H b=some (.lst xs))(hn:xs.length<=1000)
  (ht:∀ i x,xs[i]? =some x->∀ H',Same H H'->∀ QB:Bool->Hp->Prop,QB (p i) H'->tt (some (.int (i:Int))::some x::CO A7 σ) H' QB) (hd:newL (AM<|(ν xs.length).filter p) H Q):D8 (K6 K b) (FN K 2<|DK (AE 0) (DK (AE 1) FM)) tt (DU 0) 2 A7 σ H Q:=by
 refine W9  p (CC _<|oA hn rfl) (λi ys H'=>Same H H'/\ys=AM ((ν i).filter p)) {Same.refl _,rfl} (λi ys H' z ⟨s,e⟩=>{SqL.of<|s _ _ hb,?_}) (λi ys H' t o ⟨s,e⟩ h=>{HI s h,e}) (λi x ys H' hx ⟨s,e⟩ QB qb=>ht i x hx H' s QB qb) (λi x ys H' hx hp ⟨s,e⟩=>{s,by rw[e];unfold AM;rw[bu];simp[hp]}) (λi x ys H' hx hp ⟨s,e⟩=>{s,?_}) (λys H' hzz q hq=>?_);rw[e];unfold AM;rw[ζ];exact ω (cr ..) (by rw[cw];exact υ _);rw[e];rw[bu];simp[hp];obtain⟨s,rfl⟩:=hzz;exact hd q _ (s.free hq) (HI s hq) AF
end
def aU(h:RcV H v c):decide (v=.non)=c.isNone:=by
 cases c with
 |none=>rw[h];rfl
 |some c=>revert h;apply u2;rintro p q ⟨rfl,z⟩;rfl
def zup{v:V}{c:NV}(h:NmV H v c):decide (v=.non)=c.isNone:=by
 cases c with
 |none=>rw[h];rfl
 |some c=>obtain⟨p,rfl,z⟩:=h;rfl
def zuq(h:PcV H v c):decide (v=.non)=c.isNone:=by
 cases c with
 |none=>rw[h];rfl
 |some c=>rw[h];rfl
example:(zur,UG,pX,2):=by
 apply u5;rintro x A vw r c ⟨rfl,T,I,hc,q⟩;obtain⟨dx,e⟩:=I.ob
 have hr:r<vw.rc.length:=by
  unfold AY at hc;cases e2:vw.rc[r]? with
  |none=>rw[e2]at hc;cases hc
  |some _=>exact(ε.mp e2).1
 refine u2 ?_<|I.r.at hr;rintro us v ⟨e1,hl,ev,hv⟩;rw[hc]at hv;revert hv;apply u2;rintro p q' ⟨rfl,h1,h2⟩;exact y3 {e,T.cl,T.n2,_,UT,CY (SqL.of e1)  rfl ev (BB h1  rfl rfl q)}
example:(zus,UF,pV,1):=by
 apply u3;rintro x A vw ⟨rfl,T,I,q⟩;obtain⟨dx,e⟩:=I.ob;obtain⟨us,e1,P⟩:=I.r
 have hl:=P.length;refine y3 {e,T.cl,T.n2,_,UT,{_,SqL.of e1},Q8 (λr=>(AY vw.rc r).isSome) e1 (oA (ω (bh hl) I.ok.br) rfl) (λi v hv H' s QB qb=>?_) ?_};refine u2 ?_<|I.r.at  (hl ▸ ((ε.mp hv).1));rintro us' v' ⟨e1',z,ev,hr⟩;rw[e1]at e1';cases e1';rw[hv]at ev;obtain rfl:=μ ev;push_cast[];rw[aU hr];simpa using qb;rw[hl];exact q
def aV(n:Nat):decide ((0:Int)<(n:Int))=decide (0<n):=by simp
def zut(n:Nat):decide ((1:Int)<(n:Int))=decide (1<n):=by
 lia
def zuu(n:Nat):decide ((n:Int)=(0:Int))=decide (n=0):=by simp
def HJ(l:t3):(AM l).length=l.length:=by simp[AM]
def MX(n:Nat)(f:Nat->Nat):((ν n).map f).length=n:=by simp
example:(zuv,QY,pW,1):=by
 apply u3;rintro x A vw ⟨rfl,T,I,q⟩;obtain⟨dx,e⟩:=I.ob
 have e1:=I.ng;refine y3 {e,T.cl,T.n7,_,Dq,{_,SqL.of e1},Q8 (λp=>decide<|0<E3 vw p) e1 (by rw[HJ,MX];exact oA I.ok.bp rfl) (λi v hv H' s QB qb=>?_) ?_}
 have hi:=(ε.mp hv).1;rw[HJ,MX]at hi;rw[US (N8 hi)]at hv;obtain rfl:=μ hv;push_cast[];rw[aV];exact qb;rw[HJ,MX];exact q
example:(zuw,YO,pU,1):=by
 apply u4;rintro x ar al vw ⟨rfl,T,⟨dx,fs,e,l1⟩,⟨dx',fs',e',l2⟩,hr,hal,br,q⟩;rw[e]at e'
 have hr':=hr;cases e';obtain⟨us,e1,P⟩:=hr
 have hl:=P.length;refine y3 {e,T.cl,T.n2,_,l1,{_,SqL.of e1},(W9  (λr=>decide<|0<led vw r) (CC _<|oA (ω (bh hl) br) rfl) (λi ys H'=>Same H H'/\Paired (RcV H') ys (((ν i).filter λr=>decide<|0<led vw r).map (AY vw.rc))) {Same.refl _,.nil} (λi ys H' z ⟨s,e⟩=>{SqL.of<|s _ _ e1,?_}) (λi ys H' t o ⟨s,P'⟩ h=>{HI s h,Paired.mapP P' λv c=>RcV.keep (AL h).tk}) (λi v ys H' hv hzz QB qb=>?_) (λi v ys H' hv hp hzz=>?_) (λi v ys H' hv hp ⟨s,P'⟩=>{s,?_}) (λys H' hzz p hp=>?_))};rw[e.length,ζ];exact ω (cr ..) (by rw[cw];exact υ _);obtain⟨s,P'⟩:=hzz;refine y3 {s _ _ e,T.cl,T.n6,_,l2,Q7 (s _ _ hal) (hl ▸ ((ε.mp hv).1)) ?_};push_cast[];rw[aV];exact qb;obtain⟨s,P'⟩:=hzz;refine u2 ?_<|hr'.at  (hl ▸ ((ε.mp hv).1));rintro us' v' ⟨e1',z,ev,hrv⟩;rw[e1]at e1';cases e1';rw[hv]at ev;obtain rfl:=μ ev;refine{s,?_};rw[bu,l_,ai]
 have:(([i].filter λr=>decide<|0<led vw r).map (AY vw.rc))=[AY vw.rc i]:=by simp[hp]
 rw[this];exact Paired.snoc P'<|RcV.keep s.tk hrv;rw[bu,l_,ai]
 have:(([i].filter λr=>decide<|0<led vw r).map (AY vw.rc))=[]:=by simp[hp]
 rw[this,il];exact P';obtain⟨s,P'⟩:=hzz;rw[hl]at P';exact q p _ (s.free hp) (HI s hp) {ys,AF,Paired.mapP P' λv c=>RcV.keep (AL hp).tk}
def Dv(h:MkV H0 v c)(q:Q (.bl<|decide<|c=some 1) H):CM K v (.int 1) H Q:=by
 cases c with
 |none=>rw[h];exact q
 |some j=>rw[h];show Q _ _;simpa using q
def Dw{H0:Hp}{v:V}{c:Option Int}{Q:VK}(h:MkV H0 v c)(q:Q (.bl<|!decide (c=some 1)) H):DV K v (.int 1) H Q:=by
 cases c with
 |none=>rw[h];exact q
 |some j=>rw[h];show Q _ _;simpa using q
def KN{n:Nat}{p q r:sX}{f:tU}(h:∀ k,k<n->(p k&&q k)=r k):(((ν n).filter p).filter q).map f=DE n r f:=by
 rw[Cs]
 congr 1
 refine ud λk hk=>?_;rw[Bool.and_comm];exact h k<|ak.mp hk
def LR{n:Nat}{p:sX}(h:n<=100):((ν n).filter p).length<=1000:=ω (cr ..) (by rw[cw];exact oA h rfl)
def LS{n k:Nat}{p:sX}(h:k∈(ν n).filter p):k<n/\p k=true:=by
 obtain⟨h1,h2⟩:=dh.mp h;exact{ak.mp h1,h2}
def newF.of{fs:sT}{H1:Hp}(q:newF fs H Q)(s:Same H H1):newF fs H1 Q:=λl H' hl s' F=>q l H' (s.free hl) (s.trans s') F
def newL.of{xs:Oq}{H1:Hp}(q:newL xs H Q)(s:Same H H1):newL xs H1 Q:=λl H' hl s' F=>q l H' (s.free hl) (s.trans s') F
example:(zux,YU,ZC,2):=by
 apply u3;rintro x A vw ⟨rfl,T,I,q⟩;obtain⟨dx,e⟩:=I.ob
 have bp:=I.ok.bp;obtain⟨us,e1,P⟩:=I.pm
 have l2:=I.ok.l2
 have hl:=P.length;push_cast[ZC,↓qB_];refine y3 {e,T.cl,T.n5,_,Dp,{_,SqL.of e1},Q8 (λp=>decide<|AY vw.pm p=some 1) e1 (by lia) (λi v hv H' s QB qb=>?_) λl H1 DI s1 el=>?_};refine u2 ?_<|I.pm.at  (hl ▸ ((ε.mp hv).1));rintro us' v' ⟨e1',z,ev,hr⟩;rw[e1]at e1';cases e1';rw[hv]at ev;obtain rfl:=μ ev;push_cast[];exact Dv hr qb;rw[hl,l2]at el;refine .inl {{_,SqL.of el},MW (λp=>decide<|ID vw p=0) (λp=>[.str "left",.str "piece",.int p]) el (LR bp) (λk hk H' s QB qb=>?_) (λk hk hp H' Q' s q'=>?_) ?_};obtain⟨hk,z⟩:=LS hk
 have s':=s1.trans s;refine y3 {s' _ _ e,T.cl,T.n8,_,zuo,Q7 (s' _ _ I.rh) hk ?_};push_cast[];rw[zuu];exact qb;push_cast[];exact{by decide,q'};rw[KN λk z=>rfl];exact q.of s1
example:(zuy,YV,ZD,2):=by
 apply u3;rintro x A vw ⟨rfl,T,I,q⟩;obtain⟨dx,e⟩:=I.ob
 have bp:=I.ok.br;obtain⟨us,e1,P⟩:=I.rm
 have l2:=I.ok.l1
 have hl:=P.length;push_cast[ZD,↓qG_];refine y3 {e,T.cl,T.n4,_,Dm,{_,SqL.of e1},Q8 (λp=>decide<|AY vw.rm p=some 1) e1 (by lia) (λi v hv H' s QB qb=>?_) λl H1 DI s1 el=>?_};refine u2 ?_<|I.rm.at  (hl ▸ ((ε.mp hv).1));rintro us' v' ⟨e1',z,ev,hr⟩;rw[e1]at e1';cases e1';rw[hv]at ev;obtain rfl:=μ ev;push_cast[];exact Dv hr qb;rw[hl,l2]at el;refine .inl {{_,SqL.of el},MW (λr=>(AY vw.rc r).isNone) (λr=>[.str "marked",.int r]) el (LR bp) (λk hk H' s QB qb=>?_) (λk hk hp H' Q' s q'=>?_) ?_};obtain⟨hk,z⟩:=LS hk
 have s':=s1.trans s;refine u2 ?_<|(I.same s').r.at hk;rintro us' v' ⟨e1',z,ev,hr⟩;refine y3 {s' _ _ e,T.cl,T.n2,_,UT,CY (SqL.of e1')  rfl ev ?_};push_cast[];rw[aU hr];exact qb;push_cast[];exact{by decide,q'};rw[KN λk z=>rfl];exact q.of s1
def N9{α β :Type}{F: α -> β ->Prop}:∀ {l l':List α} {m m':List β},Paired F l m->Paired F l' m'->Paired F (l++l') (m++m'):=λh h'=>by
 induction h with
 |nil=>exact h'
 |cons x r ih=>exact .cons x ih
def D4{n:Nat}{p:sX}{f:tU}(h:n<=100):(DE n p f).length<=100:=by
 unfold DE;rw[ζ];exact ω (cr ..) (by rw[cw];exact h)
def JK{l1 l2:Addr}{f1 f2:sT}{Q:VK}(h1:FindsL H l1 f1)(h2:FindsL H l2 f2)(hn:f1.length+f2.length<=10000)(q:newF (f1++f2) H Q):BD K (.ref l1) (.ref l2) H Q:=by
 obtain⟨p2,e2,P2⟩:=h2;obtain⟨p1,e1,P1⟩:=h1;exact .inl (x4 l1 l2 _ _ {rfl,rfl,e1,e2,CC _ (by rw[ζ,ζ,P1.length,P2.length];exact oA hn rfl),λp hp=>(q p _ hp (AL hp) {_,by rw[AF,ai],Paired.mapP (N9 P1 P2) λx f e=>AL hp _ _ e})})
def UU(ok:EE vw):(QQ vw).length<=200/\(QR vw).length<=300/\(QS vw).length<=200/\(QT vw).length<=200/\(QU vw).length<=100/\(QW vw).length<=100:=by
 unfold QQ QR QS QT QU QW;simp only[af];exact{ue (D4 ok.bn) (D4 ok.bn),ue (ue (D4 ok.bp) (D4 ok.bp)) (D4 ok.br),ue (D4 ok.br) (D4 ok.bp),ue (D4 ok.br) (D4 ok.br),D4 ok.bp,D4 ok.br}
example:(zuz,UH,vB,1):=by
 apply u3;rintro x A vw ⟨rfl,T,I,q⟩;obtain⟨n1,n2,n3,z⟩:=UU I.ok;exact x3 x A vw {rfl,T,I,λl1 H1 h1 s1 F1=>x3 x A vw {rfl,T,I.same s1,λl2 H2 h2 s2 F2=>JK (F1.same s2) F2 (by lia) λl3 H3 h3 s3 F3=>x3 x A vw {rfl,T,I.same<|(s1.trans s2).trans s3,λl4 H4 h4 s4 F4=>JK (F3.same s4) F4 (by simp only[af];lia) (q.of<|((s1.trans s2).trans s3).trans s4)}}}
example:(zu0,YW,vC,1):=by
 apply u3;rintro x A vw ⟨rfl,T,I,q⟩;obtain⟨z,z,z,n1,n2,n3⟩:=UU I.ok;exact x3 x A vw {rfl,T,I,λl1 H1 h1 s1 F1=>x3 x A vw {rfl,T,I.same s1,λl2 H2 h2 s2 F2=>JK (F1.same s2) F2 (by lia) λl3 H3 h3 s3 F3=>x3 x A vw {rfl,T,I.same<|(s1.trans s2).trans s3,λl4 H4 h4 s4 F4=>JK (F3.same s4) F4 (by simp only[af];lia) (q.of<|((s1.trans s2).trans s3).trans s4)}}}
example:(zu1,YS,ZN,4):=by
 apply u3;rintro x A vw ⟨rfl,T,I,q⟩;obtain⟨dx,e⟩:=I.ob
 have br:=I.ok.br
 have bp:=I.ok.bp;push_cast[ZN,↓sG_];refine y3 {e,T.cl,T.n6,_,aT,{_,SqL.of I.ld},Q8 (λp=>decide<|0<led vw p) I.ld (by rw[HJ,MX];exact oA br rfl) (λi v hv H' s QB qb=>?_) λl H1 DI s1 el=>?_}
 have hi:=(ε.mp hv).1;rw[HJ,MX]at hi;rw[US (N8 hi)]at hv;obtain rfl:=μ hv;push_cast[];rw[aV];exact qb;rw[HJ,MX]at el;push_cast[↓sI_];refine .inl {{_,SqL.of el},MW (λr=> !decide (AY vw.rm r=some 1)) (λr=>[.str "free",.str "record",.int r]) el (LR br) (λk hk H' s QB qb=>?_) (λk hk hp H' Q' s q'=>?_) ?_};obtain⟨hk,z⟩:=LS hk
 have s':=s1.trans s;refine u2 ?_ ((I.same s').rm.at  (by rw[I.ok.l1];exact hk));rintro us' v' ⟨e1',z,ev,hr⟩;push_cast[CO];exact y3 {s' _ _ e,T.cl,T.n4,_,Dm,CY (SqL.of e1')  rfl ev (Dw hr qb)};push_cast[];exact{by decide,q'};rw[KN λk z=>rfl];intro l2 H2 C9 s2 F2
 have I2:=I.same<|s1.trans s2;obtain⟨dx2,e2⟩:=I2.ob;push_cast[↓sJ_];refine y2 {e2,MV (by decide),x3 x A vw {rfl,T,I2,λl3 H3 hl3 s3 el3=>(.inl {{_,SqL.of el3},MW (λp=> !decide (AY vw.pm p=some 1)) (λp=>[.str "free",.str "piece",.int p]) el3 (LR bp) (λk hk H' s QB qb=>?_) (λk hk hp H' Q' s q'=>?_) ?_})}};obtain⟨hk,z⟩:=LS hk
 have I':=(I2.same s3).same s;obtain⟨dx',e'⟩:=I'.ob;refine u2 ?_ (I'.pm.at  (by rw[I.ok.l2];exact hk));rintro us' v' ⟨e1',z,ev,hr⟩;push_cast[CO];exact y3 {e',T.cl,T.n5,_,Dp,CY (SqL.of e1')  rfl ev (Dw hr qb)};push_cast[];exact{by decide,q'};rw[KN λk z=>rfl];intro l4 H4 hl4 s4 F4
 have n2:=D4 (p:=λp=>decide (0<E3 vw p) && !decide (AY vw.pm p=some 1)) (f:=λp=>[.str "free",.str "piece",.int p]) bp
 have n1:=D4 (p:=λr=>decide (0<led vw r) && !decide (AY vw.rm r=some 1)) (f:=λr=>[.str "free",.str "record",.int r]) br;exact JK (F2.same<|s3.trans s4) F4 (by omega) (q.of<|((s1.trans s2).trans s3).trans s4)
example:(zu2,YR,ZM,4):=by
 apply u3;rintro x A vw ⟨rfl,T,I,q⟩;obtain⟨dx,e⟩:=I.ob
 have br:=I.ok.br
 have bp:=I.ok.bp;push_cast[ZM,↓sD_];refine y2 {e,MV (by decide),x3 x A vw {rfl,T,I,λl1 H1 DI s1 el1=>(.inl {{_,SqL.of el1},MW (λp=>decide<|1<E3 vw p) (λp=>[.str "shared",.int p]) el1 (LR bp) (λk hk H' s QB qb=>?_) (λk hk hp H' Q' s q'=>?_) ?_})}};obtain⟨hk,z⟩:=LS hk
 have I':=(I.same s1).same s;obtain⟨dx',e'⟩:=I'.ob;refine y3 {e',T.cl,T.n7,_,Dq,Q7 I'.ng hk ?_};push_cast[];rw[zut];exact qb;push_cast[];exact{by decide,q'};rw[KN (r:=λp=>decide<|1<E3 vw p) λk z=>by
  by_cases h:1<E3 vw k;simp[h];exact ω (by decide) h
  ·simp[h]]
 intro l2 H2 C9 s2 F2
 have I2:=I.same<|s1.trans s2;obtain⟨dx2,e2⟩:=I2.ob;push_cast[↓sE_];refine y2 {e2,MV (by decide),x3 x A vw {rfl,T,I2,λl3 H3 hl3 s3 el3=>(.inl {{_,SqL.of el3},MW (λp=>(AY vw.pc p).isNone) (λp=>[.str "empty",.int p]) el3 (LR bp) (λk hk H' s QB qb=>?_) (λk hk hp H' Q' s q'=>?_) ?_})}};obtain⟨hk,z⟩:=LS hk
 have I':=(I2.same s3).same s;obtain⟨dx',e'⟩:=I'.ob;refine u2 ?_<|I'.p.at hk;rintro us' v' ⟨e1',z,ev,hr⟩;refine y3 {e',T.cl,T.n3,_,zun,CY (SqL.of e1')  rfl ev ?_};push_cast[];rw[zuq hr];exact qb;push_cast[];exact{by decide,q'};rw[KN λk z=>rfl];intro l4 H4 hl4 s4 F4
 have I4:=(I2.same s3).same s4;obtain⟨dx4,e4⟩:=I4.ob;push_cast[↓sF_];refine y2 {e4,MV (by decide),x3 x A vw {rfl,T,I4,λl5 H5 hl5 s5 el5=>(.inl {{_,SqL.of el5},MW (JE vw) (λr=>[.str "few",.int r]) el5 (LR br) (λk hk H' s QB qb=>?_) (λk hk hp H' Q' s q'=>?_) ?_})}};obtain⟨hk,hs⟩:=LS hk
 have I':=(I4.same s5).same s;obtain⟨dx',e'⟩:=I'.ob;obtain⟨c,hc⟩:=cz.mp hs;refine y2 {e',MV (by decide),x5 x A vw k c {rfl,T,I',hc,x3 _ _ _ {e',T.cl,T.n6,_,aT,Q7 I'.ld hk ?_}}};unfold JE at qb;rw[hc]at qb;exact qb;push_cast[];exact{by decide,q'};rw[KN (r:=JE vw) λk z=>by
  unfold JE;cases AY _ k<;>simp]
 intro l6 H6 hl6 s6 F6
 have n2:=D4 (p:=λp=>decide (0<E3 vw p)&&(AY vw.pc p).isNone) (f:=λp=>[.str "empty",.int p]) bp
 have n1:=D4 (p:=λp=>decide<|1<E3 vw p) (f:=λp=>[.str "shared",.int p]) bp
 have n3:=D4 (p:=JE vw) (f:=λr=>[.str "few",.int r]) br
 have s26:=((s3.trans s4).trans s5).trans s6;exact JK (F2.same s26) (F4.same<|s5.trans s6) (by lia) λl7 H7 hl7 s7 F7=>JK F7 (F6.same s7) (by simp only[af];lia) (q.of<|((s1.trans s2).trans s26).trans s7)
def TwoL(H:Hp)(l1 l2:Addr)(f1 f2:sT)(H':Hp):Prop:=SameBut (λy=>y=l1\/y=l2) H H'/\FindsL H' l1 f1/\FindsL H' l2 f2/\l1≠l2
def TwoL.same(h:TwoL H l1 l2 f1 f2 H1)(s:Same H1 H2):TwoL H l1 l2 f1 f2 H2:={h.1.trans s.sb,h.2.1.same s,h.2.2.1.same s,h.2.2.2}
def zu3(h:TwoL H l1 l2 f1 f2 H')(ht:H' t=some (.tup f)):TwoL H l1 l2 (f1++[f]) f2 (upd H' l1<|.lst<|((h.2.1).choose++[t]).map V.ref):=by
 obtain⟨s,F1,⟨p2,e2,P2⟩,n⟩:=h
 have k:∀ {y:Addr} {g:Oq},H' y=some (.tup g)->upd H' l1 (.lst<|(F1.choose++[t]).map V.ref) y=some _:=λe=>by rw[AI (BH e F1.choose_spec.1 (by intro z;cases z))];exact e
 exact{λy o e ny=>by rw[AI λz=>ny<|.inl z];exact s _ _ e ny,{_,AF,Paired.snoc (Paired.mapP F1.choose_spec.2 λq g e=>k e) (k ht)},{p2,by rw[AI n.symm];exact e2,Paired.mapP P2 λq g e=>k e},n}
def TwoL.flip{l1 l2:Addr}{f1 f2:sT}{H':Hp}(h:TwoL H l1 l2 f1 f2 H'):TwoL H l2 l1 f2 f1 H':={h.1.wide λz=>Or.symm,h.2.2.1,h.2.1,h.2.2.2.symm}
def UV{l1 l2 t:Addr}{f1 f2:sT}{f:Oq}{H':Hp}{Q:VK}(h:TwoL H l1 l2 f1 f2 H')(hn:f1.length<=1000)(ht:H' t=some (.tup f))(q:∀ H2,TwoL H l1 l2 (f1++[f]) f2 H2->Q .non H2):DZ (.ref l1) [.ref t] H' Q:=by
 have:=q _<|zu3 h ht;refine{_,h.2.1.choose_spec.1,ψ (show(h.2.1.choose.map _).length<10000 by rw[ζ,h.2.1.choose_spec.2.length];exact oC hn rfl) (by decide),?_};rw[ai]at this;exact this
def Dx:DE (n+1) p f=if p n=true then DE n p f++[f n]else DE n p f:=by
 unfold DE;rw[bu];split;rename_i h;simp[h];rename_i h;simp[h]
def HK(is:t3)(p:sX)(f:tU)(i:Nat):sT:=((is.take i).filter p).map f
def Dy{is:t3}{p:sX}{f:tU}{i k:Nat}(h:is[i]? =some k):HK is p f (i+1)=if p k=true then HK is p f i++[f k]else HK is p f i:=by
 unfold HK;rw[JI h];split;rename_i h;simp[h];rename_i h;simp[h]
def Dz{is:t3}{p:sX}{f:tU}{i:Nat}(h:is.length<=1000):(HK is p f i).length<=1000:=by
 unfold HK;rw[ζ];exact ω (cr ..) (by rw[ce];lia)
def ViewAt.two(I:ViewAt a H0 x A vw)(s0:Same H0 H)(n1:H0 l1=none)(n2:H0 l2=none)(W:TwoL H l1 l2 f1 f2 H'):ViewAt a H' x A vw :=
 I.same λy o e=>W.1 _ _ (s0 _ _ e) λz=>by
  rcases z with z|z
  rw[z,n1]at e;cases e;rw[z,n2]at e;cases e
example:(zu4,YT,sN,5):=by
 apply u3;rintro x A vw ⟨rfl,T,I,q⟩
 have br:=I.ok.br;refine{by decide,λl1 DI=>{by decide,λl2 C9=>?_}}
 have s2:Same H (upd _ l2<|.lst []):=(AL DI).trans (AL C9)
 have n12:=BI AF C9
 have k1:FindsL (upd (upd H l1<|.lst []) l2 (.lst [])) l1 []:={[],by rw[AI n12,AF];rfl,.nil}
 have k2:FindsL (upd (upd H l1<|.lst []) l2 (.lst [])) l2 []:={[],AF,.nil}
 have f2:=(AL DI).free C9;revert s2 k1 k2;generalize upd _ l2 _=H2;intro s2 k1 k2
 have I2:=I.same s2;obtain⟨dx2,e2⟩:=I2.ob;refine y2 {e2,MV (by decide),x3 x A vw {rfl,T,I2,λl3 H3 hl3 s3 el3=>(.inl {{_,SqL.of el3},?_})}}
 have m1:l1≠l3:=λz=>by
  obtain⟨ps,e,u⟩:=k1;rw[z,hl3]at e;cases e
 have m2:l2≠l3:=λz=>by
  obtain⟨ps,e,u⟩:=k2;rw[z,hl3]at e;cases e
 have F8:=s2.trans s3
 let is:=(ν vw.rc.length).filter λr=>(AY vw.rc r).isSome
 have hil:is.length<=1000:=LR br;refine EV  (λi σ H'=>TwoL H3 l1 l2 (HK is (G2 vw) (λr=>[.str "many",.int r,.int<|led vw r]) i) (HK is (λr=>decide<|led vw r=0) (λr=>[.str "left",.str "record",.int r]) i) H'/\∃ y3 y4,σ=[some _,some _,some _,y3,y4]) {{SameBut.refl _,k1.same s3,k2.same s3,n12},x2 _ _ rfl} (by rintro i σ H' u ⟨W,u⟩;exact SqL.of<|W.1 _ _ el3 λz=>z.elim (λz=>m1 z.symm) λz=>m2 z.symm) (λi v σ H' hx hzz=>?_) (λσ H' hzz=>?_);obtain⟨W,y3,y4,eσ⟩:=hzz;subst eσ;unfold AM at hx;rw[τ,aa]at hx;obtain⟨k,hk',rfl⟩:=hx;obtain⟨hk,hsm⟩:=LS<|θ hk'
 have I':=I.two F8 DI f2 W;obtain⟨dx',e'⟩:=I'.ob;obtain⟨c,hc⟩:=cz.mp hsm;refine x3 _ _ _ {e',T.cl,T.n6,_,aT,Q7 I'.ld hk ?_}
 have im:G2 vw k=(decide (0<led vw k)&&decide ((led vw k)<c.1)):=by unfold G2;rw[hc]
 push_cast[↓sM_];rw[Dy hk',Dy hk',im];by_cases h0:led vw k=0;refine FZ (congrArg _ h0) ?_;push_cast[↓sK_];obtain⟨ps2,ep2,u⟩:=W.2.2.1;refine{.inl {rfl,_,SqL.of ep2},by decide,λt ht=>UV (W.same<|AL ht).flip (Dz hil) AF λH4 W4=>?_};rw[decide_eq_false (h0.symm ▸ by decide),if_pos h0];exact W4.flip;refine E5 (λz=>h0<|cg z) (y2 {e',MV (by decide +kernel),x5 x A vw k c {rfl,T,I',hc,?_}});push_cast[];by_cases h1:(led vw k)<c.1;refine FZ h1 ?_;push_cast[↓sL_];obtain⟨ps2,ep2,u⟩:=W.2.1;refine{.inl {rfl,_,SqL.of ep2},by decide,λt ht=>UV (W.same<|AL ht) (Dz hil) AF λH4 W4=>?_};rw[decide_eq_true (show 0<led vw k by exact ss h0),decide_eq_true h1,if_neg h0];exact W4;refine E5 h1 ?_;rw[decide_eq_false h1,Af,if_neg h0];exact W;obtain⟨W,y3,y4,eσ⟩:=hzz;subst eσ;rw[HJ]at W
 have g1:HK is (G2 vw) (λr=>[.str "many",.int r,.int<|led vw r]) is.length=DE vw.rc.length (G2 vw) (λr=>[.str "many",.int r,.int<|led vw r]):=by
  unfold HK;rw[bz];exact KN λk u=>by
   unfold G2;cases AY _ k<;>simp
 have g2:HK is (λr=>decide<|led vw r=0) (λr=>[.str "left",.str "record",.int r]) is.length=DE vw.rc.length (λr=>(AY vw.rc r).isSome&&decide (led vw r=0)) (λr=>[.str "left",.str "record",.int r]):=by
  unfold HK;rw[bz];exact KN λk u=>rfl
 rw[g1,g2]at W
 have n1:=D4 (p:=G2 vw) (f:=λr=>[.str "many",.int r,.int<|led vw r]) br
 have n2:=D4 (p:=λr=>(AY vw.rc r).isSome&&decide (led vw r=0)) (f:=λr=>[.str "left",.str "record",.int r]) br;exact JK W.2.1 W.2.2.1 (by lia) (q.of λy o e=>W.1 _ _ (F8 _ _ e) λz=>by
  rcases z with z|z
  rw[z,DI]at e;cases e;rw[z,f2]at e;cases e)
def OA(vw:Vw)(i:Nat)(s:Str):Bool:=(ν i).any λj=>match AY vw.nm j with
  |none=>false
  |some d=>decide<|d.1=s
structure NmW(H3:Hp)(vw:Vw)(l1 l2 sn:Addr)(i:Nat)(lo tw:sT)(j:Nat)(H':Hp):Prop where
 s:SameBut (λy=>y=l1\/y=l2\/y=sn) H3 H'
 f1:FindsL H' l1 lo
 f2:FindsL H' l2 tw
 d:∃ kvs:tS,H' sn=some (.dK kvs)/\(∀ s:Str,(BF kvs<|.inr s).isSome=OA vw j s)/\kvs.length<=j
def NmW.two{H3:Hp}{vw:Vw}{l1 l2 sn:Addr}{i j:Nat}{lo tw lo' tw':sT}{H' H2:Hp}(h:NmW H3 vw l1 l2 sn i lo tw j H')(n1:sn≠l1)(n2:sn≠l2)(W:TwoL H' l1 l2 lo' tw' H2):NmW H3 vw l1 l2 sn i lo' tw' j H2:=by
 obtain⟨kvs,e,r⟩:=h.d;exact{h.s.trans<|W.1.wide λy z=>z.elim .inl λz=>.inr<|.inl z,W.2.1,W.2.2.1,{_,W.1 _ _ e λz=>z.elim n1 n2,r}}
def NmW.same{H3:Hp}{vw:Vw}{l1 l2 sn:Addr}{i j:Nat}{lo tw:sT}{H' H2:Hp}(h:NmW H3 vw l1 l2 sn i lo tw j H')(s:Same H' H2):NmW H3 vw l1 l2 sn i lo tw j H2:=by
 obtain⟨kvs,e,r⟩:=h.d;exact{h.s.trans s.sb,h.f1.same s,h.f2.same s,{_,s _ _ e,r}}
example:(zu5,YQ,p9,6):=by
  apply u3;rintro x A vw ⟨rfl,T,I,q⟩
  have bn:=I.ok.bn;refine{by decide,λl1 DI=>{by decide,λl2 C9 sn hsn=>?_}}
  have n12:=BI AF C9
  have s2:Same H (upd _ l2<|.lst []):=(AL DI).trans (AL C9)
  have k1:FindsL (upd (upd H l1<|.lst []) l2 (.lst [])) l1 []:={[],by rw[AI n12,AF];rfl,.nil}
  have k2:FindsL (upd (upd H l1<|.lst []) l2 (.lst [])) l2 []:={[],AF,.nil}
  have f2:=(AL DI).free C9;revert hsn s2 k1 k2;generalize upd _ l2 _=H2;intro hsn s2 k1 k2
  have fsn:=s2.free hsn;obtain⟨H3,zz0,s3,e3⟩:=C4  hsn;rw[zz0]
  have F8:=s2.trans s3
  have I3:=I.same F8;obtain⟨dx3,ob3⟩:=I3.ob;obtain⟨us,en,P⟩:=I3.n
  have hl:=P.length;refine y3 {ob3,T.cl,T.n1,_,zum,{_,SqL.of en},?_}
  have m1:sn≠l1:=λz=>by
    obtain⟨ps,e,_⟩:=k1;rw[<-z,hsn]at e;cases e
  have m2:sn≠l2:=λz=>by
    obtain⟨ps,e,_⟩:=k2;rw[<-z,hsn]at e;cases e
  have vi:∀ {H':Hp} {i j:Nat} {lo tw:List _},NmW H3 vw l1 l2 sn i lo tw j H'->ViewAt a H' x A vw:=λh=>I.same λy o e=>h.s _ _ (F8 _ _ e) λz=>by
    rcases z with z|z|z
    rw[z,DI]at e;cases e;rw[z,f2]at e;cases e;rw[z,fsn]at e;cases e
  have nA:A.n≠l1/\A.n≠l2/\A.n≠sn:=by
    obtain⟨us',e0,_⟩:=I.n;exact{λz=>(by rw[z,DI]at e0;cases e0),λz=>(by rw[z,f2]at e0;cases e0),λz=>(by rw[z,fsn]at e0;cases e0)}
  let LO:=λi=>DE i (HG vw) (λk=>[.str "lost",.int k])
  let TW:=λi=>DE i (IE vw) (λk=>[.str "twice",.int k])
  refine WZ  (λi σ H'=>NmW H3 vw l1 l2 sn i (LO i) (TW i) i H'/\∃ y4 y5,σ=[some (.ref x),some<|.ref l1,some<|.ref l2,some<|.ref sn,y4,y5]) {{SameBut.refl _,k1.same s3,k2.same s3,[],e3,λ_=>rfl,υ _},x2 _ _ rfl} (λi σ H' _ ⟨W,_⟩=>SqL.of<|W.s _ _ en λz=>z.elim nA.1 λz=>z.elim nA.2.1 nA.2.2) (λi v σ H' t hx hzz ht=>?_) (λσ H' hzz=>?_);obtain⟨W0,y4,y5,eσ⟩:=hzz;subst eσ
  have hi:=(ε.mp hx).1;push_cast[];refine{_,SqT.of AF,rfl,?_}
  have W:=W0.same<|AL (o:=.tup [.int (i:Int),v]) ht;revert W;generalize upd H' t (.tup [.int (i:Int),v])=H4;intro W
  have I4:=vi W;obtain⟨dx4,ob4⟩:=I4.ob;refine u2 ?_<|I4.n.at (k:=i) (hl ▸ hi);rintro us' v' ⟨e1',_,ev,hr⟩;rw[W.s _ _ en (λz=>z.elim nA.1 λz=>z.elim nA.2.1 nA.2.2)]at e1';cases e1';rw[hx]at ev;have bi:i<=100:=by lia
  obtain rfl:=μ ev
  have hLO:LO (i+1)=if HG vw i=true then LO i++[[.str "lost",.int i]]else LO i:=Dx
  have hTW:TW (i+1)=if IE vw i=true then TW i++[[.str "twice",.int i]]else TW i:=Dx
  have n1:(LO i).length<=100:=D4 bi
  have n2:(TW i).length<=100:=D4 bi
  have sS:∀ s:Str,OA vw (i+1) s=(OA vw i s||match AY vw.nm i with
    |none=>false
    |some d=>decide<|d.1=s):=λs=>by
    unfold OA;rw[bu,Je];simp
  push_cast[↓p8_];cases hc:AY vw.nm i with
  |none =>
    rw[hc]at hr;refine E5 (λz=>z hr) ?_
    have z1:HG vw i=false:=by unfold HG;rw[hc]
    have z2:IE vw i=false:=by unfold IE;rw[hc]
    rw[hLO,hTW,z1,z2,if_neg ax,if_neg ax];obtain⟨kvs,ek,hv,E8⟩:=W.d;exact{W.s,W.f1,W.f2,kvs,ek,λs=>by rw[hv,sS,hc,pq],cu E8}
  | some c =>
    rw[hc]at hr;obtain⟨p,rfl,hp⟩:=hr;refine FZ (by simp) ?_
    have hm:some c∈vw.nm:=by
      unfold AY at hc;cases e2:vw.nm[i]? with
      |none=>rw[e2]at hc;cases hc
      |some y =>
        rw[e2]at hc
        have hc:y=some c:=hc;exact hc ▸ θ e2
    have hcr:=(I.ok.n1 c hm).1
    have z1:HG vw i=(AY vw.rc c.2).isNone:=by unfold HG;rw[hc]
    have z2:IE vw i=OA vw i c.1:=by unfold IE OA;simp only[hc]<;>rfl
    have tail:∀ {H5:Hp},NmW H3 vw l1 l2 sn i (LO<|i+1) (TW i) i H5->H5 p=some (.tup [.str c.1,.int c.2])->AG (ZA K a (λ_=>E) (λ_=>E)) (UL K a (λ_=>E) (λ_=>E)) { nx:=λσ H'=>NmW H3 vw l1 l2 sn (i+1) (LO<|i+1) (TW<|i+1) (i+1) H'/\∃ y4 y5,σ=[some (V.ref x),some<|V.ref l1,some<|V.ref l2,some<|V.ref sn,y4,y5],rt:=Q,bk:=ZB K a (λx=>E) (λx=>E) (AX Q),ct:=λσ H'=>NmW H3 vw l1 l2 sn (i+1) (LO<|i+1) (TW<|i+1) (i+1) H'/\∃ y4 y5,σ=[some (V.ref x),some<|V.ref l1,some<|V.ref l2,some<|V.ref sn,y4,y5] } [some (V.ref x),some<|V.ref l1,some<|V.ref l2,some<|V.ref sn,some<|V.int ↑i,some<|V.ref p] H5:=λ{H5} W5 hp5=>by
      have last:∀ {H6:Hp},NmW H3 vw l1 l2 sn i (LO<|i+1) (TW<|i+1) i H6->H6 p=some (.tup [.str c.1,.int c.2])->UL K a (λ_=>E) (λ_=>E) { nx:=λσ H'=>NmW H3 vw l1 l2 sn (i+1) (LO<|i+1) (TW<|i+1) (i+1) H'/\∃ y4 y5,σ=[some (V.ref x),some<|V.ref l1,some<|V.ref l2,some<|V.ref sn,y4,y5],rt:=Q,bk:=ZB K a (λx=>E) (λx=>E) (AX Q),ct:=λσ H'=>NmW H3 vw l1 l2 sn (i+1) (LO<|i+1) (TW<|i+1) (i+1) H'/\∃ y4 y5,σ=[some (V.ref x),some<|V.ref l1,some<|V.ref l2,some<|V.ref sn,y4,y5] } [some (V.ref x),some<|V.ref l1,some<|V.ref l2,some<|V.ref sn,some<|V.int ↑i,some<|V.ref p] H6:=λ{H6} W6 hp6=>by
        obtain⟨kvs,ek,hv,E8⟩:=W6.d;push_cast[↓UL_];refine BB hp6 (n:=0) rfl rfl {_,pS ek (by lia),?_}
        have s7:SameBut (· =sn) H6 (upd H6 sn<|.dK<|CA kvs (.inr c.1) (.bl true)):=λy o e ny=>by rw[AI ny];exact e
        obtain⟨q1,g1,P1⟩:=W6.f1;obtain⟨q2,g2,P2⟩:=W6.f2
        have kt:∀ {y:Addr} {g:Oq},H6 y=some (.tup g)->upd H6 sn (.dK<|CA kvs (.inr c.1) (.bl true)) y=some (.tup g):=λe=>s7 _ _ e (BH e ek (by intro z;cases z));refine{W6.s.trans<|s7.wide λy z=>.inr<|.inr z,{q1,s7 _ _ g1 m1.symm,Paired.mapP P1 λq g e=>kt e},{q2,s7 _ _ g2 m2.symm,Paired.mapP P2 λq g e=>kt e},_,AF,λs=>?_,?_}
        · rw[HU,sS,hc,<-hv]
          by_cases z:s=c.1
          ·subst z;simp
          · rw[if_neg (by simpa using z)]
            have:decide (c.1=s)=false:=by simpa using λu=>z<|Eq.symm u
            simp only[this,pq]
        · have:=IS kvs (.inr c.1) (.bl true)
          lia
      obtain⟨kvs,ek,hv,E8⟩:=W5.d;push_cast[↓ZA_];refine BB hp5 (n:=0) rfl rfl {_,dS ek,?_};rw[hv,<-z2];cases hz:IE vw i with
      | true =>
        refine FZ rfl ?_;push_cast[↓p0_];obtain⟨ps2,ep2,_⟩:=W5.f2;refine{.inl {rfl,_,SqL.of ep2},by decide,λt2 ht2=>?_}
        have W5':=W5.same<|AL (o:=.tup [V.str (bg "twice"),V.int ↑i]) ht2;refine UV (H:=upd H5 t2<|.tup [V.str (bg "twice"),V.int ↑i]) (l2:=l1) (f2:=LO<|i+1) {SameBut.refl _,W5'.f2,W5'.f1,n12.symm} (by lia) AF λH6 W6=>?_
        have W7:=W5'.two m1 m2 W6.flip;rw[show TW i++[[V.str (bg "twice"),V.int ↑i]]=TW (i+1) by rw[hTW,hz,if_pos rfl]]at W7;exact last W7 (W6.1 _ _ (AL ht2 _ _ hp5) λz=>by
          rcases z with z|z
          · obtain⟨ps,e,_⟩:=W5.f2
            rw[<-z,hp5]at e;cases e
          · obtain⟨ps,e,_⟩:=W5.f1
            rw[<-z,hp5]at e;cases e)
      |false =>
        refine E5 ax ?_;rw[show TW i=TW (i+1) by rw[hTW,hz,if_neg ax]]at W5;exact last W5 hp5
    refine u2 ?_<|I4.r.at hcr;rintro us2 v2 ⟨e2,_,ev2,KQ⟩;push_cast[↓pZ_];refine y3 {ob4,T.cl,T.n2,_,UT,BB hp (n:=1) rfl rfl (CY (SqL.of e2) (n:=c.2) rfl ev2 ?_)};push_cast[]
    have JQ:=aU KQ;by_cases hz:v2=.non
    · refine FZ hz ?_
      have hz':HG vw i=true:=by rw[z1,<-JQ];simpa using hz
      push_cast[↓pY_];obtain⟨ps2,ep2,_⟩:=W.f1;refine{.inl {rfl,_,SqL.of ep2},by decide,λt2 ht2=>?_}
      have W5':=W.same<|AL (o:=.tup [V.str (bg "lost"),V.int ↑i]) ht2;refine UV (H:=upd H4 t2<|.tup [V.str (bg "lost"),V.int ↑i]) (l2:=l2) (f2:=TW i) {SameBut.refl _,W5'.f1,W5'.f2,n12} (by lia) AF λH6 W6=>?_
      have W7:=W5'.two m1 m2 W6;rw[show LO i++[[V.str (bg "lost"),V.int ↑i]]=LO (i+1) by rw[hLO,hz',if_pos rfl]]at W7;exact tail W7 (W6.1 _ _ (AL ht2 _ _ hp) λz=>by
          rcases z with z|z
          · obtain⟨ps,e,_⟩:=W.f1
            rw[<-z,hp]at e;cases e
          · obtain⟨ps,e,_⟩:=W.f2
            rw[<-z,hp]at e;cases e)
    · refine E5 hz ?_
      have hz':HG vw i=false:=by rw[z1,<-JQ];simpa using hz
      rw[show LO i=LO (i+1) by rw[hLO,hz',if_neg ax]]at W;exact tail W hp
  obtain⟨W,y4,y5,eσ⟩:=hzz;subst eσ;rw[hl]at W;exact JK W.f1 W.f2 (by have:=D4 (p:=HG vw) (f:=λk=>[.str "lost",.int k]) bn;have:=D4 (p:=IE vw) (f:=λk=>[.str "twice",.int k]) bn;show(DE _ _ _).length+(DE _ _ _).length<=_;lia) (q.of λy o e=>W.s _ _ (F8 _ _ e) λz=>by
    rcases z with z|z|z
    ·rw[z,DI]at e;cases e
    ·rw[z,f2]at e;cases e
    ·rw[z,fsn]at e;cases e)
def zu6{n b:Nat}(h:b<n):HP n (b:Int)=some b:=by
 unfold HP;rw[if_pos (i0),if_pos<|dn.mpr h,b_]
theorem KO{α β :Type}{F: α -> β ->Prop}:∀ {l:List α} {m:List β} {i:Nat} {x: α},Paired F l m->l[i]? =some x->∃ y,m[i]? =some y/\F x y
 |_,_,_,_,.nil,h=>by simp at h
 |_,_,0,_,.cons h _,e=>by obtain rfl:=μ e;exact⟨_,rfl,h⟩
 |_,_,i+1,_,.cons _ r,e=>by
  obtain⟨y,h1,h2⟩:=KO  r (e);exact⟨y,h1,h2⟩
example:(zu7,LK,vE,2):=by
 apply u8;rintro gp cl pl w rows m ts ps ⟨rfl,TP,P,BV,Pt,hin,hn,q⟩
 have hl:=Pt.length;refine .inl {{_,SqL.of BV},nR  (CC _ (by rw[ζ];exact oA (ω (bh hl) hn) rfl)) (λi σ' ys H'=>Same H H'/\ys=(ps.take i).map (λij=>LJ rows ij.1 ij.2)/\∃ y0 y1,σ'=[y0,y1,some _]) {Same.refl _,rfl,x2 _ _ rfl} (λi σ' ys H' ⟨s,e,_⟩=>{SqL.of<|s _ _ BV,by rw[e,ζ,ce];lia}) (λi x σ' ys H' hi hx hzz=>?_) (λσ' ys H' hzz p hp=>?_)};obtain⟨s,e,y0,y1,eσ⟩:=hzz;subst eσ;rw[ζ]at hi;rw[τ,aa]at hx;obtain⟨t,ht,rfl⟩:=hx;obtain⟨ij,eij,et⟩:=KO Pt ht
 have hb:=hin ij<|θ eij
 have P':=P.same s;obtain⟨dp,M4⟩:=P'.ob;push_cast[];refine{_,SqT.of<|s _ _ et,rfl,y2 {rfl,y2 {rfl,rfl,({λy H4=>Same H H4/\y=LJ rows ij.1 ij.2,λy H4 ⟨s4,ey⟩=>cnx (by rw[ζ];exact hi) {s4,?_},y2 {M4,Q5 _ _ _,x6 gp cl w _ m _ {rfl,TP,P',λb' row eb er l1 DI=>?_,λz=>by lia}}})}}};rw[ey,e,JI eij,ai]
 rfl;obtain rfl:ij.1=b':=cg eb
 have ej:=η   (ψ hb.2<|bh (P.wd _<|θ er).symm);refine CY (SqL.of AF)  rfl ej {HI s DI,?_};unfold LJ;rw[er]
 show _=(row[ij.2]?).getD _;rw[ej];rfl;obtain⟨s,e,v⟩:=hzz;rw[ζ,hl,bz]at e;subst e;exact q p _ (s.free hp) (HI s hp) AF
example:(zu8,QX,ZE,4):=by
 apply u3;rintro many nl ks ⟨rfl,hnl,hks,hm,hkn,q⟩;push_cast[ZE,↓qH_]
 have e0:(ν many).map (λx=>V.int 0)=AM ((ν many).map λk=>([]).count k):=by
  unfold AM;rw[oq]
  rfl
 refine{i0,by lia,zai (CC _<|oA hm rfl) (λx=>V.int 0) (λj hj Q' q'=>q') λl hl=>?_};rw[e0]
 have s1:=AL (o:=.lst<|AM<|(ν many).map λk=>([]).count k) hl
 have e1:upd H l _ l=some (.lst<|AM<|(ν many).map λk=>([]).count k):=AF;revert s1 e1;refine λs1 e1=>.inl {{_,SqL.of<|s1 _ _ hnl},EV  (λi σ H'=>(Same H H'/\H' l=some (.lst<|AM<|(ν _).map λk=>(ks.take i).count k))/\∃ y,σ=[some _,some _,some _,y]) {⟨s1,e1⟩,_,rfl} (by rintro i σ H' x ⟨⟨s,x⟩,x⟩;exact SqL.of<|s _ _ hnl) (λi v σ H' hx hzz=>?_) (λσ H' hzz=>?_)};obtain⟨⟨s,e⟩,y,eσ⟩:=hzz;subst eσ;unfold AM at hx;rw[τ,aa]at hx;obtain⟨k,hk',rfl⟩:=hx
 have hk:=hks k<|θ hk';push_cast[↓qI_];refine x2 _ k {rfl,SqL.of e,_,US<|N8 hk,?_};push_cast[];refine x4 l _ _ k {rfl,rfl,e,zu6 (by rw[HJ,MX];exact hk),λy o e=>by rw[AI (BI e hl)];exact s _ _ e,?_};rw[AF]
 congr 2
 unfold AM;refine xo λj=>?_;by_cases hj:j<many;rw[τ,N8 hj,JI hk',List.count_append];by_cases z:k=j;subst z;rw[dv (by simpa using hj)];simp;rw[fh z,τ,N8 hj]
 have:List.count j [k]=0:=by simp[z]
 rw[this]
 rfl;rw[bt (by simp;exact cj hj),bt (by simp;exact cj hj)];obtain⟨⟨s,e⟩,y,eσ⟩:=hzz;subst eσ;rw[HJ,bz]at e;exact q l _ hl s e
example:(zu9,UE,qM,3):=by
 apply u2;rintro rl cs ⟨rfl,⟨us,G5,P⟩,hcs,hp,q⟩
 have hl:=P.length;refine{by decide,λl hl0=>?_}
 have s1:=AL (o:=.lst []) hl0
 have e1:upd H l _ l=some (.lst<|AM<|EZ []):=AF;revert s1 e1
 have pl:∀ i,(EZ<|cs.take i).length<=i * 20:=λi=>by
  induction i with
  |zero=>exact υ _
  | succ i ih =>
   cases e:cs[i]? with
   |none =>
    rw[dz (cu<|wz.mp e)];rw[dz ((wz.mp e))]at ih
    lia
   | some c =>
    rw[JI e];unfold EZ at ih ⊢;rw[List.flatMap_append,af]
    have:(List.flatMap LG [c]).length<=20:=by
     cases c with
     |none=>simp[LG]
     |some c =>
      simp[LG];exact hp c<|θ e
    lia
 refine λs1 e1=>.inl {{_,SqL.of<|s1 _ _ G5},EV  (λi σ H'=>(Same H H'/\H' l=some (.lst<|AM<|EZ<|cs.take i))/\∃ y,σ=[some _,some _,y]) {⟨s1,e1⟩,_,rfl} (by rintro i σ H' x ⟨⟨s,x⟩,x⟩;exact SqL.of<|s _ _ G5) (λi v σ H' hx hzz=>?_) (λσ H' hzz=>?_)};obtain⟨⟨s,e⟩,y,eσ⟩:=hzz;subst eσ;obtain⟨c,ec,hr⟩:=KO P hx
 have pli:=pl i
 have ep:EZ (cs.take<|i+1)=EZ (cs.take i)++LG c:=by
  rw[JI ec];unfold EZ;simp
 have hi:=(ε.mp hx).1;rw[ep];push_cast[↓qK_];cases c with
 |none =>
  refine E5 (λz=>z hr) ?_;rw[show LG _=[]from rfl,il];exact⟨s,e⟩
 |some c =>
  revert hr;apply u2;rintro p t ⟨rfl,h1,h2⟩
  have hc:=hp c<|θ ec;push_cast[↓qJ_];refine{.inl {rfl,_,SqL.of e},BB (s _ _ h1)  rfl rfl (x4 l t _ _ {rfl,rfl,e,SqT.of<|s _ _ h2,CC _ (by rw[HJ,HJ];lia),{λy o e=>by rw[AI (BI e hl0)];exact s _ _ e,?_}})};rw[AF];unfold AM;rw[ai]
  rfl
 obtain⟨⟨s,e⟩,y,eσ⟩:=hzz;subst eσ;rw[hl,bz]at e;exact q l _ hl0 s e
def HL{α :Type}{l l':List α}{a k:Nat}(h:l.length=a):(l++l')[a+k]? =l'[k]? :=by
 subst h;rw[cf (yb _ _),Nat.add_sub_cancel_left]
theorem UW:∀ {rows:sT} {b j:Nat},(∀ r∈rows,r.length=w)->b<rows.length->j<w->rows.flatten[b*w+j]? =(rows[b]?).bind (·[j]?)
 | [],b,j,_,hb,_=>by simp at hb
 |r::rs,0,j,h,_,hj=>by
  rw[vz,me,ic,ba<|ψ hj<|bh (h r χ).symm]
  rfl
 |r::rs,b+1,j,h,hb,hj=>by
  rw[t9,t_<|b*w,d_,ic,HL<|h r χ,UW (λr hr=>h r<|ρ _ hr) (by simpa using hb) hj]
  rfl
def Eb(h:∀ r∈rows,r.length=w)(hw:1<=w)(hk:k<n*w)(hb:b+n<=rows.length):(rows.flatten[b*w+k]?)=some (LJ rows (b+k/w) (k%w))/\b+k/w<rows.length/\k%w<w:=by
 have h2:k%w<w:=sr _<|hw
 have h1:=kf (by rw[da];exact hk)
 have e:b*w+k=(b+k/w)*w+k%w:=by
  rw[di,d_,Ij]
 refine{?_,by lia,h2};rw[e,UW h (by lia) h2];unfold LJ
 have hb':b+k/w<rows.length:=by lia
 rw[η _]
 show(rows[b+k/w])[k%w]? =some (((rows[b+k/w])[k%w]?).getD _);rw[η (ψ h2<|bh (h _<|og _).symm)]
 rfl
def zva(h:∀ r∈rows,r.length=w)(hw:1<=w)(hb:b+n<=rows.length)(e:rows.flatten=pre++vs++post)(hp:pre.length=b*w)(hv:vs.length=n*w):(ν<|n*w).map (λk=>LJ rows (b+k/w) (k%w))=vs:=by
 refine xo λk=>?_;by_cases hk:k<n*w
 ·rw[τ,vp hk]
  show some _=_;rw[<-((Eb h hw hk hb).1),e,dw,HL hp,ba<|hv ▸ hk]
 ·rw[bt (by simp;exact cj hk),bt<|hv ▸ cj hk]
def zvb(hn:N<=1000)
  (he:∀ k,k<N->∀ H' (Q':VK),Same H H'->(∀ t,H' t=none->Q' (.ref t) (upd H' t<|.tup [.int ((b+k/w:Nat):Int),.int ((k%w:Nat):Int)]))->te (some (.int (k:Int))::CO A7 σ) H' Q')
  (hd:∀ (pl:Addr) (ts:tW) (H':Hp),H pl=none->Same H H'->H' pl=some (.lst<|ts.map V.ref)->Paired (λt (ij:Nat × Nat)=>H' t=some (.tup [.int ij.1,.int ij.2])) ts ((ν N).map λk=>(b+k/w,k%w))->Q (.ref pl) H'):D8 (FO 0 N) (AE 0) CP te 1 A7 σ H Q:=by
 refine K5 (CC _<|oA hn rfl) (λi ys H'=>Same H H'/\∃ ts:List _,ys=ts.map V.ref/\Paired (λt (ij:Nat × Nat)=>H' t=some (.tup [.int ij.1,.int ij.2])) ts ((ν i).map λk=>(b+k/w,k%w))) {Same.refl _,[],rfl,.nil} (λi ys H' hi z hzz=>?_) (λys H' z hzz p hp=>?_);obtain⟨s,ts,e,P⟩:=hzz;rw[l8];refine he i hi H' _ s λt ht=>{HI s ht,ts++[t],by rw[e,ai];rfl,?_}
 rw[bu,ai];exact Paired.snoc (Paired.mapP P λt ij e=>AL ht _ _ e) AF;obtain⟨s,ts,rfl,P⟩:=hzz;exact hd p ts _ (s.free hp) (HI s hp) AF (Paired.mapP P λt ij e=>AL hp _ _ e)
def Q9{n b w m:Nat}{gp cl:Addr}{rows:sT}{te:TE}{A7:t3}{σ:St}{QV:VK}{pre us post:Oq}(TP:DL K a)(P:PlankAt a H gp cl w rows m)(hw:1<=w)(hnw:n*w<=1000)(hb:b+n<=rows.length)(e:rows.flatten=pre++us++post)(hp:pre.length=b*w)(hv:us.length=n*w)
  (he:∀ k,k<n*w->∀ H' (Q':VK),Same H H'->(∀ t,H' t=none->Q' (.ref t) (upd H' t<|.tup [.int ((b+k/w:Nat):Int),.int ((k%w:Nat):Int)]))->te (some (.int (k:Int))::CO A7 σ) H' Q')
  (q:newL us H QV):D8 (FO 0<|n*w) (AE 0) CP te 1 A7 σ H (λv H2=>LK K a [.ref gp,v] H2 QV E):=by
 refine zvb hnw he λpl ts H' BV s epl Pt=>(x8 gp cl pl w _ m ts _ {rfl,TP,P.same s,epl,Pt,λij hij=>?_,by rw[ζ,cw];exact hnw,?_})
 obtain⟨k,hk,rfl⟩:=av.mp hij;exact(Eb P.wd hw (ak.mp hk) hb).2;rw[oq,show((ν _).map ((λij:Nat × Nat=>LJ _ ij.1 ij.2) ∘ λk=>(b+k/w,k%w)))=us from(zva P.wd hw hb e hp hv)];exact q.of s
section
variable{u1 u2 u3 u4 u5 u6:V}{CH:ZP}
def zvc:(("name_values",u1)::CH:ZP).lookup ("name_values":Str)=some u1:=rfl
def Ec:(("name_values",u1)::("record_values",u2)::CH:ZP).lookup ("record_values":Str)=some u2:=by
 simp[ao,A9 (a:="record_values") (b:="name_values") (by decide)]
def zvd:(("name_values",u1)::("record_values",u2)::("piece_values",u3)::("record_marks",u4)::("piece_marks",u5)::("leads",u6)::CH:ZP).lookup ("leads":Str)=some u6:=by
 simp[ao,A9 (a:="leads") (b:="name_values") (by decide),A9 (a:="leads") (b:="record_values") (by decide),A9 (a:="leads") (b:="piece_values") (by decide),A9 (a:="leads") (b:="record_marks") (by decide),A9 (a:="leads") (b:="piece_marks") (by decide)]
end
def OB(ks:tY)(as:tW):ZP:=List.zipWith (λk l=>(k,V.ref l)) ks as
theorem Ed:∀ {ks:tY} {as:tW},ks.length=as.length->ks.all (λg=> !DS g f)=true->BQ f (.ref l) (OB ks as)=OB (ks++[f]) (as++[l])
 | [],[],_,_=>rfl
 |k::ks,b::as,h,e=>by
  simp only[uy,cb,xj]at e
  show BQ f _ ((k,V.ref b)::OB ks as)=_;rw[zgy e.1,Ed (Nr h) e.2]
  rfl
structure VI(C:Addr)(H H':Hp)(x dx:Addr)(ks:tY)(as:tW)(ls:List (Addr × HO)):Prop where
 ob:H' x=some (.ins C dx<|OB ks as)
 s:SameBut (· =x) H H'
 al:∀ p∈ls,H' p.1=some p.2/\p.1≠x
section
variable{C x dx l:Addr}{ks:tY}{as:tW}{ls:List (Addr × HO)}{H1 H2:Hp}{o:HO}
def VI.same(I:VI C H H1 x dx ks as ls)(s:Same H1 H2):VI C H H2 x dx ks as ls:={s _ _ I.ob,I.s.trans s.sb,λp hp=>{s _ _ (I.al p hp).1,(I.al p hp).2}}
def VI.add(I:VI C H H1 x dx ks as ls)(e:H1 l=some o)(no:∀ D d f,o≠.ins D d f:=by intro y y y z;cases z):VI C H H1 x dx ks as ((l,o)::ls):=⟨I.ob,I.s,λp hp=>by
 rcases aj.mp hp with rfl|hp
 exact{e,λz=>by rw[show l=x from z,I.ob]at e;exact no _ _ _ (μ e).symm};exact I.al p hp⟩
def VI.put{f:Str}{P:Hp->Prop}(I:VI C H H1 x dx ks as ls)(T:Cls K C)(hn:NoAttr K C f)(q:∀ H3,VI C H H3 x dx (ks++[f]) (as++[l]) ls->P H3)(hl:ks.length=as.length:=by rfl)(hf:ks.all (λg=> !DS g f)=true:=by decide +kernel)(h9:ks.length<1000:=by decide) :
  ∃ D d gs,H1 x=some (.ins D d gs)/\Cls K D/\NoAttr K D f/\gs.length<1000/\P (upd H1 x<|.ins D d<|BQ f (.ref l) gs) :=
 {_,_,_,I.ob,T,hn,cm (by unfold OB;rw[List.length_zipWith];exact Nat.min_le_left _ _) h9,q _ {by rw[AF,Ed hl hf],I.s.trans λy o e ny=>by rw[AI ny];exact e,λp hp=>{by rw[AI (I.al p hp).2];exact(I.al p hp).1,(I.al p hp).2}}}
end
def RA{b k w:Nat}{z:Int}{Q:VK}(hz:z=b)(q:∀ t,H t=none->Q (.ref t) (upd H t<|.tup [.int ((b+k/w:Nat):Int),.int ((k%w:Nat):Int)])):GZ (z+(k:Int)/(w:Int)) ((k:Int)%(w:Int)) Q H:=by
 have e1:z+k/w=((b+k/w:Nat)):=by rw[hz];simp
 rw[e1];exact q
def PlankAt.off{H1:Hp}{gp cl x dx C:Addr}{w m:Nat}{rows:sT}{fs:ZP}(P:PlankAt a H gp cl w rows m)(hx:H x=some (.ins C dx fs))(n1:gp≠x)(s:SameBut (· =x) H H1):PlankAt a H1 gp cl w rows m:=by
 obtain⟨⟨dp,e1⟩,⟨ts,e2,e3⟩,r1,r2,r3⟩:=P;exact{{dp,s _ _ e1 n1},{ts,s _ _ e2 (BH e2 hx (by intro z;cases z)),Paired.mapP e3 λt r e=>s _ _ e (BH e hx (by intro z;cases z))},r1,r2,r3}
example:(zve,QZ,wI,6):=by
 apply OO;rintro x dx ly gp cl n r c w rows m vw ⟨rfl,T,TL,TP,hx,L,P,G5,⟨⟨v1,v2,v3,v4,v5,ef,P1,P2,P3,P4,P5⟩,ln,lr,lp,ok⟩,q⟩;obtain⟨dl,II⟩:=L.ob;obtain⟨u,b1,b2,b3,b4,b5⟩:=id L
 have q1:=P1.length
 have q3:=P3.length
 have q2:=P2.length
 have q4:=P4.length
 have ok1:=ok.l1
 have q5:=P5.length
 have ok2:=ok.l2
 have br:=ok.br
 have bp:=ok.bp
 have bn:=ok.bn;refine y2 {II,B8 (by decide +kernel),x5 ly n r c w {rfl,TL,L,λt ht=>?_}};obtain⟨H1,zz0,s1,et⟩:=C4 (o:=.tup [.int ((n:Int)*w),.int<|(r:Int)*w,.int<|(c:Int)*w]) ht;rw[zz0];refine BB et (n:=1) rfl rfl (BB et (n:=2) rfl rfl ?_);push_cast[↓wA_];refine BB et (n:=0) rfl rfl ?_
 have cn:∀ k:Nat,((k:Int)*w)=((k*w:Nat):Int):=λk=>by simp
 have ngx:gp≠x:=λz=>by
  obtain⟨dp,e⟩:=P.ob;rw[z,hx]at e
  have e:=(HO.ins.inj<|μ e).2.2;simp[pf]at e
 have nlx:ly≠x:=λz=>by
  rw[z,hx]at II
  have II:=(HO.ins.inj<|μ II).2.2;simp[lf]at II
 have L':∀ {H':Hp},SameBut (· =x) H H'->LayAt a H' ly n r c w:=λs=>L.sb s nlx
 have V1:VI (a "View") H H1 x dx [] [] []:={s1 _ _ hx,s1.sb,λp hp=>by cases hp}
 have P':∀ {H':Hp},SameBut (· =x) H H'->PlankAt a H' gp cl w rows m:=λs=>P.off hx ngx s;rw[cn n,cn r,cn c];refine{i0,by lia,?_};refine Q9 (n:=n) (b:=0) (us:=v1) (pre:=[]) (post:=v2++v3++v4++v5) TP (P' V1.s) b4 (oA (ω (bh ln.symm) bn) rfl) (by lia) (by rw[ef];simp) (by simp) (ln ▸ q1) (λk hk H' Q' s q'=>?_) λan H2 han s2 ean=>((V1.same s2).add ean).put T.cl T.n1 λH3 V2=>?_
 have Lk:=L'<|V1.s.trans s.sb;obtain⟨dl',hly'⟩:=Lk.ob;exact y2 {hly',B8 (by decide +kernel),x6 ly n r c w k {rfl,TL,Lk,RA (by simp) q'}};push_cast[↓wB_];refine{i0,by lia,Q9 (n:=r) (b:=n) (us:=v2) (pre:=v1) (post:=v3++v4++v5) TP (P' V2.s) b4 (by lia) (by lia) (by simp[ef]) (by first|(simp only[af,di];lia)|exact ln ▸ q1) (lr ▸ q2) (λk hk H' Q' s q'=>?_) λar H4 h4 s4 e4=>((V2.same s4).add e4).put T.cl T.n2 λH5 V3=>?_}
 have Lk:=L'<|V2.s.trans s.sb;obtain⟨dl',hly'⟩:=Lk.ob;exact y2 {hly',B8 (by decide +kernel),x6 ly n r c w k {rfl,TL,Lk,RA (by simp) q'}};push_cast[↓wC_];refine{i0,by lia,Q9 (n:=c) (b:=n+r) (us:=v3) (pre:=v1++v2) (post:=v4++v5) TP (P' V3.s) b4 (oA (ω (bh lp.symm) bp) rfl) (by lia) (by simp[ef]) (by first|(simp only[af,di];lia)|lia) (lp ▸ q3) (λk hk H' Q' s q'=>?_) λap H4 h4 s4 e4=>((V3.same s4).add e4).put T.cl T.n3 λH5 V4=>?_}
 have Lk:=L'<|V3.s.trans s.sb;obtain⟨dl',hly'⟩:=Lk.ob;exact y2 {hly',B8 (by decide +kernel),x6 ly n r c w k {rfl,TL,Lk,RA (by simp) q'}};push_cast[↓wD_];refine{i0,by lia,Q9 (n:=r) (b:=n+r+c) (us:=v4) (pre:=v1++v2++v3) (post:=v5) TP (P' V4.s) b4 (by lia) (by lia) (by simp[ef]) (by first|(simp only[af,di];lia)|lia) (by lia) (λk hk H' Q' s q'=>?_) λam H4 h4 s4 e4=>((V4.same s4).add e4).put T.cl T.n4 λH5 V5=>?_}
 have Lk:=L'<|V4.s.trans s.sb;obtain⟨dl',hly'⟩:=Lk.ob;exact y2 {hly',B8 (by decide +kernel),x6 ly n r c w k {rfl,TL,Lk,RA (by simp) q'}};push_cast[↓wE_];refine{i0,by lia,Q9 (n:=c) (b:=n+r+c+r) (us:=v5) (pre:=v1++v2++v3++v4) (post:=[]) TP (P' V5.s) b4 (oA (ω (bh lp.symm) bp) rfl) (bh G5.symm) (by simp[ef]) (by first|(simp only[af,di];lia)|lia) (by lia) (λk hk H' Q' s q'=>?_) λaq H4 h4 s4 e4=>((V5.same s4).add e4).put T.cl T.n5 λH5 V6=>?_}
 have Lk:=L'<|V5.s.trans s.sb;obtain⟨dl',hly'⟩:=Lk.ob;exact y2 {hly',B8 (by decide +kernel),x6 ly n r c w k {rfl,TL,Lk,RA (by simp) q'}};push_cast[↓wF_]
 have P1':=Paired.mapP P1 λv c=>NmV.keep λy xs e=>V6.s _ _ e (BH e hx (by intro z;cases z))
 have ean2:=(V6.al (an,.lst v1) (by simp)).1;refine y3 {V6.ob,T.cl,T.n1,_,zvc,.inl {{_,SqL.of ean2},(W8 (xs:=v1) (λi=>(AY vw.nm i).isSome) (CC _<|oA (ω (bh q1) bn) rfl) (λi ys H'=>H'=H5/\ys=AM (MO<|vw.nm.take i)) ⟨rfl,rfl⟩ (λi ys H' u ⟨e,e'⟩=>{e ▸ SqL.of ean2,?_}) (λi v ys H' hv hzz QB qb=>?_) (λi v ys H' hv hp hzz=>?_) (λi v ys H' hv hp ⟨e,e'⟩=>{e,?_}) (λys H' hzz p hp=>?_))}};rw[e',HJ];exact ω (fu ..) (by rw[ce];lia);obtain⟨c',ec,hr⟩:=KO P1' hv;push_cast[];rw[zup hr];unfold AY at qb;rw[ec]at qb;simpa using qb;obtain⟨rfl,e'⟩:=hzz;obtain⟨c',ec,hr⟩:=KO P1' hv
 have:c'.isSome=true:=by
  unfold AY at hp;rw[ec]at hp;exact hp
 obtain⟨cc,rfl⟩:=cz.mp this;obtain⟨p,rfl,hp'⟩:=hr;refine BB hp' (n:=1) rfl rfl {rfl,?_};rw[e',JI ec];unfold MO AM;rw[zh,ai]
 rfl;obtain⟨c',ec,hr⟩:=KO P1' hv
 have:c'=none:=by
  unfold AY at hp;rw[ec]at hp;cases c' with
  |none=>rfl
  |some _=>cases hp
 subst this;rw[e',JI ec];unfold MO AM;simp;obtain⟨rfl,e'⟩:=hzz;rw[q1,bz]at e';obtain⟨H12,zz0,CS,e12⟩:=C4 (o:=.lst<|AM<|MO vw.nm) hp;subst e';rw[zz0];refine x3 (r*w) p (MO vw.nm) {rfl,e12,λk hk=>?_,by lia,oA (ω (fu ..) bn) rfl,λal H13 hal s13 eal=>((V6.same<|CS.trans s13).add eal).put T.cl T.n6 λH14 V7=>?_};obtain⟨cc,h1,h2⟩:=ix.mp hk;rw[aa]at h2;obtain⟨c2,rfl,rfl⟩:=h2;rw[<-lr];exact(ok.n1 c2 h1).1
 have tkx:∀ {H':Hp} {ks as ls},VI (a "View") H H' x dx ks as ls->D3 H H':=λI y xs e=>I.s _ _ e (BH e hx (by intro z;cases z))
 have rcs:∀ {H':Hp} {ks as ls},VI (a "View") H H' x dx ks as ls->H' ar=some (.lst v2)->LstAt RcV H' ar vw.rc:=λI e=>{v2,e,Paired.mapP P2 λv c=>RcV.keep<|tkx I}
 have n10:∀ cc,some cc∈vw.rc->cc.2.length<=20:=λcc h=>(ok.n2 cc h).2
 have pb:∀ (l:List IC),l.length<=100->(∀ cc,some cc∈l->cc.2.length<=20)->(EZ l).length<=2000:=λl hl h=>by
  have:(EZ l).length<=l.length * 20:=by
   clear hl
   induction l with
   |nil=>simp[EZ]
   |cons y l ih =>
    have ih:=ih λcc hc=>h cc<|ρ _ hc;unfold EZ at ih ⊢;rw[List.flatMap_cons,af,de]
    have:(LG y).length<=20:=by
     cases y with
     |none=>simp[LG]
     |some c=>exact h c χ
    lia
  lia
 push_cast[↓wG_];refine y3 {V7.ob,T.cl,T.n2,_,Ec,x2 ar vw.rc {rfl,rcs V7 ((V7.al (ar,.lst v2) (by simp)).1),br,n10,λpl H15 BV s15 epl=>x3 (c*w) pl (EZ vw.rc) {rfl,epl,λk hk=>?_,oA (ω (bh lp.symm) bp) rfl,by have:=pb _ br n10;lia,λag H16 hag s16 eag=>((V7.same<|s15.trans s16).add eag).put T.cl T.n7 λH17 V8=>?_}}}
 ·unfold EZ at hk;obtain⟨cc,h1,h2⟩:=uu.mp hk;cases cc with
  |none=>cases h2
  |some cc =>
   rw[<-lp];exact(ok.n2 cc h1).1 k h2
 have hal':H17 al=some (.lst<|AM<|(ν vw.rc.length).map (led vw)):=by rw[lr];exact(V8.al _<|.tail _<|.head _).1
 have ltm:∀ cc,some cc∈LH vw->some cc∈vw.rc:=λcc h=>by
  unfold LH at h;obtain⟨k,u,hk⟩:=av.mp h;unfold AY at hk;cases e:vw.rc[k]? with
  |none=>rw[e]at hk;cases hk
  |some y =>
   rw[e]at hk
   have hk:y=some cc:=hk;exact hk ▸ θ e
 have ltl:(LH vw).length<=100:=by
  unfold LH;rw[ζ];exact ω (cr ..) (by rw[cw];exact br)
 push_cast[↓wH_];refine y2 {V8.ob,?_,x4 x ar al vw {rfl,T,y2 ⟨V8.ob,Ec⟩,y2 ⟨V8.ob,zvd⟩,rcs V8 ((V8.al (ar,.lst v2) (by simp)).1),hal',br,λlt H18 A0 s18 ES=>x2 lt (LH vw) {rfl,ES,ltl,λcc h=>n10 cc<|ltm cc h,λpl2 H19 hpl2 s19 epl2=>x3 (c*w) pl2 (EZ<|LH vw) {rfl,epl2,λk hk=>?_,oA (ω (bh lp.symm) bp) rfl,by have:=pb _ ltl<|λcc h=>n10 cc<|ltm cc h;lia,λah H20 hah s20 eah=>((V8.same<|(s18.trans s19).trans s20).add eah).put T.cl T.n8 λH21 V9=>?_}}}}
 ·simp[OB,ao,A9 (a:="records_led_to") (b:="name_values") (by decide +kernel),A9 (a:="records_led_to") (b:="record_values") (by decide +kernel),A9 (a:="records_led_to") (b:="piece_values") (by decide +kernel),A9 (a:="records_led_to") (b:="record_marks") (by decide +kernel),A9 (a:="records_led_to") (b:="piece_marks") (by decide +kernel),A9 (a:="records_led_to") (b:="leads") (by decide +kernel),A9 (a:="records_led_to") (b:="namings") (by decide +kernel)]
 ·unfold EZ at hk;obtain⟨cc,h1,h2⟩:=uu.mp hk;cases cc with
  |none=>cases h2
  |some cc =>
   rw[<-lp];exact(ok.n2 cc<|ltm cc h1).1 k h2
 have tk:=tkx V9;refine q ⟨an,ar,ap,am,aq,al,ag,ah⟩ _ {⟨dx,V9.ob⟩,{v1,(V9.al (an,.lst v1) (by simp)).1,Paired.mapP P1 λv c=>NmV.keep tk},{v2,(V9.al (ar,.lst v2) (by simp)).1,Paired.mapP P2 λv c=>RcV.keep tk},{v3,(V9.al (ap,.lst v3) (by simp)).1,Paired.mapP P3 λv c=>PcV.keep tk},{v4,(V9.al (am,.lst v4) (by simp)).1,Paired.mapP P4 λv c=>MkV.keep tk},{v5,(V9.al (aq,.lst v5) (by simp)).1,Paired.mapP P5 λv c=>MkV.keep tk},by rw[lr];exact(V9.al _<|.tail _<|.tail _<|.head _).1,by rw[lp];exact(V9.al _<|.tail _<|.head _).1,by rw[lp];exact(V9.al _<|.head _).1,ok} V9.s
def PlV.same(h:PlV H rows n r c w vw)(tk:D3 H H'):PlV H' rows n r c w vw:=by
 obtain⟨⟨v1,v2,v3,v4,v5,ef,P1,P2,P3,P4,P5⟩,x1,x2,x3,x4⟩:=h;exact{x5 v1 v2 v3 v4 v5 {ef,Paired.mapP P1 λv c=>NmV.keep tk,Paired.mapP P2 λv c=>RcV.keep tk,Paired.mapP P3 λv c=>PcV.keep tk,Paired.mapP P4 λv c=>MkV.keep tk,Paired.mapP P5 λv c=>MkV.keep tk},x1,x2,x3,x4}
def Ground.same(g:Ground K a H ly gp vw)(s:Same H H'):Ground K a H' ly gp vw:=by
 revert g;apply u7;rintro cl n r c w rows m ⟨T,TL,TP,L,P,hr,pv⟩;exact x7 cl n r c w _ m {T,TL,TP,L.same s,P.same s,hr,pv.same s.tk}
def Ground.ok{ly gp:Addr}{vw:Vw}(g:Ground K a H ly gp vw):EE vw:=by
 revert g;apply u7;rintro cl n r c w rows m ⟨T,TL,TP,L,P,hr,pv⟩;exact pv.ok
def Eg{ly gp:Addr}{vw:Vw}{Q:Addr->Hp->Prop}(g:Ground K a H ly gp vw)(q:TV K a->∀ x A H2,ViewAt a H2 x A vw->Same H H2->Q x H2) :
  ∀ x dx,H x=none->H dx=none->dx≠x->QZ K a [.ref x,.ref ly,.ref gp] (upd (upd H dx<|.own x) x (.ins (a "View") dx [])) (λv H2=>v=.non/\Q x H2) E:=λx dx hx RJ nd=>by
 have s0:Same H (upd (upd H dx<|.own x) x (.ins (a "View") dx [])):=(AL RJ).trans (AL (by rw[AI nd.symm];exact hx));revert g;apply u7;rintro cl n r c w rows m ⟨T,TL,TP,L,P,hr,pv⟩;exact ON x dx ly gp cl n r c w _ m vw {rfl,T,TL,TP,AF,L.same s0,P.same s0,hr,pv.same s0.tk,λA H' I s=>{rfl,q T x A H' I λy o e=>s _ _ (s0 _ _ e) (BI e hx)}}
example:(zvf,YX,xC,3):=by
 apply u3;rintro ly gp vw ⟨rfl,g,q⟩;obtain⟨n1,n2,n3,n4,n5,n6⟩:=UU g.ok;refine Eg g λT x A H1 I s1=>(x3 x A vw {rfl,T,I,λl1 H2 h2 s2 F2=>x3 x A vw {rfl,T,I.same s2,λl2 H3 h3 s3 F3=>JK (F2.same s3) F3 ?_ (q.of<|(s1.trans s2).trans s3)}})
 unfold faults MP;simp only[af]
 lia
example:(zvg,YY,Z4,2):=by
 apply u3;rintro ly gp vw ⟨rfl,g,q⟩;push_cast[Z4,↓xD_];refine Eg g λT x A H1 I s1=>x3 x A vw {rfl,T,I,λl1 H2 h2 s2 F2=>?_};obtain⟨ps,e,P⟩:=F2;refine{_,.inl {_,SqL.of e,by rw[ζ,P.length]},?_}
 have e2:decide (((faults vw).length:Int)=0)=decide (faults vw=[]):=by
  rw[decide_eq_decide];constructor;intro h;exact ff.mp (by lia);intro h;rw[h];rfl
 rw[e2];exact(q H2<|s1.trans s2)
def Eh(vw:Vw):MP vw=(FH vw).map (pP vw):=by
 unfold MP QT QU QW FH DE;simp only[ai,oq]
 rfl
def LT{α :Type}{f:Nat->Option α}{n k:Nat}:AY ((ν n).map f) k=if k<n then f k else none:=by
 unfold AY;by_cases h:k<n;rw[if_pos h,τ,vp h]
 rfl;rw[if_neg h,bt (by simp;exact cj h)]
 rfl
def UX{α :Type}{l:List (Option α)}{k:Nat}(h:¬ k<l.length):AY l k=none:=by
 unfold AY;rw[bt (cj h)]
 rfl
section
variable{vw:Vw}
def aW(r:Nat):AY (mended vw).rc r=FU vw r:=by
 show AY ((ν _).map _) r=_;rw[LT];split
 rfl;rename_i h;unfold FU;rw[UX h]
def aX(ok:EE vw)(r:Nat):AY (mended vw).rm r=KH vw r:=by
 show AY ((ν _).map _) r=_;rw[LT];split
 rfl;rename_i h;unfold KH;rw[UX h,(UX (by rw[ok.l1];exact h))];simp
def Ej(ok:EE vw)(p:Nat):AY (mended vw).pm p=MQ vw p:=by
 show AY ((ν _).map _) p=_;rw[LT];split
 rfl;rename_i h;unfold MQ;rw[(UX (by rw[ok.l2];exact h))];simp
def zvh{r:Nat}{d:Int × t3}(h:FU vw r=some d):∃ c,AY vw.rc r=some c/\0<led vw r/\d=((led vw r:Int),c.2):=by
 unfold FU at h;cases e:AY _ r with
 |none=>rw[e]at h;cases h
 |some c =>
  rw[e]at h;by_cases h0:led vw r=0;simp only[h0]at h;cases h;simp only[h0,if_false,xl]at h;exact{c,rfl,ss h0,h.symm}
def Ek{r:Nat}{c:Int × t3}(h:AY vw.rc r=some c)(hl:0<led vw r):FU vw r=some ((led vw r:Int),c.2):=by
 unfold FU;rw[h];simp only;rw[if_neg (iz hl)]
def UY(ok:EE vw):EE (mended vw):=by
 refine{λc h=>?_,λc h=>?_,ok.n3,?_,?_,ok.bn,?_,ok.bp}
 show c.2<((ν _).map _).length/\_;simp only[ζ,cw];exact ok.n1 c h;obtain⟨r,z,hr⟩:=av.mp h;obtain⟨d,hd,z,rfl⟩:=zvh hr;exact ok.n2 d<|zul hd
 show((ν _).map _).length=((ν _).map _).length;simp
 show((ν _).map _).length=vw.pc.length;simp
 show((ν _).map _).length<=100;simp only[ζ,cw];exact ok.br
end
theorem OC{α β γ :Type}{F: α -> β ->Prop}{G: α -> γ ->Prop}{f: β -> γ}(k:∀ x y,G x (f y)->F x y):∀ {l:List α} {m:List β},Paired G l (m.map f)->Paired F l m
 |_,[],h=>by cases h;exact .nil
 |_,y::m,h=>by
  cases h with
  |cons h t=>exact .cons (k _ _ h) (OC k t)
theorem RB{α β :Type}{F: α -> β ->Prop}:∀ {bs:List β} {l:List α} {ds:List β},Paired F l (bs++ds)->∃ x y,l=x++y/\Paired F x bs/\Paired F y ds
 | [],l,ds,h=>x2 [] l {rfl,.nil,h}
 |b::bs,l,ds,h=>by
  cases h with
  |cons h t =>
   refine u2 ?_<|RB t;rintro x y ⟨rfl,p1,p2⟩;exact x2 _ y {rfl,.cons h p1,p2}
def PlV.asC{rows:sT}{n r c w:Nat}{vw:Vw}(h:PlV H rows n r c w vw):Paired (CelV H) rows.flatten (DT vw):=by
 refine u5 ?_ h.vs;rintro v1 v2 v3 v4 v5 ⟨ef,P1,P2,P3,P4,P5⟩;rw[ef];exact N9 (N9 (N9 (N9 (N5 P1 λz z h=>h) (N5 P2 λz z h=>h)) (N5 P3 λz z h=>h)) (N5 P4 λz z h=>h)) (N5 P5 λz z h=>h)
def PlV.of{rows:sT}{n r c w:Nat}{vw:Vw}(P:Paired (CelV H) rows.flatten (DT vw))(z1:vw.nm.length=n*w)(z2:vw.rc.length=r*w)(z3:vw.pc.length=c*w)(ok:EE vw):PlV H rows n r c w vw:=by
 refine u2 ?_<|RB P;rintro x4 v5 ⟨e5,P,P5⟩;refine u2 ?_<|RB P;rintro x3 v4 ⟨e4,P,P4⟩;refine u2 ?_<|RB P;rintro x2 v3 ⟨e3,P,P3⟩;refine u2 ?_<|RB P;rintro v1 v2 ⟨e2,P1,P2⟩;exact{x5 v1 v2 v3 v4 v5 {by rw[e5,e4,e3,e2],OC  (f:=Cel.nm) (λz z h=>h) P1,OC  (f:=Cel.rc) (λz z h=>h) P2,OC  (f:=Cel.pc) (λz z h=>h) P3,OC  (f:=Cel.mk) (λz z h=>h) P4,OC  (f:=Cel.mk) (λz z h=>h) P5},z1,z2,z3,ok}
theorem CelV.keep{H':Hp}(tk:D3 H H'){v:V}:∀ {c:Cel},CelV H v c->CelV H' v c
 |.nm _,h=>NmV.keep tk h
 |.rc _,h=>RcV.keep tk h
 |.pc _,h=>PcV.keep tk h
 |.mk _,h=>MkV.keep tk h
def zvi{α :Type}{l:List (Option α)}{k:Nat}(h:k<l.length):l[k]? =some (AY l k):=by
 unfold AY;rw[η h]
 rfl
def El(vw:Vw)(ok:EE vw):(DT vw).length=vw.nm.length+vw.rc.length+vw.pc.length+vw.rc.length+vw.pc.length:=by
 unfold DT;simp only[af,ζ,ok.l1,ok.l2]
def RC{α β :Type}{f:Option α -> β}{l:List (Option α)}{l':List β}{k:Nat}(h:k<l.length):(l.map f++l')[k]? =some (f<|AY l k):=by
 rw[ba (by rwa [ζ]),τ,zvi h]
 rfl
section
variable{vw:Vw}{N R P k:Nat}
def RD(vw:Vw):DT vw=vw.nm.map .nm++(vw.rc.map .rc++(vw.pc.map .pc++(vw.rm.map .mk++(vw.pm.map .mk++[])))):=by simp[DT]
def aY(h1:vw.nm.length=N)(h:k<N):(DT vw)[k]? =some (.nm<|AY vw.nm k):=by
 subst h1;rw[RD,RC h]
def OD(h1:vw.nm.length=N)(h2:vw.rc.length=R)(h:k<R):(DT vw)[N+k]? =some (.rc<|AY vw.rc k):=by
 subst h1 h2;rw[RD,HL<|ζ _,RC h]
def aZ(h1:vw.nm.length=N)(h2:vw.rc.length=R)(h3:vw.pc.length=P)(h:k<P):(DT vw)[N+R+k]? =some (.pc<|AY vw.pc k):=by
 subst h1 h2 h3;rw[RD,d_,HL<|ζ _,HL<|ζ _,RC h]
def RE(ok:EE vw)(h1:vw.nm.length=N)(h2:vw.rc.length=R)(h3:vw.pc.length=P)(h:k<R):(DT vw)[N+R+P+k]? =some (.mk<|AY vw.rm k):=by
 subst h1 h2 h3;rw[RD,d_,d_,HL<|ζ _,HL<|ζ _,HL<|ζ _,RC<|ok.l1 ▸ h]
def UZ(ok:EE vw)(h1:vw.nm.length=N)(h2:vw.rc.length=R)(h3:vw.pc.length=P)(h:k<P):(DT vw)[N+R+P+R+k]? =some (.mk<|AY vw.pm k):=by
 subst h1 h2 h3;rw[RD,d_,d_,d_,HL<|ζ _,HL<|ζ _,HL<|ζ _,HL<|(ζ _).trans ok.l1,RC<|ok.l2 ▸ h]
def Em{f:Nat}{A:Nat->Prop}(h0:f<N->A f)(h3:∀ k,k<R->A (N+k))(h4:∀ k,k<P->A (N+R+k))(h1:∀ k,k<R->A (N+R+P+k))(h2:∀ k,k<P->A (N+R+P+R+k))(hf:f<N+R+P+R+P):A f:=by
 rcases eq f N with h|h
 exact h0 h;obtain⟨f,rfl⟩:=ia h;rcases eq f R with h|h
 exact h3 f h;obtain⟨f,rfl⟩:=ia h;rw[<-d_]at hf ⊢;rcases eq f P with h|h
 exact h4 f h;obtain⟨f,rfl⟩:=ia h;rw[<-d_]at hf ⊢;rcases eq f R with h|h
 exact h1 f h;obtain⟨f,rfl⟩:=ia h;rw[<-d_]at hf ⊢;exact h2 f<|Nat.lt_of_add_lt_add_left hf
end
def zvj(h:DE n p f=[])(hk:k<n):p k=false:=by
 simpa using (yw.mp (Bf.mp h) k (ak.mpr hk))
def zvk(h:faults vw=[])(hr:r<vw.rc.length):JE vw r=false:=zvj (uf.mp<|(uf.mp (uf.mp h).1).2).2 hr
def Ep{vw:Vw}{lv:Lv}(h:lv∈FH vw):(∃ r,lv=.many r/\r<vw.rc.length/\G2 vw r=true)\/(∃ r,lv=.leftR r/\r<vw.rc.length/\(AY vw.rc r).isSome=true/\led vw r=0)\/(∃ p,lv=.leftP p/\p<vw.pc.length/\AY vw.pm p=some 1/\ID vw p=0)\/∃ r,lv=.marked r/\r<vw.rc.length/\AY vw.rm r=some 1/\AY vw.rc r=none:=by
 unfold FH at h;simp only[a_,av,dh,ak,cb,decide_eq_true_eq]at h;rcases h with((⟨r,h,rfl⟩|⟨r,h,rfl⟩)|⟨p,h,rfl⟩)|⟨r,h,rfl⟩
 exact .inl ⟨r,rfl,h.1,h.2⟩;exact .inr<|.inl ⟨r,rfl,h.1,h.2.1,h.2.2⟩;exact .inr<|.inr<|.inl ⟨p,rfl,h.1,h.2.1,h.2.2⟩;exact .inr<|.inr<|.inr {r,rfl,h.1,h.2.1,wx.mp h.2.2}
section
variable{vw:Vw}{n r c w:Nat}
def zvl(ok:EE vw)(z1:vw.nm.length=n*w)(z2:vw.rc.length=r*w)(z3:vw.pc.length=c*w)(h:lv∈FH vw)(hx:fx∈E4 vw n r c w lv):(DT<|mended vw)[fx.1]? =some fx.2:=by
 have g2:(mended vw).rc.length=r*w:=by
  show((ν vw.rc.length).map (FU vw)).length=_;simp[z2]
 have ok':=UY ok
 have g1:(mended vw).nm.length=n*w:=z1
 have g3:(mended vw).pc.length=c*w:=z3;rcases Ep h with⟨k,rfl,hk,hm⟩|⟨k,rfl,hk,hs,hl⟩|⟨k,rfl,hk,h1,h2⟩|⟨k,rfl,hk,h1,h2⟩
 ·simp only[E4,ae]at hx;subst hx;rw[OD g1 g2 (z2 ▸ hk),aW]
 ·obtain⟨d,hd⟩:=cz.mp hs;simp only[E4,aj,bx,or_false]at hx;rcases hx with rfl|rfl
  ·rw[OD g1 g2 (z2 ▸ hk),aW];unfold FU;rw[hd];simp[hl]
  ·simp only[di];rw[RE ok' g1 g2 g3 (z2 ▸ hk),aX ok];unfold KH;rw[hd];simp[hl]
 ·simp only[E4,ae]at hx;subst hx;simp only[di];rw[UZ ok' g1 g2 g3 (z3 ▸ hk),Ej ok];unfold MQ;rw[if_pos ⟨h1,h2⟩]
 ·simp only[E4,ae]at hx;subst hx;simp only[di];rw[RE ok' g1 g2 g3 (z2 ▸ hk),aX ok];unfold KH;rw[h2];simp[h1]
def zvm(ok:EE vw)(z1:vw.nm.length=n * w)(z2:vw.rc.length=r * w)(z3:vw.pc.length=c * w)(hf0:faults vw=[])(hf:f<n * w+r * w+c * w+r * w+c * w):(∀ lv∈FH vw,∀ fx∈E4 vw n r c w lv,fx.1≠f)->(DT<|mended vw)[f]? =(DT vw)[f]? :=by
 have g2:(mended vw).rc.length=r*w:=by
  show((ν vw.rc.length).map (FU vw)).length=_;simp[z2]
 have ok':=UY ok
 have g1:(mended vw).nm.length=n*w:=z1
 have g3:(mended vw).pc.length=c*w:=z3;refine Em (A:=λf=>(∀ lv∈FH vw,∀ fx∈E4 vw n r c w lv,fx.1≠f)->(DT<|mended vw)[f]? =(DT vw)[f]?) (λh hno=>?_) (λk hk hno=>?_) (λk hk hno=>?_) (λk hk hno=>?_) (λk hk hno=>?_) hf
 ·rw[aY g1 h,aY z1 h];rfl
 ·rw[OD g1 g2 hk,OD z1 z2 hk,aW]
  have hk':k<vw.rc.length:=z2.symm ▸ hk
  congr 2
  cases e:AY vw.rc k with
  |none=>unfold FU;rw[e]
  |some d =>
   have h0:0<led vw k:=by
    rcases ma (led vw k)with z|z
    ·refine absurd rfl (hno (.leftR k) ?_ (n*w+k,.rc none) (by simp[E4]));unfold FH;simp only[a_,av,dh,ak,cb,decide_eq_true_eq];exact .inl (.inl (.inr {k,{hk',by rw[e];rfl,z},rfl}))
    ·exact z
   have h1:¬ ((led vw k:Int)<d.1):=λz=>by
    refine absurd rfl (hno (.many k) ?_ (n*w+k,.rc<|FU vw k) (by simp[E4]));unfold FH;simp only[a_,av,dh,ak,cb,decide_eq_true_eq];refine .inl<|.inl<|.inl {k,{hk',?_},rfl};unfold G2;rw[e];simp[h0,z]
   have h2:=zvk hf0 hk';unfold JE at h2;rw[e]at h2;rw[Ek e h0]
   have:d.1=(led vw k:Int):=by lia
   rw[<-this]
 ·rw[aZ g1 g2 g3 hk,aZ z1 z2 z3 hk];rfl
 ·rw[RE ok' g1 g2 g3 hk,RE ok z1 z2 z3 hk,aX ok]
  have hk':k<vw.rc.length:=z2.symm ▸ hk
  congr 2
  cases e:AY vw.rc k with
  |none =>
   unfold KH;rw[e];simp only;rw[if_neg];intro z;refine absurd (by simp only[di]) (hno (.marked k) ?_ ((n+r+c)*w+k,.mk<|some 0) (by simp[E4]));unfold FH;simp only[a_,av,dh,ak,cb,decide_eq_true_eq];exact .inr {k,{hk',z,by rw[e];rfl},rfl}
  |some d =>
   unfold KH;rw[e];simp only;rw[if_neg];intro z;refine absurd (by simp only[di]) (hno (.leftR k) ?_ ((n+r+c)*w+k,.mk<|some 0) (by simp[E4]));unfold FH;simp only[a_,av,dh,ak,cb,decide_eq_true_eq];exact .inl (.inl (.inr {k,{hk',by rw[e];rfl,z},rfl}))
 ·rw[UZ ok' g1 g2 g3 hk,UZ ok z1 z2 z3 hk,Ej ok]
  congr 2
  unfold MQ;rw[if_neg];rintro ⟨z1',z2'⟩;refine absurd (by simp only[di]) (hno (.leftP k) ?_ ((n+r+c+r)*w+k,.mk<|some 0) (by simp[E4]));unfold FH;simp only[a_,av,dh,ak,cb,decide_eq_true_eq];exact .inl<|.inr {k,{z3.symm ▸ hk,z1',z2'},rfl}
end
def E6:Cel->vk
 |.nm none=>.none
 |.nm (some c)=>.tuple [.str c.1,.int c.2]
 |.rc none=>.none
 |.rc (some c)=>.tuple [.int c.1,.tuple<|c.2.map λ(k:Nat)=>Ct k]
 |.pc none=>.none
 |.pc (some s)=>.str s
 |.mk none=>.none
 |.mk (some i)=>.int i
def zvn(l:t3):∀ {n:Nat},Paired (Dat K H n) (AM l) (l.map λ(k:Nat)=>Ct k):=by
 induction l with
 |nil=>exact .nil
 |cons x r ih=>exact .cons (.int _) ih
def CelV.dat:∀ {c:Cel},CelV H v c->c.ok->Dat K H 2 v (E6 c)
 |.nm none,h,_=>by cases (h);exact Dat.non
 |.nm (some c),h,o=>by
  obtain⟨p,rfl,e⟩:=(h)
  exact Dat.tup  (SqT.of e) (.cons {.str _,o,bv _} (.cons (Dat.int _) .nil))
 |.rc none,h,_=>by cases (h);exact Dat.non
 |.rc (some c),h,_=>by
  refine u2 ?_<|h;rintro p q ⟨rfl,e,e2⟩;exact Dat.tup  (SqT.of e) (.cons (Dat.int _) (.cons (Dat.tup  (SqT.of e2) (zvn _)) .nil))
 |.pc none,h,_=>by cases (h);exact Dat.non
 |.pc (some s),h,o=>by
  cases (h);exact{.str s,o,bv _}
 |.mk none,h,_=>by cases (h);exact Dat.non
 |.mk (some i),h,_=>by cases (h);exact Dat.int i
theorem Ev:∀ (l m:t3),pz (l.map λ(k:Nat)=>Ct k) (m.map λ(k:Nat)=>Ct k)=decide (l=m)
 | [],[]=>rfl
 | [],_::_=>rfl
 |_::_,[]=>rfl
 |x::l,y::m=>by
  show((x ==(y:Int))&&pz _ _)=_;rw[Ev l m];simp
  lia
def zvo:∀ {c c':Cel},c.kind=c'.kind->g_ (E6 c) (E6 c')=decide (c=c')
 | .nm c,.nm c',_=>by
  cases c with
  |none=>cases c'<;>simp[E6,g_]
  |some c =>
   cases c' with
   |none=>simp[E6,g_]
   |some d =>
    obtain⟨s,k⟩:=c;obtain⟨s',k'⟩:=d;simp[E6,g_,pz]
    lia
 | .rc c,.rc c',_=>by
  cases c with
  |none=>cases c'<;>simp[E6,g_]
  |some c =>
   cases c' with
   |none=>simp[E6,g_]
   |some d =>
    obtain⟨s,k⟩:=c;obtain⟨s',k'⟩:=d;rw[jf];simp[E6,g_,pz,Ev]
 | .pc c,.pc c',_=>by
  cases c with
  |none=>cases c'<;>simp[E6,g_]
  |some c =>
   cases c' with
   |none=>simp[E6,g_]
   |some d =>
    rw[jf];simp[E6,g_]
 | .mk c,.mk c',_=>by
  cases c with
  |none=>cases c'<;>simp[E6,g_]
  |some c =>
   cases c' with
   |none=>simp[E6,g_]
   |some d =>
    rw[jf];simp[E6,g_]
 |.nm _,.rc _,h=>by cases h
 |.nm _,.pc _,h=>by cases h
 |.nm _,.mk _,h=>by cases h
 |.rc _,.nm _,h=>by cases h
 |.rc _,.pc _,h=>by cases h
 |.rc _,.mk _,h=>by cases h
 |.pc _,.nm _,h=>by cases h
 |.pc _,.rc _,h=>by cases h
 |.pc _,.mk _,h=>by cases h
 |.mk _,.nm _,h=>by cases h
 |.mk _,.rc _,h=>by cases h
 |.mk _,.pc _,h=>by cases h
theorem Ew:∀ {cs cs':t7},cs.map Cel.kind=cs'.map Cel.kind->pz (cs.map E6) (cs'.map E6)=decide (cs=cs')
 | [],[],_=>rfl
 | [],_::_,h=>by cases h
 |_::_,[],h=>by cases h
 |x::l,y::m,h=>by
  injection h with h1 h2
  show(g_ _ _&&pz _ _)=_;rw[zvo h1,Ew h2];simp
def Ex(h:Paired (CelV H) xs cs)(ok:∀ c∈cs,c.ok):Paired (Dat K H 2) xs (cs.map E6):=by
 induction h with
 |nil=>exact .nil
 |cons h t ih=>exact .cons (h.dat<|ok _ χ) (ih λc hc=>ok c<|ρ _ hc)
def zvp{p q:Addr}{xs ys:Oq}{cs cs':t7}(h1:H p=some (.lst xs))(h2:H q=some (.lst ys))(P1:Paired (CelV H) xs cs)(P2:Paired (CelV H) ys cs')(o1:∀ c∈cs,c.ok)(o2:∀ c∈cs',c.ok)(hk:cs.map Cel.kind=cs'.map Cel.kind)(hq:Q (.bl<|!decide (cs=cs')) H):K4 K (.ref p) (.ref q) H Q:=by
 have e1:Dat K H 3 _ _:=Dat.lst (SqL.of h1) (Ex P1 o1)
 have e2:Dat K H 3 _ _:=Dat.lst (SqL.of h2) (Ex P2 o2);refine y2 {e1.1,e2.1,e1.shp (by decide),e2.shp (by decide),?_}
 show Q (.bl<|!PyData.eqvAll _ _) H;rw[Ew hk];exact hq
def Ey{w f g:Nat}(h:pk w f=pk w g):f=g:=by
 injection h with h1 h
 injection h with h2 _
 injection h1 with h1
 injection h2 with h2
 have a1:=rg f w;rw[show f/w=g/w by exact cg h1,show f%w=g%w by exact cg h2]at a1;exact a1 ▸ (rg g w)
def a0(b j:Nat):Int:=reduceHash<|Lu [hashInt b,hashInt j]
def zvq:∀ j,j<6->∀ b,b<31->∀ c,c<31->a0 b j=a0 c j->b=c:=by decide +kernel
def zvr{k:List AO}{v:V}:SQ [(k,v)]:=λP w=>by simp
def zvs{w f g:Nat}{v u:V}(w6:w<=6)(w1:1<=w)(hf:f/w<31)(hg:g/w<31)(he:f%w=g%w)(ne:f/w≠g/w):SQ [(pk w f,v),(pk w g,u)]:=λP W=>by
 have e:∀ h:Nat,(nw<|EH P W).hash (pk w h)=a0 (h/w) (h%w):=λh=>rfl;simp only[dg,yq,gz,ae,bx,not_false_eq_true,jr,and_true];rw[e,he];exact λz=>ne<|zvq (g%w) (ψ (sr _ w1) w6) _ hf _ hg z
def RF{w b k:Nat}{x:Int}(hw:1<=w)(hx:x=b):([.int (x+(k:Int)/(w:Int)),.int<|(k:Int)%(w:Int)]:Oq)=(pk w<|b*w+k).map kV:=by
 unfold pk
 have h2:(b*w+k)%w=k%w:=by rw[da,mn]
 have h1:(b*w+k)/w=b+k/w:=by rw[da,mo<|hw]
 rw[h1,h2,hx];simp only[dg,yq,kV];rw[Ji,Ik,Il]
def zvt{gp cl:Addr}{w m f:Nat}{rows:sT}{cs:t7}{x:Cel}(P:PlankAt a H gp cl w rows m)(hw:1<=w)(hc:Paired (CelV H) rows.flatten cs)(hx:cs[f]? =some x)(hb:f/w<rows.length):∃ row v,rows[f/w]? =some row/\row[f%w]? =some v/\CelV H v x:=by
 obtain⟨v,hv,hr⟩:=JZ hc hx
 have e:=UW  (j:=f%w) P.wd hb (sr _ hw);rw[da,rg,hv]at e;cases er:rows[f/w]? with
 |none=>rw[er]at e;cases e
 |some row =>
  rw[er]at e;exact x2 _ v ⟨rfl,e.symm,hr⟩
example:(zvu,YZ,ZW,4):=by
 apply OO;rintro ly gp cl fd n r c w rows m vw lv ⟨rfl,S,hlv,EU,q⟩
 have w1:=S.w1;obtain⟨dl,II⟩:=S.la.ob
 have z2:=S.pv.lr
 have n6:=S.n6
 have r6:=S.r6
 have c6:=S.c6
 have q1:∀ {p t:Addr} {f:Nat} {x:Cel} {v:V} {H2:Hp},H p=none->Same H H2->H2 p=some (.dT [])->H2 t=some (.tup<|(pk w f).map kV)->CelV H2 v x->E4 vw n r c w lv=[(f,x)]->H2 p=some (.dT [])/\∃ kvs:aH,SR H2 [(.ref t,v)] kvs/\kvs.length<=15/\Q (.ref p) (upd H2 p<|.dT<|EK [] kvs):=λ{p t f x v H2} hp s e et hv ef=>by
  refine{e,[(pk w f,v)],.cons {⟨t,rfl,et⟩,rfl} .nil,by simp,?_};refine q p [(pk w f,v)] _ hp (λy o ey=>by rw[AI (BI ey hp)];exact s _ _ ey) AF ?_ zvr;rw[ef];exact .cons {rfl,CelV.keep (λy ys ey=>by rw[AI (BH ey e (λz=>nomatch z))];exact ey) hv} .nil
 rcases Ep hlv with⟨k,rfl,hk,hm⟩|⟨k,rfl,hk,hsm,hl⟩|⟨k,rfl,hk,h1,h2⟩|⟨k,rfl,hk,h1,h2⟩
 obtain⟨d,hd⟩:∃ d,AY vw.rc k=some d:=by
  unfold G2 at hm;cases e:AY vw.rc k with
  |none=>rw[e]at hm;cases hm
  |some d=>exact⟨d,rfl⟩
 have hl:0<led vw k:=by
  unfold G2 at hm;rw[hd]at hm;simp at hm;exact hm.1
 refine BB EU (n:=0) rfl rfl (y2 {II,B8 (by decide +kernel),BB EU (n:=1) rfl rfl (x6 ly n r c w k {rfl,S.tl,S.la,λt ht=>?_})});obtain⟨H1,zz0,s1,e1⟩:=C4 (o:=.tup [.int ((n:Int)+(k:Int)/(w:Int)),.int<|(k:Int)%(w:Int)]) ht;rw[zz0];push_cast[↓vF_];intro p hp;obtain⟨H2,zz0,s2,e2⟩:=C4 (o:=.dT []) hp;rw[zz0]
 have KP:=s1.trans s2
 have P2:=S.pl.same KP
 have f1:(n*w+k)/w=n+k/w:=by rw[da,mo (by exact w1)]
 have f2:(n*w+k)%w=k%w:=by rw[da,mn]
 obtain⟨dp,M4⟩:=P2.ob
 have hkw:k/w<r:=by
  rw[ui (by exact w1)];exact z2 ▸ hk
 obtain⟨row,v,er,ev,hv⟩:=zvt (f:=n*w+k) (x:=.rc<|AY vw.rc k) P2 w1 (S.pv.same KP.tk).asC (OD S.pv.ln z2<|z2 ▸ hk) (by rw[S.rl];lia);rw[f1]at er;rw[f2]at ev;rw[hd]at hv;revert hv;apply u2;rintro pv tv ⟨rfl,hpv,htv⟩;refine BB ((s1.trans s2) _ _ EU) (n:=2) rfl rfl (y2 {M4,Q5 _ _ _,BB (s2 _ _ e1) (n:=0) rfl rfl (x6 gp cl w rows m _ {rfl,S.tp,P2,λi row' eb er' l hnl=>?_,λz=>?_})})
 have ei:i=n+k/w:=by
  have:((n+k/w:Nat):Int)=(n:Int)+(k:Int)/(w:Int):=by rw[Ji,Ik]
  exact cg eb.symm
 subst ei;rw[er]at er';obtain⟨H3,zz0,s3,e3⟩:=C4 (o:=.lst row) hnl;obtain rfl:=μ er';rw[zz0];refine BB (s3 _ _<|s2 _ _ e1) (n:=1) rfl rfl (CY (SqL.of e3) (n:=k%w) (by rw[Il]) ev (BB (s3 _ _ hpv) (n:=1) rfl rfl {by decide,λp1 OG=>?_}))
 have s4:=AL (o:=.tup [V.int ↑(led vw k),V.ref tv]) OG
 have s24:=s3.trans s4;refine q1 (f:=n*w+k) (x:=.rc<|FU vw k) (s1.free hp) (KP.trans s24) (s24 _ _ e2) ?_ ?_ rfl;rw[<-RF (x:=(n:Int)) w1 rfl];exact s24 _ _<|s2 _ _ e1;rw[Ek hd hl];exact x2 p1 tv {rfl,AF,s24 _ _ htv}
 have rl:=S.rl;rcases z with z|z
 exact absurd z<|La.mpr<|lh _
 ·have z:rows.length<=n+k/w:=vx.mp z
  lia
 refine BB EU (n:=0) rfl rfl ?_;refine BB EU (n:=0) rfl rfl ?_;refine BB EU (n:=1) rfl rfl ?_;intro p hp;obtain⟨H2,zz0,s2,e2⟩:=C4 (o:=.dT []) hp;rw[zz0];refine y2 {s2 _ _ II,B8 (by decide +kernel),BB (s2 _ _ EU) (n:=2) rfl rfl (x6 ly n r c w k {rfl,S.tl,S.la.same s2,λt ht=>?_})}
 have s3:=AL (o:=.tup [.int ((n:Int)+(k:Int)/(w:Int)),.int<|(k:Int)%(w:Int)]) ht
 have e3:upd H2 t (.tup [.int ((n:Int)+(k:Int)/(w:Int)),.int<|(k:Int)%(w:Int)]) t=some (.tup<|(pk w<|n*w+k).map kV):=by rw[AF,RF (x:=(n:Int)) w1 rfl]
 revert s3 e3;generalize upd H2 t (.tup [.int ((n:Int)+(k:Int)/(w:Int)),.int<|(k:Int)%(w:Int)])=H3;intro s3 e3
 have F8:=s2.trans s3;refine y2 {F8 _ _ II,B8 (by decide +kernel),BB (F8 _ _ EU) (n:=2) rfl rfl (x6 ly n r c w k {rfl,S.tl,S.la.same F8,λt2 ht2=>?_})}
 have s4:=AL (o:=.tup [.int ((n:Int)+r+c+(k:Int)/(w:Int)),.int<|(k:Int)%(w:Int)]) ht2
 have e4:upd H3 t2 (.tup [.int ((n:Int)+r+c+(k:Int)/(w:Int)),.int<|(k:Int)%(w:Int)]) t2=some (.tup<|(pk w<|(n+r+c)*w+k).map kV):=by rw[AF,RF (x:=(n:Int)+r+c) (b:=n+r+c) w1 (by exact rfl)]
 revert s4 e4;intro s4 e4
 have s24:=s3.trans s4
 have f1:(n*w+k)/w=n+k/w:=by rw[da,mo (by exact w1)]
 have f2:(n*w+k)%w=k%w:=by rw[da,mn]
 have g1:((n+r+c)*w+k)/w=n+r+c+k/w:=by rw[da,mo (by exact w1)]
 have g2:((n+r+c)*w+k)%w=k%w:=by rw[da,mn]
 have hkw:k/w<r:=by
  rw[ui (by exact w1)];exact z2 ▸ hk
 have mg:EK [] [(pk w<|n*w+k,V.non),(pk w<|(n+r+c)*w+k,.int 0)]=[(pk w<|n*w+k,V.non),(pk w<|(n+r+c)*w+k,.int 0)]:=XC _ [] (by
  simp only[qy,dg,yq,gz,ae,bx,not_false_eq_true,jr,and_true];intro z
  have:=Ey z
  have e9:(n*w+k)/w=((n+r+c)*w+k)/w:=by rw[this]
  rw[f1,g1]at e9
  lia)
 refine{(s24 _ _ e2),[(pk w<|n*w+k,V.non),(pk w<|(n+r+c)*w+k,.int 0)],.cons {{t,rfl,s4 _ _ e3},rfl} (.cons {⟨t2,rfl,e4⟩,rfl} .nil),by simp,?_};rw[mg];refine q p _ _ hp (λy o ey=>by rw[AI (BI ey hp)];exact(s2.trans s24) _ _ ey) AF (.cons ⟨rfl,rfl⟩ (.cons ⟨rfl,rfl⟩ .nil)) (zvs S.w6 w1 (by rw[f1];lia) (by rw[g1];lia) (by rw[f2,g2]) (by rw[f1,g1];lia));refine BB EU (n:=0) rfl rfl ?_;push_cast[];refine BB EU (n:=0) rfl rfl ?_;push_cast[];push_cast[↓vJ_];refine BB EU (n:=1) rfl rfl ?_;push_cast[];refine E5 (by decide +kernel) ?_;push_cast[↓vK_];intro p hp;obtain⟨H2,zz0,s2,e2⟩:=C4 (o:=.dT []) hp;rw[zz0];refine y2 {s2 _ _ II,B8 (by decide +kernel),BB (s2 _ _ EU) (n:=2) rfl rfl (x6 ly n r c w k {rfl,S.tl,S.la.same s2,λt ht=>?_})}
 have s3:=AL (o:=.tup [.int ((n:Int)+r+c+r+(k:Int)/(w:Int)),.int<|(k:Int)%(w:Int)]) ht
 have e3:upd H2 t (.tup [.int ((n:Int)+r+c+r+(k:Int)/(w:Int)),.int<|(k:Int)%(w:Int)]) t=some (.tup<|(pk w<|(n+r+c+r)*w+k).map kV):=by rw[AF,RF (x:=(n:Int)+r+c+r) (b:=n+r+c+r) w1 (by exact rfl)]
 exact q1 (f:=(n+r+c+r)*w+k) (x:=.mk<|some 0) hp (s2.trans s3) (s3 _ _ e2) e3 rfl rfl
 ·have EU:H fd=some (.tup [.str (bg "marked"),.int k]):=EU;push_cast[ZW,↓vG_];refine BB EU (n:=0) rfl rfl ?_;push_cast[];refine E5 (by decide +kernel) ?_;push_cast[↓vI_];refine BB EU (n:=0) rfl rfl ?_;push_cast[];push_cast[↓vH_];intro p hp;obtain⟨H2,zz0,s2,e2⟩:=C4 (o:=.dT []) hp;rw[zz0];refine y2 {s2 _ _ II,B8 (by decide +kernel),BB (s2 _ _ EU) (n:=1) rfl rfl (x6 ly n r c w k {rfl,S.tl,S.la.same s2,λt ht=>?_})}
  have s3:=AL (o:=.tup [.int ((n:Int)+r+c+(k:Int)/(w:Int)),.int<|(k:Int)%(w:Int)]) ht
  have e3:upd H2 t (.tup [.int ((n:Int)+r+c+(k:Int)/(w:Int)),.int<|(k:Int)%(w:Int)]) t=some (.tup<|(pk w<|(n+r+c)*w+k).map kV):=by rw[AF,RF (x:=(n:Int)+r+c) (b:=n+r+c) w1 (by exact rfl)]
  exact q1 (f:=(n+r+c)*w+k) (x:=.mk<|some 0) hp (s2.trans s3) (s3 _ _ e2) e3 rfl rfl
theorem Ez{α β :Type}{F: α -> β ->Prop}:∀ {l:List α} {m:List β} (k:Nat),Paired F l m->Paired F (l.take k) (m.take k)
 |_,_,0,_=>.nil
 |_,_,_+1,.nil=>.nil
 |_,_,k+1,.cons h t=>.cons h<|Ez k t
theorem Fb{α β :Type}{F: α -> β ->Prop}:∀ {l:List α} {m:List β} (k:Nat),Paired F l m->Paired F (l.drop k) (m.drop k)
 |_,_,0,h=>h
 |_,_,_+1,.nil=>.nil
 |_,_,k+1,.cons h t=>Fb k t
def Fd{w b:Nat}{cs:t7}:DN w cs (b+1)=DN w (cs.drop w) b:=by
 unfold DN;rw[List.drop_drop,t9,t_]
theorem Fg{w:Nat}:∀ {rows:sT} {cs:t7},(∀ r∈rows,r.length=w)->Paired (CelV H) rows.flatten cs->∀ {b:Nat} {row:Oq},rows[b]? =some row->Paired (CelV H) row (DN w cs b)
 | [],_,_,_,_,_,e=>by simp at e
 |r0::rs,cs,hw,P,0,row,e=>by
  obtain rfl:=μ e
  have h0:=hw r0 χ
  have:=Ez w P;rw[ic,<-h0,Ls]at this;unfold DN;rw[vz,<-h0];exact this
 |r0::rs,cs,hw,P,b+1,row,e=>by
  have h0:=hw r0 χ
  have:=Fb w P;rw[ic,<-h0,As,h0]at this;rw[Fd];exact Fg (λr hr=>hw r<|ρ _ hr) this e
theorem Fh{w:Nat}:∀ {rows:sT} {cs:t7},cs.length=rows.length * w->(∀ {b:Nat} {row:Oq},rows[b]? =some row->Paired (CelV H) row (DN w cs b))->Paired (CelV H) rows.flatten cs
 | [],cs,hl,_=>by
  rw[mj,vz]at hl;rw[ff.mp hl];exact .nil
 |r0::rs,cs,hl,h=>by
  rw[de]at hl
  have h0:=h (b:=0) rfl;unfold DN at h0;rw[vz,Lr]at h0
  have ih:=Fh (w:=w) (rows:=rs) (cs:=cs.drop w) (by rw[jn,hl,t9,Nat.add_sub_cancel]) λ{b row} e=>by
   rw[<-Fd];exact h  e
  have:=N9 h0 ih;rw[iu]at this;exact this
theorem OE{w:Nat}:∀ {rows:sT},(∀ r∈rows,r.length=w)->rows.flatten.length=rows.length*w
 | [],_=>by simp
 |r::rs,h=>by
  rw[ic,af,OE λx hx=>h x<|ρ _ hx,h r χ,de,t9];exact t_ _ _
def zvv(cl:Addr)(w n:Int):(pf cl w n).lookup ("blocks":Str)=none:=HZ _ _ _ (by decide) (by decide) (by decide)
def Fj{w b j:Nat}{cs:t7}(hj:j<w):(DN w cs b)[j]? =cs[b*w+j]? :=by
 unfold DN;rw[List.getElem?_take,if_pos hj,Cr]
def zvw{w b:Nat}{cs cs':t7}(h:cs'.map Cel.kind=cs.map Cel.kind):(DN w cs' b).map Cel.kind=(DN w cs b).map Cel.kind:=by
 unfold DN;rw[Bt,Bu,Bt,Bu,h]
def Fk{w b:Nat}{cs:t7}{c:Cel}(h:c∈DN w cs b):c∈cs:=List.mem_of_mem_drop<|vc h
def Fl{w i:Nat}{cs cs':t7}:NW w (i+1) cs cs'=NW w i cs cs'+if DN w cs i=DN w cs' i then 0 else 1:=by
 unfold NW;rw[bu];by_cases h:DN w cs i=DN w cs' i;simp[h];simp[h]
def zvx{w b j:Nat}(hj:j<w):([.int (b:Int),.int (j:Int)]:Oq)=(pk w<|b*w+j).map kV:=by
 unfold pk
 have h1:(b*w+j)/w=b:=by rw[da,mo (by lia),Nat.div_eq_of_lt hj,Nat.add_zero]
 have h2:(b*w+j)%w=j:=by rw[da,mn,Nat.mod_eq_of_lt hj]
 rw[h1,h2]
 rfl
structure Fm(a:Ad)(gp cl:Addr)(w m M:Nat)(cs cs':t7)(H:Hp)(i:Nat)(rs:sT)(H':Hp):Prop where
 p:PlankAt a H' gp cl w rs (m+NW w i cs cs')
 l:rs.length=M
 c:∀ {b:Nat} {row:Oq},rs[b]? =some row->Paired (CelV H') row (if b<i then DN w cs' b else DN w cs b)
 s:SameBut (λx=>x=gp\/x=cl) H H'
example:(zvy,Y0,ZX,5):=by
 apply u9;rintro gp cl dl w rows m kvs cs cs' ⟨rfl,TP,P,hM,w1,w6,hdl,PC,hk,o1,o2,hc,q⟩;obtain⟨dp,M4⟩:=P.ob;obtain⟨tc,BC,_⟩:=P.ls
 have hcl':cs.length=rows.length*w:=by
  rw[<-PC.length];exact OE P.wd
 have FL:cs'.length=cs.length:=by
  simpa using (congrArg nj hk)
 have ndl:dl≠gp/\dl≠cl:={BH hdl M4 (λz=>nomatch z),BH hdl BC (λz=>nomatch z)}
 push_cast[ZX,↓vO_];refine y2 {M4,zvv _ _ _,x5 gp cl w _ m {rfl,TP,P,?_}};push_cast[];refine{i0,by lia,NG (λi σ H'=>(∃ rs,Fm a gp cl w m _ cs cs' H i rs H')/\∃ y2 y3 y4,σ=[some _,some _,y2,y3,y4]) {{_,{P,rfl,λe=>Fg P.wd PC e,SameBut.refl _}},x3 _ _ _ rfl} (λi σ H1 hi hzz=>?_) (λσ H1 hzz=>?_)};obtain⟨⟨rs,J⟩,y2,y3,y4,eσ⟩:=hzz;subst eσ;obtain⟨dp1,hob1⟩:=J.p.ob
 have er:=η   (by rw[J.l];exact hi)
 have tk1:D3 H H1:=λy ys e=>J.s _ _ e λz=>by
  rcases z with z|z
  rw[z,M4]at e;cases e;rw[z,BC]at e;cases e
 revert er;generalize rs[i]'(by rw[J.l];exact hi)=row;intro er
 have Pr:=J.c er;rw[if_neg (jk _)]at Pr
 have hrw:=J.p.wd _<|θ er;push_cast[l8];refine x2 _ _ {hob1,Q5 _ _ _,x6 gp cl w rs _ i {rfl,TP,J.p,λi' row' eb er' l hl=>?_,λz=>by rw[J.l]at z;lia}};obtain rfl:i=i':=cg eb;rw[er]at er';obtain rfl:=μ er';obtain⟨H2,zz0,s2,e2⟩:=C4  hl;rw[zz0];push_cast[↓vL_];refine{{_,SqL.of e2},W9  (λ_=>true) (CC _<|oA (ω (bh hrw) w6) rfl) (λj ys H'=>Same H2 H'/\Paired (CelV H') ys ((DN w cs' i).take j)) {Same.refl _,.nil} (λj ys H' hj ⟨s,P⟩=>{SqL.of<|s _ _ e2,?_}) (λj ys H' t o ⟨s,P⟩ h=>{HI s h,Paired.mapP P λv c=>CelV.keep (AL h).tk}) (λj x ys H' hx _ QB qb=>qb) (λj x ys H' hx _ hzz=>?_) (λj x ys H' hx hp=>by cases hp) (λys H3 hzz l2 C9=>?_)};rw[P.length,ce];lia
 have hj:j<w:=by rw[<-hrw];exact(ε.mp hx).1
 obtain⟨s,P⟩:=hzz
 have hd':=s _ _<|s2 _ _<|J.s _ _ hdl λz=>z.elim ndl.1 ndl.2;push_cast[CO]
 have A0:i*w+j<cs.length:=by
  rw[hcl']
  have:=vd w<|hi
  lia
 refine{.inr {_,.inl hd'},by decide,λp hp=>{BF kvs<|pk w<|i*w+j,?_,HI s hp,?_}}
 have sp:=AL (o:=.tup [V.int i,V.int j]) hp;exact DGet.t (sp _ _ hd') (by rw[AF,zvx hj])
 have sp:=AL (o:=.tup [V.int i,V.int j]) hp
 have ec':=η (l:=cs')  (by rw[FL];exact A0);revert ec';generalize cs'[i*w+j]'(by rw[FL];exact A0)=c';intro ec';obtain⟨c,ec,hv⟩:=KO Pr hx;rw[Fj hj]at ec;rw[JI  (by rw[Fj hj];exact ec')]
 have s1p:=(s2.trans s).trans sp;refine Paired.snoc (Paired.mapP P λv c=>CelV.keep sp.tk) ?_;rcases hc _ c c' ec ec' with⟨e1,e2'⟩|⟨v,e1,e2'⟩
 rw[e1,e2'];exact CelV.keep s1p.tk hv;rw[e1];exact CelV.keep s1p.tk<|CelV.keep tk1 e2'
 have hcl3:(DN w cs' i).length=w:=by
  unfold DN;rw[ce,jn,FL,hcl']
  have:=vd w<|hi
  lia
 obtain⟨s,P⟩:=hzz;rw[hrw,dz<|bh hcl3]at P;obtain⟨H4,zz0,s4,e4⟩:=C4  C9
 have s14:=(s2.trans s).trans s4
 have P4:=Paired.mapP P λv c=>CelV.keep s4.tk
 have hys:ys.length=w:=by rw[P4.length,hcl3]
 have J4:Fm a gp cl w m _ cs _ H i rs H4:={J.p.same s14,J.l,λe=>Paired.mapP (J.c e) λv c=>CelV.keep s14.tk,J.s.trans s14.sb}
 rw[zz0];push_cast[↓vN_];refine zvp e4 ((s.trans s4) _ _ e2) P4 (Paired.mapP Pr λv c=>CelV.keep s14.tk) (λc hc=>o2 c<|Fk hc) (λc hc=>o1 c<|Fk hc) (zvw hk) ?_;by_cases he:DN w cs' i=DN w cs i;refine E5 (by simp[he]) ({rs,{by rw[Fl,if_pos he.symm];exact J4.p,J4.l,λ{b row} e=>?_,J4.s}})
 have:=J4.c e;by_cases hb:b=i;rw[hb,if_neg<|jk _]at this;rw[hb,if_pos<|fj _,he];exact this;simp only[propext {λh=>lw (fg h) hb,λh=>cu h}];exact this;obtain⟨dp4,hob4⟩:=J4.p.ob;obtain⟨tc4,hcl4,_⟩:=J4.p.ls;refine FZ (by simp[he]) ?_;push_cast[↓vM_];refine x2 _ _ {hob4,Ck _ _ _,x8 gp cl w rs _ _ l2 ys {rfl,TP,J4.p,SqL.of e4,by lia,λi' eb hb' hyl H5 P5 E7=>?_,λz=>by rw[J.l]at z;lia}};obtain rfl:i=i':=cg eb
 have tk5:D3 H4 H5:=λy ys e=>E7 _ _ e λz=>by
  rcases z with z|z
  rw[z,hob4]at e;cases e;rw[z,hcl4]at e;cases e
 refine{rs.set i ys,{?_,by rw[jd];exact J.l,λ{b row} e=>?_,J4.s.trans E7}};rw[Fl,if_neg<|λz=>he z.symm];exact P5;by_cases hb:b=i;subst hb;rw[dv (by rw[J.l];exact hi)]at e;obtain rfl:=μ e;rw[if_pos (fj _)];exact Paired.mapP P4 λv c=>CelV.keep tk5;rw[fh (λz=>hb z.symm)]at e
 have:=J4.c e;simp only[show(b<i+1)=(b<i)from propext {λh=>by exact lw (fg h) hb,λh=>by exact cu h}];exact Paired.mapP this λv c=>CelV.keep tk5;obtain⟨⟨rs,J⟩,y2,y3,y4,eσ⟩:=hzz;refine q rs H1 J.p J.l (Fh (w:=w) (by rw[J.l,FL,hcl']) λ{b row} e=>?_) J.s
 have:=J.c e;rw[if_pos (by rw[<-J.l];exact(ε.mp e).1)]at this;exact this
def bA{vw:Vw}(ok:EE vw):∀ c∈DT vw,c.ok:=λc hc=>by
 unfold DT at hc;simp only[a_,av]at hc;rcases hc with(((⟨x,hx,rfl⟩|⟨x,hx,rfl⟩)|⟨x,hx,rfl⟩)|⟨x,hx,rfl⟩)|⟨x,hx,rfl⟩
 cases x with
 |none=>exact trivial
 |some d=>exact(ok.n1 d hx).2
 cases x<;>exact trivial;cases x with
 |none=>exact trivial
 |some d=>exact ok.n3 d hx
 cases x<;>exact trivial;cases x<;>exact trivial
def JL{α :Type}{f: α ->Cel}(h:∀ x,(f x).kind=k)(l:List α):(l.map f).map Cel.kind=bc l.length k:=by
 rw[oq]
 induction l with
 |nil=>rfl
 |cons x r ih=>rw[dg,ih];exact congrArg (· ::_) (h x)
def zvz{vw:Vw}(ok:EE vw):(DT<|mended vw).map Cel.kind=(DT vw).map Cel.kind:=by
 have ok2:=UY ok
 have l1:(mended vw).rc.length=vw.rc.length:=by
  show((ν _).map _).length=_;simp
 unfold DT;simp only[ai];rw[JL  (f:=Cel.nm) λz=>rfl,JL  (f:=Cel.rc) λz=>rfl,JL  (f:=Cel.pc) λz=>rfl,JL  (f:=Cel.mk) λz=>rfl,JL  (f:=Cel.mk) λz=>rfl,
  JL  (f:=Cel.nm) λz=>rfl,JL  (f:=Cel.rc) λz=>rfl,JL  (f:=Cel.pc) λz=>rfl,JL  (f:=Cel.mk) λz=>rfl,JL  (f:=Cel.mk) λz=>rfl,ok2.l1,ok2.l2,ok.l1,ok.l2,l1]
 rfl
theorem Fp{P:List AO->V->Prop}:∀ {more kvs:aH},(∀ k v,BF kvs k=some v->P k v)->(∀ kv∈more,P kv.1 kv.2)->∀ k v,BF (EK kvs more) k=some v->P k v
 | [],kvs,h,_=>h
 |p::r,kvs,h,hm=>Fp  (kvs:=CA _ _ _) (λk v e=>by
   rw[HU]at e;by_cases z:k=p.1;rw[if_pos z]at e;obtain rfl:=μ e;rw[z];exact hm p χ;rw[if_neg z]at e;exact h k v e) λkv hkv=>hm kv<|ρ _ hkv
theorem bB:∀ {more kvs:aH} {k:List AO},(BF kvs k).isSome=true->(BF (EK kvs more) k).isSome=true
 | [],_,_,h=>h
 |p::r,kvs,k,h=>bB  (kvs:=CA _ _ _) (by
   rw[HU];split
   rfl;exact h)
theorem Fq:∀ {more kvs:aH} {kv:List AO × V},kv∈more->(BF (EK kvs more) kv.1).isSome=true
 | [],_,_,h=>by cases h
 |p::r,kvs,kv,h=>by
  rcases aj.mp h with rfl|h
  exact bB  (kvs:=CA _ _ _) (by rw[HU,if_pos rfl];rfl);exact Fq (more:=r) h
def zv0(lv:Lv):(E4 vw n r c w lv).length<=2:=by
 cases lv<;>simp[E4]
structure DuI(vw:Vw)(n r c w:Nat)(dl:Addr)(H2:Hp)(i:Nat)(kvs:aH)(H':Hp):Prop where
 s:Same H2 H'
 e:H' dl=some (.dT kvs)
 A:∀ k v,BF kvs k=some v->∃ lv∈FH vw,∃ fx∈E4 vw n r c w lv,k=pk w fx.1/\CelV H' v fx.2
 B:∀ j lv,j<i->(FH vw)[j]? =some lv->∀ fx∈E4 vw n r c w lv,(BF kvs<|pk w fx.1).isSome=true
 l:kvs.length<=2*i
def zv2(ok:EE vw):(FH vw).length<=400:=by
 obtain⟨z,z,z,m4,m5,m6⟩:=UU ok
 have:=congrArg nj<|Eh vw;unfold MP at this;simp only[af,ζ]at this
 lia
def Site.ground(S:Site K a H ly gp cl n r c w rows m vw):Ground K a H ly gp vw:=x7 cl n r c w _ m ⟨S.tv,S.tl,S.tp,S.la,S.pl,S.rl,S.pv⟩
def Site.same{ly gp cl:Addr}{n r c w:Nat}{rows:sT}{m:Nat}{vw:Vw}{H':Hp}(S:Site K a H ly gp cl n r c w rows m vw)(s:Same H H'):Site K a H' ly gp cl n r c w rows m vw:={S.tv,S.tl,S.tp,S.la.same s,S.pl.same s,S.rl,S.pv.same s.tk,S.w1,S.w6,S.n6,S.r6,S.c6}
example:(zv3,pQ,aA,5):=by
 apply RL;rintro ly gp cl n r c w rows m vw ⟨rfl,S,hf,q⟩
 have z1:=S.pv.ln
 have z2:=S.pv.lr
 have z3:=S.pv.lp
 have ok:=S.pv.ok
 have n6:=S.n6
 have r6:=S.r6
 have c6:=S.c6
 have rl:=S.rl;refine x3 ly gp vw {rfl,S.ground,λH1 s1=>?_};rw[decide_eq_true hf];refine x3 ly gp vw {rfl,S.ground.same s1,λfo H2 hfo s2 F2=>?_};rw[hf,qy]at F2
 have F0:=F2;rw[Eh]at F2
 have KP:=s1.trans s2;obtain⟨ps,efo,PF⟩:=F2;intro dl hdl;obtain⟨H3,zz0,s3,e3⟩:=C4  hdl
 have ln:=zv2 ok
 have pl:ps.length=(FH vw).length:=by rw[PF.length,ζ]
 rw[zz0];refine .inl {{_,SqL.of<|s3 _ _ efo},EV  (λi σ H'=>(∃ kvs,DuI vw n r c w dl H2 i kvs H')/\∃ y,σ=[some _,some _,some _,some _,y]) {{[],{s3,e3,λk v h=>(by cases h),λj lv h=>absurd h<|jx _,υ _}},_,rfl} (by rintro i σ H' _ ⟨⟨_,J⟩,_⟩;exact SqL.of<|J.s _ _ efo) (λi x σ H4 hx hzz=>?_) (λσ H4 hzz=>?_)};obtain⟨⟨kvs,J⟩,y,eσ⟩:=hzz;subst eσ;rw[τ,aa]at hx;obtain⟨fd,efd,rfl⟩:=hx;obtain⟨g,eg,EU⟩:=KO PF efd;rw[τ,aa]at eg;obtain⟨lv,elv,rfl⟩:=eg
 have hlv:=θ elv
 have hi:=(ε.mp elv).1;push_cast[↓xT_];refine{.inr<|.inr<|.inl {rfl,.inr ⟨_,J.e⟩},ON ly gp cl fd n r c w _ m vw lv {rfl,(S.same KP).same J.s,hlv,J.s _ _ EU,λdm more H5 hdm s5 e5 PM ap=>?_}}
 have ml:more.length<=2:=by rw[PM.length];exact zv0 lv
 have tk6:D3 H5 (upd H5 dl<|.dT<|EK kvs more):=λy ys ey=>by rw[AI (BH ey (s5 _ _ J.e) (λz=>nomatch z))];exact ey
 have jl:=J.l;refine x4 dl dm _ _ {rfl,rfl,BI J.e hdm,s5 _ _ J.e,e5,λ_=>ap,CC _ (by lia),_,{λy o ey=>?_,AF,?_,λj lv' hj ej fx hfx=>?_,?_}};rw[AI (BI ey hdl)];exact s5 _ _<|J.s _ _ ey;refine Fp (λk v e=>?_) λkv hkv=>?_;obtain⟨lv',h1,fx,h2,h3,h4⟩:=J.A k v e;exact{_,h1,fx,h2,h3,CelV.keep tk6<|CelV.keep s5.tk h4};obtain⟨k,ek⟩:=QD hkv;obtain⟨fx,efx,h1,h2⟩:=KO PM ek;exact{lv,hlv,fx,θ efx,h1,CelV.keep tk6 h2};by_cases hji:j<i;exact bB<|J.B j _ hji ej fx hfx;obtain rfl:j=i:=j_ (fg hj) (cj hji);rw[elv]at ej;obtain rfl:=μ ej;obtain⟨k,ek⟩:=QD hfx;obtain⟨kv,ekv,h1,_⟩:=JZ PM ek;rw[<-h1];exact Fq<|θ ekv
 have:=XB more kvs
 lia
 obtain⟨⟨kvs,J⟩,y,eσ⟩:=hzz
 have S4:=(S.same KP).same J.s;subst eσ;obtain⟨dp,hgp⟩:=S4.pl.ob;obtain⟨dp1,hgp1⟩:=(S.same s1).pl.ob;obtain⟨tc1,hcl1,_⟩:=(S.same s1).pl.ls;obtain⟨tc,BC,_⟩:=S4.pl.ls
 have nfo:fo≠gp/\fo≠cl:={(BI hgp1 hfo).symm,(BI hcl1 hfo).symm}
 have ok2:=UY ok
 have g2:(mended vw).rc.length=r*w:=by
  show((ν _).map _).length=_;simp[z2]
 push_cast[↓xU_];refine x9 gp cl dl w _ m _ _ _ {rfl,S.tp,S4.pl,by lia,S.w1,S.w6,J.e,S4.pv.asC,zvz ok,bA ok,bA ok2,λf x x' ex OL=>?_,λrows' H5 P5 hl5 PC5 E7=>?_}
 have A0:f<n*w+r*w+c*w+r*w+c*w:=by
  have:=(ε.mp ex).1;rw[El vw ok]at this
  lia
 cases ev:BF _ (pk w f)with
 |none =>
  refine .inl {rfl,?_}
  have:=zvm ok z1 z2 z3 hf A0 λlv hlv fx hfx e=>?_;rw[ex,OL]at this;exact μ this;obtain⟨j,ej⟩:=QD hlv
  have:=J.B j lv (by rw[ζ,pl];exact(ε.mp ej).1) ej fx hfx;rw[e,ev]at this;cases this
 |some v =>
  obtain⟨lv,hlv,fx,hfx,e1,e2⟩:=J.A _ v ev
  have h3:=zvl ok z1 z2 z3 hlv hfx;rw[<-(Ey e1),OL]at h3;obtain rfl:=μ h3;exact .inr ⟨v,rfl,e2⟩
 have tk5:D3 H4 H5:=λy ys e=>E7 _ _ e λz=>by
  rcases z with z|z
  rw[z,hgp]at e;cases e;rw[z,BC]at e;cases e
 exact q fo _ H5 (s1.free hfo) ((F0.same J.s).on (λo e=>E7 _ _ e λz=>z.elim nfo.1 nfo.2) tk5) P5 (by rw[hl5,rl]) (PlV.of PC5 z1 g2 z3 ok2) ((KP.trans J.s).sb.trans E7)
theorem Fv:∀ {es:Oz},(∀ j,as.length<=j->C j=false)->sh M C (es++as)=sh M C as
 | [],_=>rfl
 |e::es,h=>by
  rw[um,ED (by rw[h _ (by simp)];exact ax)];exact Fv h
def bC{tks:tS}{z:Str}{k:Nat}:LN (CA tks (.inr z) (.int (k:Nat)))=EL (LN tks) z k:=by
 funext y;unfold LN FG EL;rw[HU];by_cases e:y=z;subst e;rw[if_pos rfl,if_pos rfl];rfl;rw[if_neg (λh=>e<|Nt h),if_neg e]
def bD{tks:tS}{z:Str}{j:Nat}(h:LN tks z=some j):j∈FG tks z:=List.mem_of_mem_head? h
def LaidA.off{n r c w:Nat}{cs:z8}{as:Oz}{B:Md}(h:LaidA n r c w H cs as)(b:∀ kind k,¬ k<BJ n r c w kind->B kind k=.no){C:sX}{kind k:Nat}(hk:¬ k<BJ n r c w kind):sh B C as kind k=.no:=by
 induction h with
 |nil=>exact b _ _ hk
 |@snoc cs as ch x l e1 e2 e3 e4 e5 e6 ih =>
  by_cases c:C as.length=true;rw[CZ c];unfold Md.put;rw[if_neg (λe=>hk (by rw[e.1,e.2];exact e6))];exact ih;rw[ED c];exact ih
def zv4(b:∀ kind k,DX kind<|B kind k)(h:∀ x∈as,DX x.kind x.x)(kind k:Nat):DX kind (sh B C as kind k):=by
 induction as with
 |nil=>exact b _ _
 |cons x r ih =>
  have ih:=ih λy hy=>h y<|ρ _ hy;by_cases c:C r.length=true;rw[CZ c];unfold Md.put;split;rename_i z;rw[z.1];exact h x χ;exact ih;rw[ED c];exact ih
section
variable{X:SX}{cs:z8}{tks:tS}{M:Hs}
theorem SM.out(I:X.at a H cs tks M){j:Nat}(hj:cs.length<=j):X.outs j=false:=by
 obtain⟨DQ,e,hv,ks⟩:=I.bk.bk.out;cases eo:X.outs j with
 |false=>rfl
 |true =>
  rw[<-hv,<-L7]at eo;obtain⟨p,hp,ep⟩:=dq.mp eo
  have:=ks.2 p hp
  lia
def C6.more{H':Hp}{ex:z8}{tks':tS}{M':Hs}(I:C6 a H X cs tks M)(I':X.at a H' (cs++ex) tks' M')(sb:SameBut (λx=>X.S.A.F x\/x=X.S.tk) H H')(hH:∃ o,Hist X.m0 M'.b M'.as (LN tks') o)(hb:M'.b=M.b)(hs:∃ es,M'.as=es++M.as/\∀ x∈es,DX x.kind x.x):C6 a H' X (cs++ex) tks' M':=by
 obtain⟨es,he,ho⟩:=hs
 have out:∀ j:Nat,cs.length<=j->X.outs j=false:=λj hj=>I.st.out hj;refine{I',hH,hb ▸ I.bo,λk c ec o=>?_,?_,I.few,λx hx=>?_,I.w1};by_cases hk:k<cs.length;rw[ba hk]at ec;exact I.cut k c ec o;rw[out k (cj hk)]at o;cases o;rw[hb,he,Fv λj hj=>out j (by rw[I.st.la.len];exact hj)];exact I.rows.keep (KK sb λx hx=>hx.elim (λh=>I.st.bk.loose h) λh=>by rw[h];exact S7 I.st.tk);rw[he]at hx;rcases a_.mp hx with h|h
 exact ho x h;exact I.ok x h
def U0{m:Nat}{z:Str}(h:cellOf M m z=none):∀ j r,j<m->M 0 j≠.nm z r:=λj r hj e=>by
 have:=jv.mp h j<|ak.mpr hj;unfold D9 at this;rw[e]at this;simp at this
def bE{cell:Nat}(h:G0 0 (M 0 cell)=true):M 0 cell=.no:=by
 cases e:M 0 _ with
 |no=>rfl
 |_=>rw[e]at h;simp[G0]at h
def Fw{kind k:Nat}(h:G0 kind (M kind k)=true):M kind k≠.mk 1:=λe=>by
 rw[e]at h;simp[G0]at h
def C6.snd(I:C6 a H X cs tks M):Snd X.m0 (sh M.b X.C M.as):=by
 obtain⟨o,hi⟩:=I.hi;exact hi.sd _<|I.st.la.cut I.cut
def C6.now(I:C6 a H X cs tks M):Snd X.m0 M.f:=by
 obtain⟨o,hi⟩:=I.hi;exact hi.now
def C6.inl(I:C6 a H X cs tks M)(C:sX):InL X.n X.r X.c X.w (sh M.b C M.as):={λz z h=>I.st.la.off I.bo.no h,zv4 I.bo.ok I.ok}
end
def Snd.few{n r c w:Nat}{S:Md}(s:Snd (n*w) S)(b:InL n r c w S){q m:Nat}{ps:t3}(h:S 3 q=.rc m ps):(∀ p∈ps,p<c*w)/\ps.length<=c*w:=by
 have lt:∀ p∈ps,p<c*w:=λp hp=>by
  have e:=(s.pm q m ps h p hp).1;rcases eq p _ with z|z
  exact z;rw[b.no 2 p (λhk=>nL hk z)]at e;cases e
 have:=ut (s.nd q m ps h)  λp hp=>ak.mpr<|lt p hp;rw[cw]at this;exact⟨lt,this⟩
def Snd.rl{n r c w:Nat}{S:Md}(s:Snd (n*w) S)(b:InL n r c w S){k q:Nat}{z:Str}(hk:k<n*w)(e:S 0 k=.nm z q):∃ m ps,q<r*w/\S 3 q=.rc m ps:=by
 refine u2 ?_<|s.nl k z q hk e;rintro m ps e3;refine x2 m ps {?_,e3};rcases eq q _ with h|h
 exact h;rw[b.no 3 q (λhk=>nL hk h)]at e3;cases e3
section
variable{X:SX}{cs:z8}{tks:tS}{M:Hs}
def C6.ps(I:C6 a H X cs tks M){r m:Nat}{ps:t3}(h:M 3 r=.rc m ps):(∀ p∈ps,p<X.c*X.w)/\ps.length<=18:=by
 have:=I.now.few (I.inl _) h;exact{this.1,ω this.2 I.few}
def C6.rl(I:C6 a H X cs tks M){k rec:Nat}{z:Str}(hk:k<X.m0)(e:M 0 k=.nm z rec):∃ m ps,rec<X.r*X.w/\M 3 rec=.rc m ps:=I.now.rl (I.inl _) hk e
def SM.sbG{G:zV}{H':Hp}(I:X.at a H cs tks M)(s:SameBut G H H')(g:∀ x,G x->FF (H x))(f:∀ x,G x->¬ X.S.A.F x/\x≠X.S.tk):X.at a H' cs tks M:=by
 obtain⟨⟨dx,e1⟩,e2,e3,e4,e5,e6,e7,e8,e9,e10,e11,e12⟩:=I;obtain⟨dl,el⟩:=e2.ob
 have tk:=KK s g;exact{{dx,s _ _ e1 λz=>(g _ z).2 _ _ _ e1},e2.sb s λz=>(g _ z).2 _ _ _ el,e3.sb s g λx hx=>(f x hx).1,s _ _ e4 λz=>(f _ z).2 rfl,e5,e6,e7,e8,e9.keep tk,λkind k v h1 h2 hv=>(e10 _ k v h1 h2 hv).keep tk,e11,e12.keep tk}
def C6.sbG{G:zV}{H':Hp}(I:C6 a H X cs tks M)(s:SameBut G H H')(g:∀ x,G x->FF (H x))(f:∀ x,G x->¬ X.S.A.F x/\x≠X.S.tk):C6 a H' X cs tks M:={I.st.sbG s g f,I.hi,I.bo,I.cut,I.rows.keep<|KK s g,I.few,I.ok,I.w1}
def C6.same{H':Hp}(I:C6 a H X cs tks M)(s:Same H H'):C6 a H' X cs tks M:={I.st.same s,I.hi,I.bo,I.cut,I.rows.keep s.tk,I.few,I.ok,I.w1}
def C6.write(I:C6 a H X cs tks M)(er:X.rows[b]? =some row)(I':(X.wr cs b row).at a H' cs tks M)(sb:SameBut (λx=>X.S.A.F x\/x=X.S.A.gp) H H'):C6 a H' (X.wr cs b row) cs tks M:=by
 obtain⟨dp,ep⟩:=I.st.bk.pk.ob;exact{I',I.hi,I.bo,zg7 I.cut b,(I.rows.write I.st.la er).keep (λy ys e=>sb _ _ e λz=>z.elim (λz=>(I.st.bk.loose z).1 _ e) λz=>by rw[z,ep]at e;cases e),I.few,I.ok,I.w1}
end
def Fx:Nat->CV->Cel
 |0,x=>.nm<|LP x
 |1,x=>.mk<|GL x
 |2,x=>.mk<|GL x
 |3,x=>.rc<|LQ x
 |_,x=>.pc<|NX x
def G4(n r c kind:Nat):Nat:=if kind=0 then 0 else if kind=1 then n+r+c else if kind=2 then n+r+c+r else if kind=3 then n else n+r
def Fy(hk:kind<5)(ok:DX kind x):RepC H x v↔CelV H v (Fx kind x):=by
 rcases kind with _|_|_|_|_|k
 all_goals cases x<;>first|exact ok.elim|exact Ju
section
variable{n r c w:Nat}{S:Md}
def Fz(k:Nat):AY (BU n r c w S).nm k=if k<n*w then LP (S 0 k)else none:=LT
def Gb(k:Nat):AY (BU n r c w S).rc k=if k<r*w then LQ (S 3 k)else none:=LT
def Gc(k:Nat):AY (BU n r c w S).pc k=if k<c*w then NX (S 4 k)else none:=LT
def Gd(k:Nat):AY (BU n r c w S).rm k=if k<r*w then GL (S 1 k)else none:=LT
def Gg(k:Nat):AY (BU n r c w S).pm k=if k<c*w then GL (S 2 k)else none:=LT
def JM:(BU n r c w S).nm.length=n*w:=by simp[BU]
def JN:(BU n r c w S).rc.length=r*w:=by simp[BU]
def LU:(BU n r c w S).pc.length=c*w:=by simp[BU]
def InL.rc(b:InL n r c w S)(k:Nat):AY (BU n r c w S).rc k=LQ (S 3 k):=by
 rw[Gb];split
 rfl;rename_i h;rw[b.no 3 k (h)];rfl
def InL.nm(b:InL n r c w S)(k:Nat):AY (BU n r c w S).nm k=LP (S 0 k):=by
 rw[Fz];split
 rfl;rename_i h;rw[b.no 0 k (h)];rfl
def InL.pc(b:InL n r c w S)(k:Nat):AY (BU n r c w S).pc k=NX (S 4 k):=by
 rw[Gc];split
 rfl;rename_i h;rw[b.no 4 k (h)];rfl
def InL.rm(b:InL n r c w S)(k:Nat):AY (BU n r c w S).rm k=GL (S 1 k):=by
 rw[Gd];split
 rfl;rename_i h;rw[b.no 1 k (h)];rfl
def InL.pm(b:InL n r c w S)(k:Nat):AY (BU n r c w S).pm k=GL (S 2 k):=by
 rw[Gg];split
 rfl;rename_i h;rw[b.no 2 k (h)];rfl
def zv5(h:LP x=some (z,q)):x=.nm z q:=by
 cases x<;>simp[LP]at h;rw[h.1,h.2]
def zv6(h:LQ x=some d):∃ m:Nat,x=.rc m d.2/\d.1=m:=by
 cases x with
 |rc m ps=>cases h;exact⟨m,rfl,rfl⟩
 |_=>cases h
def zv7(h:NX x=some z):x=.tx z:=by
 cases x with
 |tx y=>cases h;rfl
 |_=>cases h
def RG(q:Nat):led (BU n r c w S) q=ld (n * w) S q:=by
 unfold led ld MO BU;generalize ν _=l
 induction l with
 |nil=>rfl
 |cons k l ih =>
  rw[dg,ye];cases e:S 0 k with
  |nm z q' =>
   show List.count q (q'::_)=_;rw[List.count_cons,ih]
   rfl
  |_=>exact ih
def Gh(h:0<ld (n*w) S q):∃ k z,k<n*w/\S 0 k=.nm z q:=by
 obtain⟨k,hk,e⟩:=vo.mp h;cases e0:S 0 k with
 |nm z q' =>
  rw[e0]at e
  have:q'=q:=by simpa [GJ]using e
  exact x2 k z {ak.mp hk,by rw[<-this];exact e0}
 |_=>rw[e0]at e;cases e
def zv8(hk:k<n*w)(e:S 0 k=.nm z q):0<ld (n*w) S q:=vo.mpr {k,ak.mpr hk,by rw[e];simp[GJ]}
def zv9(b:InL n r c w S)(h:0<E3 (BU n r c w S) p):∃ q m ps,S 3 q=.rc m ps/\p∈ps:=by
 obtain⟨d,hd,hp⟩:=uu.mp<|Cu.mp h;obtain⟨k,hk,rfl⟩:=av.mp hd;cases e:S 3 k with
 |rc m ps=>rw[e]at hp;exact x3 k m ps ⟨e,hp⟩
 |_=>rw[e]at hp;cases hp
def zwa(s:Snd (n * w) S)(p:Nat):E3 (BU n r c w S) p<=1:=by
 refine Ai.mp (List.pairwise_flatMap.mpr {λd hd=>?_,List.pairwise_map.mpr<|ig.imp λ{i j} hij x hx y hy z=>?_}) p;obtain⟨k,hk,rfl⟩:=av.mp hd;cases e:S 3 k with
 |rc m ps=>exact s.nd k m ps e
 |_=>exact .nil
 cases e:S 3 i with
 |rc m ps =>
  cases e':S 3 j with
  |rc m' ps' =>
   rw[e]at hx;rw[e']at hy;exact s.dj i j m m' ps _ (bd hij) e e' x hx (z ▸ hy)
  |_=>rw[e']at hy;cases hy
 |_=>rw[e]at hx;cases hx
def MY(h:∀ k,k<n->p k=false):DE n p f=[]:=by
 unfold DE;rw[yw.mpr λk hk=>by rw[h k (ak.mp hk)];exact ax]
 rfl
def Snd.fault(s:Snd (n * w) S)(b:InL n r c w S):faults (BU n r c w S)=[]:=by
 have pm:∀ {p},0<E3 _ p->S 2 p=.mk 1/\∃ t,S 4 p=.tx t:=λ{p} h=>by
  refine u3 ?_<|zv9 b h;rintro q m ps ⟨e,hp⟩;exact s.pm q m ps e p hp
 have z1:∀ k,k<(BU n r c w S).nm.length->HG _ k=false:=λk hk=>by
  unfold HG;rw[b.nm];cases e:S 0 k with
  |nm z q =>
   refine u2 ?_ (s.nl k z q (by rw[JM]at hk;exact hk) e);rintro m ps e3
   show(AY _ q).isNone=false;rw[b.rc,e3];rfl
  |_=>rfl
 have z2:∀ k,k<(BU n r c w S).nm.length->IE _ k=false:=λk hk=>by
  unfold IE;rw[b.nm];cases e:S 0 k with
  |nm z q =>
   show List.any _ _=false;rw[w_];intro j hj
   have hj:=ak.mp hj;rw[b.nm];cases e':S 0 j with
   |nm z' q' =>
    have hk:k<n*w:=by rw[JM]at hk;exact hk
    show ¬ decide _=true;rw[decide_eq_true_eq];rintro rfl
    have:=s.un j k z' q' q (yo hj hk) hk e' e
    lia
   |_=>exact ax
  |_=>rfl
 have z3:∀ p,p<(BU n r c w S).pc.length->decide (1<E3 (BU n r c w S) p)=false:=λp hp=>by
  have:=zwa (r:=r) (c:=c) s p
  lia
 have z4:∀ p,p<(BU n r c w S).pc.length->(decide _&&(AY _ p).isNone)=false:=λp hp=>by
  by_cases h:0<E3 (BU n r c w S) p;obtain⟨y,t,e⟩:=pm h;rw[b.pc,e,decide_eq_true h];rfl;rw[decide_eq_false h];rfl
 have z5:∀ q,q<(BU n r c w S).rc.length->JE _ q=false:=λq hq=>by
  unfold JE;rw[b.rc];cases e:S 3 q with
  |rc m ps =>
   have:=s.ct q m ps e
   show decide _=false;rw[RG];lia
  |_=>rfl
 have z6:∀ q,q<(BU n r c w S).rc.length->(decide (0<led (BU n r c w S) q) && !decide (AY (BU n r c w S).rm q=some 1))=false:=λq hq=>by
  rw[RG,b.rm];by_cases h:0<ld (n*w) S q;refine u2 ?_<|Gh h;rintro k z ⟨hk,e⟩;refine u2 ?_<|s.nl k z q hk e;rintro m ps e3;rw[s.mr q m ps e3,decide_eq_true h];rfl;rw[decide_eq_false h];rfl
 have z7:∀ p,p<(BU n r c w S).pc.length->(decide _ && !decide (AY (BU n r c w S).pm p=some 1))=false:=λp hp=>by
  by_cases h:0<E3 (BU n r c w S) p;rw[b.pm,(pm h).1,decide_eq_true h];rfl;rw[decide_eq_false h];rfl
 unfold faults QQ QR QS;rw[MY z1,MY z2,MY z3,MY z4,MY z5,MY z6,MY z7]
 rfl
end
section
variable{n r c w:Nat}{S:Md}
def zwb(e:S 3 k=.rc m ps)(h:0<ld (n*w) S k):EO n r c w S 3 k=.rc (ld (n*w) S k) ps:=by
 unfold EO;simp only[kz,if_false,if_true,e];rw[if_neg (iz h)]
def OF(h:EO n r c w S 3 k=.rc m ps):∃ m',S 3 k=.rc m' ps/\0<ld (n*w) S k/\m=ld (n*w) S k:=by
 unfold EO at h;simp only[kz,if_false,if_true]at h;cases e:S 3 k with
 |rc m' ps' =>
  rw[e]at h;simp only at h;split at h;cases h;cases h;exact{m',rfl,by lia,rfl}
 |_=>rw[e]at h;cases h
def Snd.mended(s:Snd (n*w) S)(b:InL n r c w S):Snd (n*w) (EO n r c w S):=by
 refine{λk z q hk e=>?_,λq m ps e=>?_,λq m ps e=>?_,λq m ps e=>?_,λq m ps e p hp=>?_,λq q' m m' ps ps' hn e e'=>?_,s.un};refine u2 ?_<|s.nl k z q hk e;rintro m ps e3;exact x2 _ _<|zwb e3<|zv8 hk e;obtain⟨m',x,x,rfl⟩:=OF e;exact bh<|(λq=>rfl) q;obtain⟨m',e3,h,x⟩:=OF e;unfold EO;simp only[e3];rw[if_neg (iz h)];exact s.mr q m' ps e3;obtain⟨m',e3,x,x⟩:=OF e;exact s.nd q m' ps e3;obtain⟨m',e3,h,x⟩:=OF e;obtain⟨h2,h4⟩:=s.pm q m' ps e3 p hp;refine{?_,h4};unfold EO;simp only[h2]
 have:0<ID (BU n r c w S) p:=by
  refine Cu.mpr (uu.mpr {_,av.mpr {q,dh.mpr {ak.mpr ?_,?_},b.rc q},by rw[e3];exact hp});rw[JN];refine u2 ?_<|Gh h;rintro k y ⟨hk,e0⟩;refine u2 ?_<|s.rl b hk e0;rintro x x ⟨h',x⟩;exact h';rw[RG];exact decide_eq_true h
 lia
 obtain⟨x,e3,x,x⟩:=OF e;obtain⟨x,e3',x,x⟩:=OF e';exact s.dj q q' _ _ ps _ hn e3 e3'
def InL.mended(b:InL n r c w S):InL n r c w (EO n r c w S):=by
 constructor;intro kind k h
 have e:=b.no _ k h;unfold EO;split;rename_i z;subst z;rw[e,b.no 3 k<|h];split;rename_i z;subst z;rw[e];split;rename_i z;subst z;rw[e];exact e;intro kind k
 have e:=b.ok kind k;unfold EO;split;rename_i z;subst z;cases e3:S 3 k with
 |rc m ps =>
  show DX 1 (if _ then _ else _);split;exact bv 1;exact e
 |_ =>
  cases e1:S 1 k with
  |mk i =>
   show DX 1 (if _ then _ else _);rw[e1]at e;split;exact bv 1;exact e
  |_=>rw[e1]at e;exact e
 split;rename_i z;subst z;cases e1:S 2 k with
 |mk i =>
  show DX 2 (if _ then _ else _);rw[e1]at e;split;exact bv 1;exact e
 |_=>rw[e1]at e;exact e
 split;rename_i z;subst z;cases e1:S 3 k with
 |rc m ps =>
  show DX 3 (if _ then _ else _);split
  trivial
  trivial
 |_=>rw[e1]at e;exact e
 exact e
def bF{α :Type}{f g:Nat-> α}{m:Nat}(h:∀ k,k<m->f k=g k):(ν m).map f=(ν m).map g:=List.map_congr_left λk hk=>h k<|ak.mp hk
def zwc(b:InL n r c w S):mended (BU n r c w S)=BU n r c w (EO n r c w S):=by
 unfold mended;rw[JN,LU]
 have e1:(ν _).map (FU _)=(ν<|r*w).map λk=>LQ (EO n r c w S 3 k):=bF λk y=>by
  unfold FU EO;rw[b.rc,RG];cases e:S 3 k with
  |rc m ps =>
   show(if ld _ S k=0 then none else some _)=LQ _;split<;>rfl
  |_=>rfl
 have e2:(ν _).map (KH _)=(ν<|r * w).map λk=>GL (EO n r c w S 1 k):=bF λk y=>by
  unfold KH EO;rw[b.rc,b.rm,RG];cases e:S 3 k with
  |rc m ps =>
   show(if ld _ S k=0 then some 0 else GL _)=GL _;split<;>rfl
  |_ =>
   cases e1:S 1 k with
   |mk i =>
    show(if(some (i:Int))=some 1 then some 0 else some _)=GL (if i=1 then .mk 0 else .mk i);by_cases h:i=1;subst h;rfl;rw[if_neg h,if_neg (λz=>h (by exact cg<|μ z))];rfl
   |_=>rfl
 have e3:(ν _).map (MQ _)=(ν<|c*w).map λk=>GL (EO n r c w S 2 k):=bF λk y=>by
  unfold MQ EO;rw[b.pm];cases e1:S 2 k with
  |mk i =>
   show(if some (i:Int)=some 1/\ID _ k=0 then some 0 else some _)=GL (if i=1/\ID _ k=0 then .mk 0 else .mk i);by_cases h:i=1/\ID (BU n r c w S) k=0;rw[if_pos h,if_pos {by rw[h.1];rfl,h.2}];rfl;rw[if_neg h,if_neg<|λz=>h {cg<|μ z.1,z.2}];rfl
  |_=>rfl
 rw[e1,e2,e3]
 rfl
def Gj(ok:EE (BU n r c w S))(h1:kind<5)(hk:k<BJ n r c w kind):(DT<|BU n r c w S)[G4 n r c kind*w+k]? =some (Fx kind<|S kind k):=by
 unfold BJ at hk;unfold G4;rcases kind with _|_|_|_|_|kind
 ·simp only[if_true,vz,me]at hk ⊢;rw[aY JM hk,Fz,if_pos hk];rfl
 ·simp only[kz,if_false,if_true,me,di]at hk ⊢;rw[RE ok JM JN LU hk,Gd,if_pos hk];rfl
 ·simp only[kz,if_false,if_true,me,xy,di]at hk ⊢;rw[UZ ok JM JN LU hk,Gg,if_pos hk];rfl
 ·simp only[kz,if_false,if_true,me,xy]at hk ⊢;rw[OD JM JN hk,Gb,if_pos hk];rfl
 ·simp only[kz,if_false,if_true,me,xy,di]at hk ⊢;rw[aZ JM JN LU hk,Gc,if_pos hk];rfl
 ·lia
def zwd(hw:1<=w):BG n r c w kind k=(G4 n r c kind*w+k)/w/\k%w=(G4 n r c kind*w+k)%w:=by
 constructor;rw[da,mo<|hw];rfl;rw[da,mn]
def zwe(hf:f<(n+r+c+r+c)*w):∃ kind k,kind<5/\k<BJ n r c w kind/\f=G4 n r c kind*w+k:=by
 simp only[di]at hf;refine Em (N:=n*w) (R:=r*w) (P:=c*w) (A:=λf=>∃ kind k,kind<5/\k<BJ n r c w kind/\f=G4 n r c kind*w+k) (λh=>x2 0 f {by decide,h,by simp[G4]}) (λk h=>x2 3 k {by decide,h,rfl}) (λk h=>x2 4 k {by decide,h,by simp[G4,di]}) (λk h=>x2 1 k {by decide,h,by simp[G4,di]}) (λk h=>x2 2 k {by decide,h,by simp[G4,di]}) hf
theorem Gk{α β :Type}{F: α -> β ->Prop}:∀ {l:List α} {m:List β},l.length=m.length->(∀ (i:Nat) x y,l[i]? =some x->m[i]? =some y->F x y)->Paired F l m
 | [],[],_,_=>.nil
 |x::l,y::m,h,f=>.cons (f 0 x y rfl rfl) (Gk (by simpa using h) λi a b e1 e2=>f (i+1) a b e1 e2)
 | [],_::_,h,_=>by simp at h
 |_::_,[],h,_=>by simp at h
def U1(P:PlankAt a H gp cl w rows m)(hw:1<=w)(rl:rows.length=n+r+c+r+c)(h1:kind<5)(hk:k<BJ n r c w kind):∃ v,(rows[BG n r c w kind k]?).bind (λq=>q[k%w]?)=some v/\rows.flatten[G4 n r c kind*w+k]? =some v/\∃ q∈rows,v∈q:=by
 obtain⟨e1,e2⟩:=zwd      hw
 have A0:G4 n r c kind*w+k<(n+r+c+r+c)*w:=by
  refine ψ (Nat.add_lt_add_left hk _) ?_;unfold BJ;rw[<-di];refine vd _ ?_;unfold G4;rcases kind with _|_|_|_|_|kind<;>simp<;>lia
 have hb:BG n r c w kind k<rows.length:=by rw[rl,e1];exact(ui<|hw).mpr A0
 have hj:k%w<w:=sr _<|hw
 have er:=η hb
 have wl:=P.wd _<|θ er
 have ej:=η (show k%w<(rows[BG n r c w kind k]).length by rw[wl];exact hj)
 have e:(rows[BG n r c w kind k]?).bind (λq=>q[k%w]?)=some ((rows[BG n r c w kind k])[k%w]):=by rw[er];exact ej
 refine{_,e,?_,_,θ er,θ ej};rw[<-e,<-UW P.wd hb hj,e1,e2,Ij]
def Gm(P:PlankAt a H gp cl w rows m)(hw:1<=w)(sz:n<=6/\r<=6/\c<=6/\w<=6/\rows.length=n+r+c+r+c)(few:c*w<=18)(gd:QH H rows)(R:RowsAre H n r c w rows S)(b:InL n r c w S)(s:Snd (n*w) S):EE (BU n r c w S):=by
 obtain⟨z1,z2,z3,z4,rl⟩:=sz
 have m6:∀ {x:Nat},x<=6->x*w<=36:=λ{x} h=>gy h z4;refine{λd hd=>?_,λd hd=>?_,λz hz=>?_,by simp[BU],by simp[BU],by rw[JM];exact oA (m6 z1) rfl,by rw[JN];exact oA (m6 z2) rfl,by rw[LU];exact oA few rfl};obtain⟨k,hk,e⟩:=av.mp hd
 have hk:=ak.mp hk
 have e:=zv5   e;rw[JN];refine u2 ?_<|s.rl b hk e;rintro y y ⟨hq,y⟩;refine{hq,?_};obtain⟨v,ev,y,q,hq1,hq2⟩:=U1    P hw rl (kind:=0)  (by decide) (hk)
 have rp:=R 0 k v (by decide) (hk) ev;rw[e]at rp;obtain⟨t,rfl,et⟩:=rp;obtain⟨xs,ex,y,hx⟩:=gd q hq1 _ hq2;rw[et]at ex;cases ex;exact hx _ χ;obtain⟨k,hk,e⟩:=av.mp hd;obtain⟨m,e3,y⟩:=zv6 e
 have:=s.few b e3;exact{λp hp=>by rw[LU];exact this.1 p hp,oA (ω this.2 few) rfl};obtain⟨k,hk,e⟩:=av.mp hz;obtain⟨v,ev,y,q,hq1,hq2⟩:=U1    P hw rl (kind:=4)  (by decide) (by simpa [BJ]using hk)
 have rp:=R 4 k v (by decide) (by simpa [BJ]using hk) ev;rw[(zv7 e)]at rp;rw[rp]at hq2;exact gd q hq1 _ hq2
def RowsAre.plv{rows:sT}(R:RowsAre H n r c w rows S)(P:PlankAt a H gp cl w rows m)(hw:1<=w)(rl:rows.length=n+r+c+r+c)(b:InL n r c w S)(ok:EE (BU n r c w S)):PlV H rows n r c w (BU n r c w S):=by
 refine PlV.of (Gk ?_ λf v x e1 e2=>?_) JM JN LU ok;rw[OE P.wd,El _ ok,JM,JN,LU,rl];simp only[di]
 have hf:=(ε.mp e1).1;rw[OE P.wd,rl]at hf;refine u2 ?_<|zwe hf;rintro kind k ⟨h1,hk,rfl⟩;rw[Gj ok h1 hk]at e2;obtain⟨v',ev,ef,z⟩:=U1 P hw rl h1 hk;obtain rfl:=μ e2;rw[e1]at ef;obtain rfl:=μ ef;exact(Fy h1<|b.ok _ _).mp (R _ k v h1 hk ev)
def PlV.rows{gp cl:Addr}{m:Nat}{rows:sT}(L:PlV H rows n r c w (BU n r c w S))(P:PlankAt a H gp cl w rows m)(hw:1<=w)(rl:rows.length=n+r+c+r+c)(b:InL n r c w S):RowsAre H n r c w rows S:=λkind k v h1 hk ev=>by
 obtain⟨v',ev',ef,z⟩:=U1 P hw rl h1 hk;rw[ev]at ev';obtain rfl:=μ ev';obtain⟨x,ex,hx⟩:=KM L.asC ef;rw[Gj L.ok h1 hk]at ex;obtain rfl:=μ ex;exact(Fy h1<|b.ok _ _).mpr hx
def PlV.good{rows:sT}{vw:Vw}(L:PlV H rows n r c w vw):QH H rows:=λq hq v hv=>by
 obtain⟨f,hf⟩:=List.mem_iff_getElem?.mp<|List.mem_flatten.mpr ⟨q,hq,hv⟩;obtain⟨x,ex,hx⟩:=KM L.asC hf
 have ok:=bA L.ok x<|θ ex;cases x with
 | nm d =>
  cases d with
  |none=>rw[hx];trivial
  |some d =>
   obtain⟨t,rfl,et⟩:=hx;exact⟨_,et,by simp,λu hu=>by
    simp only[aj,bx,or_false]at hu;rcases hu with rfl|rfl
    exact ok
    trivial⟩
 | rc d =>
  cases d with
  |none=>rw[hx];trivial
  |some d =>
   revert hx;apply u2;rintro t u ⟨rfl,et,eu⟩
   have hd:some d∈vw.rc:=by
    have:=θ ex;unfold DT at this;simp only[a_,av,reduceCtorEq,and_false,exists_false,false_or,or_false,Cel.rc.injEq,exists_eq_right]at this;exact this
   exact⟨_,et,by simp,λx hx=>by
    simp only[aj,bx,or_false]at hx;rcases hx with rfl|rfl
    trivial
    refine{_,eu,by simp[AM];exact oA ((L.ok.n2 d hd).2) rfl,λy hy=>?_};obtain⟨i,z,rfl⟩:=av.mp hy
    trivial⟩
 |pc d =>
  cases d with
  |none=>rw[hx];trivial
  |some d=>rw[hx];exact ok
 |mk d =>
  cases d with
  |none=>rw[hx];trivial
  |some d=>rw[hx];trivial
end
def zwf(s:Snd m0 S):∃ o,Hist m0 S [] (LN []) o:={λz=>none,λz z=>s,λz z z z z=>rfl,λz z=>rfl,λz z z z z z z=>Ju}
def Gp{Q:Addr->Hp->Prop}{E:XK}(G:Gnd K a H1 ly gp cl n r c w rows nn S)
  (q:∀ (X:SX) (H2:Hp),X.S.lp=ly->X.S.A.gp=gp->X.S.A.cl=cl->X.n=n->X.r=r->X.c=c->X.w=w->(∀ y o,H1 y=some o->y=cl\/¬ X.S.A.F y)->H1 X.S.tk=none->C6 a H2 X [] [] {S,[]}->Same H1 H2->Q X.S.st H2) :
  ∀ x dx,H1 x=none->H1 dx=none->dx≠x->QK K a [.ref x,.ref ly,.ref gp] (upd (upd H1 dx<|.own x) x (.ins (a "Store") dx [])) (λv H2=>v=.non/\Q x H2) E:=λx dx hx RJ nd=>by
 have s0:Same H1 (upd (upd H1 dx<|.own x) x (.ins (a "Store") dx [])):=(AL RJ).trans (AL (by rw[AI nd.symm];exact hx));refine ON x dx ly gp cl n r c w _ nn S {rfl,G.t4,AF,G.la.same s0,G.pl.same s0,G.sz,λq hq v hv=>(G.gd q hq v hv).keep s0.tk,λkind k v h1 hk hv=>(G.rw.keep s0.tk) _ k v h1 hk hv,λkind k z z=>G.bo.ok _ k,λS' H2 e1 e2 e3 e4 off ht I sb=>{rfl,?_}}
 have s2:Same H1 H2:=λy o e=>sb _ _ (s0 _ _ e) (BI e hx)
 have:=q {S',n,r,c,w,_,nn,λz=>false} H2 e2 e3 e4 rfl rfl rfl rfl (λy o e=>off y o<|s0 _ _ e) (by
  cases e:H1 _ with
  |none=>rfl
  |some o=>rw[s0 _ _ e]at ht;cases ht) {I,zwf G.sd,G.bo,λk c ec=>by simp at ec,G.rw.keep s2.tk,G.few,λz h=>by simp at h,G.w1} s2
 rw[<-e1];exact this
def zwg(h:Y1 K a vs H Q E):aA K a (λ_=>E) (AX Q) (AW ["layout","plank","finds","due","find"] vs) H:=zv3 h
def Gnd.site(G:Gnd K a H ly gp cl n r c w rows nn S):Site K a H ly gp cl n r c w rows nn (BU n r c w S):=by
 obtain⟨z1,z2,z3,z4,z5⟩:=G.sz;exact{G.tv,G.t4.2.2.1,G.t4.2.1,G.la,G.pl,z5,G.rw.plv G.pl G.w1 z5 G.bo<|Gm G.pl G.w1 G.sz G.few G.gd G.rw G.bo G.sd,G.w1,z4,z1,z2,z3}
example:(zwh,UI,yS,2):=by
 apply RL;rintro ly gp cl n r c w rows nn S ⟨rfl,G,q⟩;obtain⟨dl,el⟩:=G.la.ob;obtain⟨dp,ep⟩:=G.pl.ob;obtain⟨tc,ec,x⟩:=G.pl.ls
 have nly:¬ (ly=gp\/ly=cl):=λz=>by
  rcases z with z|z
  rw[z,ep]at el;injection el with z;injection z with _ _ z;exact absurd (congrArg nj z) (by simp[pf,lf])
  rw[z,ec]at el;cases el
 refine U7 ly gp cl n r c w _ nn _ {rfl,G.site,G.sd.fault G.bo,λfo rows2 H2 hfo F2 P2 C9 pv2 U5=>?_};rw[zwc G.bo]at pv2;refine Gp  {G.tv,G.t4,G.la.sb U5 nly,P2,⟨G.sz.1,G.sz.2.1,G.sz.2.2.1,G.sz.2.2.2.1,C9⟩,G.few,G.w1,pv2.good,pv2.rows P2 G.w1 C9 G.bo.mended,G.bo.mended,G.sd.mended G.bo} λX H3 e1 e2 e3 e4 e5 e6 e7 off ht C s3=>?_
 have old:∀ y,H2 y=none->H y=none:=λy e=>by
  cases e':H y with
  |none=>rfl
  |some o =>
   by_cases z:y=gp\/y=cl;rcases z with z|z
   obtain⟨x,ep2⟩:=P2.ob;rw[z,ep2]at e;cases e;obtain⟨x,ec2,x⟩:=P2.ls;rw[z,ec2]at e;cases e;rw[U5 _ _ e' z]at e;cases e
 refine q X H3 e1 e2 e3 e4 e5 e6 e7 (λy o e=>?_) (old _ ht) C (U5.trans<|Same.sb s3);by_cases z:y=gp\/y=cl;rcases z with z|z
 obtain⟨x,ep2⟩:=P2.ob;rw[z];exact off gp _ ep2;exact .inl z;exact off y o<|U5 _ _ e z
def C6.gnd(I:C6 a H X cs tks M)(tv:TV K a)(t4:CN K a):Gnd K a H X.S.lp X.S.A.gp X.S.A.cl X.n X.r X.c X.w X.rows X.nn (sh M.b X.C M.as):={tv,t4,I.st.ly,I.st.bk.pk,I.st.sz,I.few,I.w1,I.st.gd.1,I.rows,I.inl _,I.snd}
def ER{M:Hs}{kind k:Nat}{x:CV}{nd:t3}:(M.put kind k x nd).f=M.f.put kind k x:=rfl
def FI{c kind k:Nat}{S:Md}{x:CV}(h:kind≠2):DO c (S.put kind k x)=DO c S:=by
 unfold DO
 congr 1
 funext j;rw[MK h.symm]
def bG{k:Nat}{S:Md}{x:CV}:∀ {c:Nat},k<c->DO c (S.put 2 k x)+(if NZ (S 2 k)then 1 else 0)=DO c S+(if NZ x then 1 else 0):=by
 intro c;unfold DO
 induction c with
 |zero=>intro h;exact nZ h
 |succ n ih =>
  rw[bu,sv,sv];simp only[ye,Ja];by_cases e:k=n;subst e
  have:(ν k).countP (λj=>NZ<|(S.put 2 k x) 2 j)=(ν k).countP (λj=>NZ _):=F_ λj hj=>by
   rw[DM (bd<|ak.mp hj)]
  rw[CU]
  lia
  rw[DM (λz=>e z.symm)]
  lia
theorem Gq{c d:Nat}:∀ {ps:t3} {M:Hs},ps.Nodup->(∀ p∈ps,p<c/\M 2 p=.mk 1)->DO c (M.unmark d ps).f+ps.length=DO c M.f
 | [],_,_,_=>rfl
 |p::ps,M,hn,h=>by
  obtain⟨h1,h2⟩:=gz.mp hn;obtain⟨hp,e⟩:=h p χ
  have a2:=Gq  (d:=d)  (M:=M.put 2 p (.mk 0) [d]) h2 λq hq=>⟨(h q<|ρ _ hq).1,by
   rw[Hs.put_at,if_neg<|λ(z:2=2/\q=p)=>h1<|z.2 ▸ hq];exact(h q<|ρ _ hq).2⟩
  have a1:=bG (S:=M.f) (x:=.mk 0) hp;rw[e]at a1
  have a1:DO c (M.put 2 p _ [d]).f+1=DO c _+0:=a1
  show DO c ((M.put 2 p _ _).unmark d ps).f+_=_;rw[de]
  lia
theorem RH:∀ {ps:t3} {M:Hs},(M.unmark d ps).as=(ps.map λp=>({2,p,.mk 0,[d]}:AC)).reverse++M.as/\(M.unmark d ps).b=M.b
 | [],_=>⟨rfl,rfl⟩
 |p::ps,M=>by
  have:=RH (d:=d) (ps:=ps) (M:=M.put 2 p (.mk 0) [d]);refine{?_,this.2};rw[dg,na,dw];exact this.1
section
variable{X:SX}{M:Hs}{y:Str}{ts:tY}{kind k:Nat}{x:CV}{nd:t3}
end
def zwi:∀ i:Fin 26,(bg "abcdefghijklmnopqrstuvwxyz").cps.toList[i.val]? =some (97+i.val):=by decide
def zwj{i:Int}{n:Nat}{Q:VK}(hi:i=n)(hn:n<26)(q:Q (.str {#[97+n]}) H):BX K (.str<|bg "abcdefghijklmnopqrstuvwxyz") (.int i) H Q:=Cz hi (by decide) (zwi ⟨n,hn⟩) q
def U2:Str:=bg " !\"#$&'()*+,-./0123456789:;<=>?@ABCDEFGHIJKLMNOPQRSTUVWXYZ[\\]^_`"++bg "abcdefghijklmnopqrstuvwxyz{|}~"
theorem Gv:∀ l:tY,(∀ x∈l,x.length=1)->(l.map (·.length)).sum=l.length
 | [],_=>rfl
 |x::r,h=>by
  rw[dg,List.sum_cons,Gv r λy hy=>h y<|ρ _ hy,h x χ];exact t_ _ _
def F5{p:Addr}{xs:sZ}{k:Nat}{Q:VK}(h:H p=some (.lst<|xs.map V.int))(hk:k<xs.length)(q:∀ x∈xs,Q (.int x) H):BX K (.ref p) (.int k) H Q :=
 CY (SqL.of h)  rfl (by rw[τ,η hk];rfl) (q _<|og hk)
def Gw{p:Addr}{xs:sZ}{k:Nat}{Q:VK}(h:H p=some (.lst<|xs.map V.int))(hk:k<xs.length)(q:Q (.int<|xs.getD k 0) H):BX K (.ref p) (.int k) H Q :=
 CY (SqL.of h)  rfl (by simp[hk]) q
def MZ(x:Int):Nat:=97+(x%26).toNat
def Gx{x:Int}{Q:VK}(q:Q (.str {#[MZ x]}) H):BX K (.str<|bg "abcdefghijklmnopqrstuvwxyz") (.int<|x%26) H Q:=by
 obtain⟨b,eb,hb⟩:=UP x (n:=26) (by decide);rw[show((26:Nat):Int)=26 from rfl]at eb
 have:MZ x=97+b:=by unfold MZ;rw[eb];simp
 rw[this]at q;rw[eb];exact zwj rfl hb q
def zwk{c:Nat}{k:Nat}(h1:1<=k)(h8:k<=8):(NF {#[c]} (k:Int)).cps.toList=bc k c:=by
 rcases(by lia:k=1\/k=2\/k=3\/k=4\/k=5\/k=6\/k=7\/k=8)with h|h|h|h|h|h|h|h<;>subst h<;>rfl
def bH(x:Int)(k:Nat):Str:=NF {#[MZ (x+(k:Int)/8)]} (1+(k:Int)%8)
def Gy(fi se:Int)(k j:Nat):Int:=(k:Int)*(if(j:Int)=fi then 1 else 0)+(k:Int)/26*(if(j:Int)=se then 1 else 0)
def LV(xs:sZ)(fi se:Int)(k sz:Nat):t3:=(ν sz).map λj=>MZ<|xs.getD (3+j) 0+Gy fi se k j
def zwl{x y:Str}(h:x.cps.toList=y.cps.toList):x=y:=by
 cases x;congr 1;exact Array.toList_inj.mp h
section
variable{X:SX}{M:Hs}{y:Str}
end
def U3{nl:Addr}{zs:tY}{x:Int}{Q:VK}(h:Q1 H nl zs)(q:∀ z∈zs,Q (.str z) H):BX K (.ref nl) (.int<|x%5) H Q:=by
 obtain⟨e,l,y⟩:=h;obtain⟨b,eb,hb⟩:=UP x (n:=5) (by decide);rw[show((5:Nat):Int)=5 from rfl]at eb;rw[eb];exact CY (SqL.of e)  rfl (by rw[τ,(η (show b<zs.length by lia))];rfl) (q _<|og _)
def zwm{p:Addr}{y:Str}{L:tY}{Q:VK}(h:H p=some (.lst<|L.map V.str))(q:Q (.bl<|decide<|y∈L) H):SL K (.str y) (.ref p) H Q:=by
 refine x2 p _ {rfl,.inl<|SqL.of h,rfl,?_,?_};rw[jo];intro v hv;obtain⟨z,x,rfl⟩:=av.mp hv
 rfl
 have:NC (.str y) (L.map V.str)=decide (y∈L):=by
  unfold NC;rw[List.any_map,jf,dq,decide_eq_true_eq];constructor;rintro ⟨z,hz,e⟩
  have:z=y:=by simpa [G9]using e
  exact this ▸ hz;exact λhy=>{y,hy,by simp[G9]}
 rw[this];exact q
def Gz:z∈LE M m↔∃ k rec,k<m/\M 0 k=.nm z rec:=by
 unfold LE;rw[ix];constructor;rintro ⟨k,hk,e⟩;obtain⟨p,ep,rfl⟩:=aa.mp e;unfold D9 at ep;cases e0:M 0 k with
 |nm y r=>rw[e0]at ep;cases ep;exact x2 k r {ak.mp hk,e0}
 |no=>rw[e0]at ep;cases ep
 |mk i=>rw[e0]at ep;cases ep
 |rc m ps=>rw[e0]at ep;cases ep
 |tx t=>rw[e0]at ep;cases ep
 rintro ⟨k,rec,hk,e⟩;exact{k,ak.mpr hk,by unfold D9;rw[e];rfl}
theorem Hb{c:Nat}{M:Hs}:∀ {ps:t3},(∀ p∈ps,p<c/\∃ t,M 4 p=.tx t)->∃ ts,Paired (λp t=>p<c/\M 4 p=.tx t) ps ts
 | [],_=>{[],.nil}
 |p::ps,h=>by
  obtain⟨ts,P⟩:=Hb λq hq=>h q<|ρ _ hq;obtain⟨h1,t,h2⟩:=h p χ;exact{_,.cons ⟨h1,h2⟩ P}
def Hc{cs:z8}{outs:qW}{left row:t3}{b:Nat}(h:EX cs outs left (b::row)):∃ (k:Nat) (c:Ch),cs[k]? =some c/\b=c.blk/\EX cs (C3 cs outs b) (left.filter λ(x:Nat)=> !C3 cs outs b x) row:=by
 cases h with
 |cons e h=>exact y2 ⟨e,rfl,h⟩
def zwn(h:EX cs outs left []):left=[]:=by
 cases h;rfl
section
variable{X:SX}{cs:z8}{tks:tS}{M:Hs}
def C6.txt(I:C6 a H X cs tks M){p:Nat}{t:Str}(hp:p<X.c*X.w)(e:M 4 p=.tx t):gk t=true:=by
 obtain⟨v,ev,rv⟩:=I.st.val (kind:=4)  (by decide) (hp);rw[e]at rv
 have:=Cy I.st.gd ev;rw[rv]at this;exact this
def C6.cell(I:C6 a H X cs tks M){k rec:Nat}{z:Str}(hk:k<X.m0)(e:M 0 k=.nm z rec):cellOf M X.m0 z=some k:=by
 cases ec:cellOf M _ z with
 |none=>exact absurd e<|U0 ec k _ hk
 |some j =>
  obtain⟨hj,r',e'⟩:=Dj ec;rw[I.now.un j k z r' _ hj hk e' e]
structure KI(a:Ad)(X:SX)(cs:z8)(tks:tS)(M:Hs)(H3:Hp)(left0 row:t3)(i:Nat)(X':SX)(H':Hp):Prop where
 e:X'.S=X.S/\X'.n=X.n/\X'.r=X.r/\X'.c=X.c/\X'.w=X.w
 c:C6 a H' X' cs tks M
 r:∃ left,EX cs X'.outs left (row.drop i)/\∀ x∈left0,X'.outs (x:Nat)=true\/x∈left
 m:∀ j,X.C j=true->X'.C j=true
 s:SameBut (λx=>X.S.A.F x\/x=X.S.A.gp) H3 H'
def KI.out{H3:Hp}{row:t3}{X':SX}{H':Hp}{R:qW}{things:List (Nat × Nat)}{kind k:Nat}(I:C6 a H X cs tks M)(J:KI a X cs tks M H3 (D1 cs.length X.outs R) row row.length X' H')(hR:KA cs X.outs (EY X cs things) R)(ht:(kind,k)∈things)(h1:kind<5)(hk:k<BJ X.n X.r X.c X.w kind):Y5 X' M kind k:=λj ej=>by
 have en:=(I.st.la.newest h1 hk).1;rw[ej]at en;cases eo:X.outs j with
 |true=>exact J.m j eo
 |false =>
  obtain⟨left,hl,h⟩:=J.r;rw[List.drop_length]at hl;rw[zwn hl]at h;exact(h j (NQ.mpr {(MF en),eo,(hR.all _ (ix.mpr {_,ht,by rw[en];rfl}))})).elim id λz=>by cases z
end
def zwo(ns:sZ):∃ ms:sZ,FX (ns.map V.int) (some 2) none=ms.map V.int/\ms.length<=ns.length - 2:=by
 refine{(ns.drop<|HT.sIx ns.length 0<|some 2).take (HT.sIx ns.length ns.length none-HT.sIx ns.length 0 (some 2)),?_,?_}
 ·unfold FX;rw[ζ,<-Bu,<-Bt]
 ·rw[ce,jn]
  have:HT.sIx ns.length 0 (some 2)=min 2 ns.length:=by
   unfold HT.sIx
   try lia
  rw[this];refine ω (Im _ _) ?_;rcases Nat.le_total 2 ns.length with h|h
  ·rw[rf h];exact υ _
  ·rw[Ie h,vy];exact bv _
def Hg:DO c S<=c:=by
 refine ω List.countP_le_length ?_;rw[cw];exact υ _
example:(zwp,SY,rM,1):=by
 apply u5;rintro p cl w rows n ⟨rfl,T,P,q⟩;obtain⟨dx,h1⟩:=P.ob;exact y3 {h1,T.cl,T.nN,_,oR _ _ _,q}
example:(zwq,Q0,wM,2):=by
 apply u6;rintro X cs tks M b row ⟨rfl,⟨T,TP,TL,TS⟩,I,er,q⟩;obtain⟨dx,ho⟩:=I.ob;obtain⟨dp,ep⟩:=I.bk.pk.ob;obtain⟨db,eb⟩:=I.bk.bk.ob
 have hb:=(ε.mp er).1;refine y3 {ho,TS.cl,TS.n2,_,HH,y2 {eb,CT (by decide),x7 _ _ _ _ cs _ b {rfl,T,TP,I.bk,λb' row' t ol hl H' eb' er' o1 o2 u o3 B' sb=>?_,λz=>by lia}}};obtain rfl:b=b':=cg eb';rw[er]at er';obtain rfl:=μ er'
 have lo:∀ x,X.S.A.F x->FF _:=λx hx=>I.bk.loose hx;obtain⟨⟨dx,e1⟩,e2,e3,e4,e5,e6,e7,e8,e9,e10,e11,e12⟩:=I
 have tk:D3 H H':=λy ys e=>sb _ _ e λz=>z.elim (λz=>(lo _ z).1 _ e) λz=>by rw[z,ep]at e;cases e
 obtain⟨dl,el⟩:=e2.ob;refine q t ol hl H' o1 o2 o3 {{dx,sb _ _ e1 λz=>z.elim (λz=>(lo _ z).2 _ _ _ e1) λz=>?_},e2.sb sb λz=>z.elim (λz=>(lo _ z).2 _ _ _ el) λz=>?_,B',sb _ _ e4 λz=>z.elim e7 λz=>?_,e5,e6,e7,{e8.1,e8.2.1,e8.2.2.1,e8.2.2.2.1,by show(X.rows.set b _).length=X.n+X.r+X.c+X.r+X.c;rw[jd];exact e8.2.2.2.2},{λq hq v hv=>?_,(e9.keep tk).2},λkind k v h1 hk hv=>?_,e11,e12.keep tk} sb;rw[show X.S.st=X.S.A.gp from z,ep]at e1;injection e1 with e1
 injection e1 with _ _ e1
 cases (congrArg (·.lookup ("plan":Str)) e1);rw[z,ep]at el;injection el with el
 injection el with _ _ el
 exact absurd (congrArg nj el) (by simp[pf,lf]);rw[show X.S.tk=X.S.A.gp from z,ep]at e4;cases e4
 have g:=e9.keep tk;rcases pd hq with hq|hq
 exact g.1 q hq v hv;rw[hq]at hv;rcases zui hv with hv|⟨c,hc,rfl⟩
 exact g.1 _ (θ er) v hv;exact g.2 c hc
 have hv:EM cs (X.rows.set b _) (BG X.n X.r X.c X.w _ k) (k%X.w:Nat)=some v:=hv;refine(e10 _ k v h1 hk ?_).keep tk;rw[<-hv];unfold EM;cases en:DR cs _ _ with
 |some j=>rfl
 |none =>
  rw[b_];by_cases e:BG X.n X.r X.c X.w kind k=b;rw[e]at en ⊢;rw[er,dv hb]
  show row[_]? =(EW cs _ b _)[_]?;rw[b_,zuh en];rw[fh (λz=>e z.symm)]
def zwr:∀ i:Fin 94,∃ c,U2.cps.toList[i.val]? =some c/\LD c=true:=by
 have h:∀ i:Fin 94,U2.cps.toList[i.val]? =some (U2.cps.toList[i.val]!)/\LD (U2.cps.toList[i.val]!)=true:=by decide
 exact λi=>{_,(h i).1,(h i).2}
theorem Hh{p:sX}:∀ (l:tY) (BP:Array Nat),BP.all p=true->(∀ z∈l,z.cps.all p=true)->(l.foldl (λBP q=>BP++(bg "").cps++q.cps) BP).all p=true
 | [],BP,h,_=>h
 |z::l,BP,h,hz=>by
  refine Hh l _ ?_ λy hy=>hz y<|ρ _ hy;rw[Io,Io,h,hz z χ,show(bg "").cps= #[] by decide +kernel];simp
def zws{l:tY}(h1:1<=l.length)(h2:l.length<=40)(h:∀ z∈l,z.length=1/\z.cps.all LD=true):IB (Txt.join (bg "") l)=true:=by
 unfold IB;rw[W.KT.join_ones l λz hz=>(h z hz).1,decide_eq_true h2,yf];cases l with
 |nil=>simp at h1
 |cons z l=>exact Hh l _ (h z χ).2 λy hy=>(h y<|ρ _ hy).2
example:(zwt,NY,ZK,6):=by
 apply u2;rintro c m ⟨rfl,hm,q⟩;push_cast[ZK,↓rT_,↓rV_,↓rW_];refine{{by decide,by decide},by decide,λl hl=>?_}
 have a2:0<=c/920419823%899809363+3/\c/920419823%899809363+3<1000000000:=by lia
 have a1:0<=c%920419823+5/\c%920419823+5<1000000000:=by lia
 generalize c%920419823+5=here at a1 ⊢;generalize c/920419823%899809363+3=there at a2 ⊢;obtain⟨H1,zz0,s1,e1⟩:=C4  hl;rw[zz0];refine{i0,by lia,NG (λi σ H'=>∃ (xs:List _) (here there:Int),Same H H'/\H' l=some (.lst<|xs.map V.int)/\xs.length=i/\(∀ x∈xs,0<=x/\x<2000000000)/\(0<=here/\here<1000000000)/\(0<=there/\there<1000000000)/\∃ y,σ=[some _,some _,some<|.int here,some<|.int there,some _,y]) (x3 [] _ _ {s1,e1,rfl,by simp,a1,a2,_,rfl}) (λi σ H' hi hzz=>?_) (λσ H' hzz=>?_)};revert hzz;refine u3 ?_;rintro xs he th ⟨s,e,EG,hx,b1,b2,y,eσ⟩;subst eσ
 have c1:0<=(he*70001+th)%920419823/\(he*70001+th)%920419823<920419823:=by lia
 push_cast[↓rX_,↓rY_,↓rZ_];generalize (he*70001+th)%920419823=h2 at c1 ⊢;generalize h2*h2=sq;refine{.inl {by lia,by lia},.inl {by lia,by lia},.inl {by lia,by lia},.inl {rfl,_,SqL.of e},_,e,ψ (show(xs.map _).length<1000 by rw[ζ];lia) (by decide),λy o e=>by rw[AI (BI e hl)];exact s _ _ e,xs++[h2+(th*60013+sq+(0+i))%899809363],by rw[AF,ai];rfl,by simp[EG],λx hxm=>?_,h2,by lia,by lia,_,(by lia),(by lia),rfl,rfl};rcases a_.mp hxm with h|h
 exact hx x h;rw[ae.mp h];lia;revert hzz;refine u3 ?_;rintro xs he th ⟨s,e,EG,hx,b1,b2,y,eσ⟩;subst eσ;exact q l xs H' hl s e EG hx
example:(zwu,Y2,uZ,4,h):=by
 obtain⟨x,rfl,q⟩:=h;refine{by decide,x2 x 3 {rfl,by lia,λl xs H1 hl s1 el EG hx=>?_}}
 have tail:∀ m:Nat,1<=m->m<=40->ZV K a (λy=>E) (λy=>E) (AX Q) [some (.int x),some _,some _,some<|.int m] H1:=λm hm1 hm=>by
  push_cast[↓ZV_];refine{rfl,by lia,by lia,(K5 (CC _ (by lia)) (λi ys H'=>H'=H1/\∃ zs:List _,ys=zs.map V.str/\∀ z∈zs,z.length=1/\z.cps.all LD=true) {rfl,[],rfl,by simp} (λi ys H' hi hl hzz=>?_) (λys H' hl' hzz p hp=>?_))};obtain⟨rfl,zs,e2,e3⟩:=hzz;refine F5  el (by lia) λy1 y=>F5  el (by lia) λy3 y=>?_;push_cast[];refine{{by lia,by lia},F5  el (by lia) λy2 hy2=>?_}
  have b2:=hx y2 hy2;push_cast[];obtain⟨b,eb,hb⟩:=UP _ (n:=94) (by lia);obtain⟨c,hc,hco⟩:=zwr ⟨b,hb⟩;refine{.inr {by lia,by lia},?_};rw[show((94:Nat):Int)=94 from rfl]at eb;rw[eb];refine Cz rfl (by decide) hc {rfl,zs++[⟨_⟩],by rw[e2,ai];rfl,λz hz=>?_};rcases a_.mp hz with hz|hz
  exact e3 z hz;rw[ae.mp hz];exact{rfl,by simpa using hco};obtain⟨rfl,zs,e2,e3⟩:=hzz
  have C9:zs.length=m:=by rw[<-hl',e2,ζ]
  exact x3 _ p zs {rfl,rfl,by rw[<-e2];exact SqL.of AF,by decide,by rw[Gv zs λz hz=>(e3 z hz).1];lia,q _ _ (zws (by lia) (by lia) e3) (s1.trans<|AL hp)}
 refine F5  el (by lia) λy1 hy1=>?_;push_cast[↓uY_];refine F5  el (by lia) λy2 hy2=>?_;push_cast[];refine{{by decide,by decide},?_};split;exact tail 40 (by lia) (by lia);obtain⟨m,em⟩:∃ m:Nat,1+y1%6=m:={(1+y1%6).toNat,by lia}
 rw[em];exact tail m (by lia) (by lia)
example:(zwv,Y3,vA,2,h):=by
 obtain⟨x,rfl,q⟩:=h;refine{{by decide,by decide},x2 _ 3 {rfl,by decide,λl xs H1 hl s1 el EG hx=>?_}}
 have md:∀ y:Int,∃ n:Nat,1+y%3=n/\1<=n/\n<=3:=λy=>{(1+y%3).toNat,by lia,by lia,by lia}
 refine F5  el (EG ▸ by decide) λy1 z=>?_;push_cast[];refine F5  el (EG ▸ by decide) λy2 z=>?_;push_cast[];refine F5  el (EG ▸ by decide) λy3 z=>?_;push_cast[];refine{by decide,λt ht=>?_};obtain⟨n,en,n1,n2⟩:=md y1;obtain⟨r,er,r1,r2⟩:=md y2;obtain⟨c,ec,c1,c2⟩:=md y3;obtain⟨w,ew,w1,w2⟩:∃ n:Nat,1+x%6=n/\1<=n/\n<=6:={(1+x%6).toNat,by lia,by lia,by lia}
 rw[en,er,ec,ew];exact q t n r c w _ (s1.trans<|AL ht) AF n1 n2 r1 r2 c1 c2 w1 w2
def Hj{l:sZ}{z:Str}(h:z.cps.toList=l.map MZ)(h1:1<=l.length)(h8:l.length<=8):BO z=true:=by
 have hl:z.length=l.length:=by rw[show z.length=z.cps.toList.length by simp[Cf],h,ζ]
 unfold BO;rw[hl,decide_eq_true h1,decide_eq_true h8,h,Me,Me,jo];intro c hc;obtain⟨x,y,rfl⟩:=av.mp hc;unfold QI MZ
 lia
example:(zww,Y4,uX,12,h):=by
 revert h;refine u2 ?_;rintro x m ⟨rfl,hm,q⟩;refine{{by decide,by decide},x2 _ 12 {rfl,by lia,λl xs H1 hl s1 el EG hx=>?_}};push_cast[↓uQ_];by_cases h1:x%2=1;refine FZ h1 ?_;push_cast[↓uP_];refine{by lia,by lia,(K5 (CC _ (by lia)) (λi ys H'=>H'=H1/\ys=((ν i).map (bH<|xs.getD 0 0)).map V.str) ⟨rfl,rfl⟩ (λi ys H' hi hl hzz=>?_) (λys H' hl' hzz p hp=>?_))};obtain⟨rfl,e2⟩:=hzz;push_cast[CO,l8];refine Gw (k:=0) el (by lia) ?_;push_cast[];refine{{by decide,by decide},Gx ?_};push_cast[];refine{by lia,by lia,(show(1:Nat)<=1000 by lia),?_};rw[e2,bu,ai,ai]
 rfl;obtain⟨rfl,e2⟩:=hzz;refine q p ((ν m).map (bH<|xs.getD 0 0)) _ (s1.free hp) (s1.trans<|AL hp) (by rw[AF,e2]) (by simp) λz hz=>?_;obtain⟨k,hk,rfl⟩:=av.mp hz;obtain⟨j,ej,j1,j8⟩:∃ j:Nat,1+(k:Int)%8=j/\1<=j/\j<=8:={(1+(k:Int)%8).toNat,by lia,by lia,by lia}
 unfold bH;rw[ej];exact Hj (l:=bc j<|xs.getD 0 0+(k:Int)/8) (by rw[zwk j1 j8,Cn]) (by simpa using j1) (by simpa using j8);refine E5 h1 ?_;refine F5 (k:=0) el (by lia) λy1 hy1=>?_;push_cast[];obtain⟨sz,esz,hsz⟩:∃ sz:Nat,2+y1%7=sz/\2<=sz/\sz<=8:={(2+y1%7).toNat,by lia,by lia,by lia}
 rw[esz];refine F5 (k:=1) el (by lia) λy2 hy2=>?_;push_cast[];refine{by lia,?_}
 have f1:=rj y2 (show(0:Int)<sz by lia)
 have f0:=ve y2 (show(sz:Int)≠0 by lia);generalize y2%(sz:Int)=first at f0 f1 ⊢;refine F5 (k:=2) el (by lia) λy3 hy3=>?_;push_cast[];refine{by lia,by lia,?_}
 have g1:=rj (first+1+y3%((sz:Int)-1)) (show(0:Int)<sz by lia)
 have g0:=ve (first+1+y3%((sz:Int)-1)) (show(sz:Int)≠0 by lia);generalize (first+1+y3%((sz:Int)-1))%(sz:Int)=second at g0 g1 ⊢;refine{by decide,λp hp=>?_};obtain⟨H2,zz0,s2,e2⟩:=C4 (o:=.lst []) hp;rw[zz0];push_cast[↓uW_];refine{by lia,by lia,NG (λi σ H'=>(Same H1 H'/\H' p=some (.lst (((ν i).map λk=>({(LV xs first second k sz).toArray}:Str)).map V.str)))/\∃ y8 y9 y10 y11,σ=[some (.int x),some<|.int m,some<|.str<|bg "abcdefghijklmnopqrstuvwxyz",some<|.ref l,some<|.int sz,some (.int first),some<|.int second,some<|.ref p,y8,y9,y10,y11]) {⟨s2,e2⟩,x4 _ _ _ _ rfl} (λi σ H' hi hzz=>?_) (λσ H' hzz=>?_)};obtain⟨⟨s,e⟩,y8,y9,y10,y11,eσ⟩:=hzz;subst eσ;push_cast[↓uR_,↓uU_,l8];refine{by lia,by lia,NG (λj σ H2=>(∃ wd:Str,H2=H'/\wd.cps.toList=LV xs first second i j/\∃ y10 y11,σ=[some (.int x),some<|.int m,some<|.str<|bg "abcdefghijklmnopqrstuvwxyz",some<|.ref l,some<|.int sz,some (.int first),some<|.int second,some<|.ref p,some<|.int (i:Int),some<|.str wd,y10,y11])) {bg "",rfl,rfl,x2 _ _ rfl} (λj σ H2 hj hzz=>?_) (λσ H2 hzz=>?_)};obtain⟨wd,rfl,hw,y10,y11,eσ⟩:=hzz;subst eσ;push_cast[↓uS_,↓uT_,l8];refine{.inl {by lia,by lia},{by decide,by decide},.inl {by lia,by lia},?_};refine Gw (k:=3+j) (s _ _ el) (by lia) ?_;push_cast[];refine Gx ?_
 have hwl:wd.length=j:=by
  have:wd.cps.toList.length=j:=by rw[hw];unfold LV;simp
  simpa [Cf]using this
 push_cast[];refine{CC _ (by rw[hwl];show j+1<=_;lia),_,?_,rfl}
 show(wd.cps++_).toList=_;rw[Array.toList_append,hw];unfold LV;rw[bu,ai]
 rfl;obtain⟨wd,rfl,hw,y10,y11,eσ⟩:=hzz;subst eσ;push_cast[↓uV_];refine{.inl {rfl,_,SqL.of e},_,e,ψ (show(((ν i).map λk=>({(LV xs first second k sz).toArray}:Str)).map V.str).length<1000 by simp;lia) (by decide),λy o e=>by rw[AI (BI e hp)];exact s _ _ e,?_};rw[AF,bu,ai,ai]
 have:wd=({(LV xs first second i sz).toArray}:Str):=zwl hw;rw[this]
 rfl;obtain⟨⟨s,e⟩,y8,y9,y10,y11,eσ⟩:=hzz;subst eσ;refine q p _ H' (s1.free hp) (s1.trans s) e (by simp) λz hz=>?_;obtain⟨k,hk,rfl⟩:=av.mp hz;exact Hj (l:=(ν sz).map λj=>xs.getD (3+j) 0+Gy first second k j) (by show LV xs first second k sz=_;unfold LV;rw[oq];rfl) (by simp;lia) (by simp;lia)
example:(zwx,Q2,aG,5):=by
 apply u5;rintro X cs tks M z ⟨rfl,T4,TH,I,hc,q⟩;push_cast[aG,↓zJ_,↓zK_,↓zO_,↓zL_];refine x5 X cs tks M z {rfl,T4,I,λcell rec ec=>absurd (hc.symm.trans ec) (by simp),λy H1 s1=>.inl {TH.h "NoName"<|.inl rfl,λe he=>?_}}
 have se:=AL (o:=.ext<|IT e<|.ref<|a "NoName") he
 have ee:upd H1 e (.ext<|IT e<|.ref<|a "NoName") e=some (.ext<|IT e<|.ref<|a "NoName"):=AF;revert se ee;generalize upd H1 e (.ext<|IT e<|.ref<|a "NoName")=H2;intro se ee
 have ty:∀ {H':Hp},Same H2 H'->TyX K H' (.ref e) (.ref<|a "NoName"):=λs=>.inr {e,a "NoName",rfl,rfl,s _ _ ee,TH.ec};push_cast[↓zM_];refine PJ (ty<|Same.refl _) (.own _) TH.i1 ?_;push_cast[];refine PJ (ty<|Same.refl _) (.ty _) TH.iv ?_;push_cast[↓zN_];refine{by decide,λt ht=>?_}
 have s3:=AL (o:=.tup [.ref (a "NoBlock"),.ref<|a "NoChange",.ref<|a "NoPiece",.ref<|a "NoRoom",.ref<|a "NoRow",.ref<|a "NotSound",.ref<|a "Twice"]) ht;refine zaj (ty s3) (SqT.of AF) (.cons (.own _) (.cons (.own _) (.cons (.own _) (.cons (.own _) (.cons (.own _) (.cons (.own _) (.cons (.own _) .nil))))))) TH.no ?_;push_cast[↓zP_];exact{false,rfl,q _<|(s1.trans se).trans s3}
example:(zwy,Y6,ZL,3):=by
 apply u3;rintro l row m ⟨rfl,e,hl,hb,q⟩;push_cast[ZL,↓r8_,↓sB_];refine PJ (.inl<|.lst e) (.ty _) (b:=true) rfl ?_;push_cast[];refine .inl {{_,SqL.of e},EV (xs:=AM row) (λi σ H'=>H'=H/\∃ y,σ=[some (.ref l),some<|.int m,y]) ⟨rfl,_,rfl⟩ (λi σ H' z h=>h.1 ▸ SqL.of e) (λi v σ H' ev h=>?_) (λσ H' h=>?_)}
 ·obtain⟨rfl,y,rfl⟩:=h;unfold AM at ev;rw[τ,aa]at ev;obtain⟨b,eb,rfl⟩:=ev
  have hm:=hb b<|θ eb;push_cast[↓sA_];refine PJ (.inl<|.int _) (.ty _) (b:=true) rfl ?_;push_cast[];refine PJ (.inl<|.int _) (.ty _) (b:=false) rfl ?_;push_cast[];rw[if_pos (by lia),if_neg (by lia)]
  trivial
 ·obtain⟨rfl,y,rfl⟩:=h;push_cast[↓sC_];exact q
def Hk(H:Hp)(X:SX)(t:Addr)(z:Str)(cell rec i:Nat)(σ:St)(H':Hp):Prop:=Same H H'/\∃ (pl:Addr) (y5 y6:Option V) (xs:Oq),σ=[some (.ref X.S.A.b),some<|.ref t,some<|.str z,some<|.int X.w,some<|.ref pl,y5,y6,none,none,none]/\H pl=none/\H' pl=some (.lst xs)/\(i<=cell->xs=[])/\(cell<i->∃ t1 t2,xs=[.ref t1,.ref t2]/\H' t1=some (.tup<|JD X (0,cell))/\H' t2=some (.tup<|JD X (3,rec)))
def DuQ(H3:Hp)(X:SX)(t pl:Addr)(z:Str)(y5 y6:Option V)(cell rec:Nat)(ps:t3)(i:Nat)(σ:St)(H':Hp):Prop:=SameBut (· =pl) H3 H'/\∃ (y7:Option V) (ts:tW),σ=[some (.ref X.S.A.b),some<|.ref t,some<|.str z,some<|.int X.w,some<|.ref pl,y5,y6,y7,none,none]/\H' pl=some (.lst<|ts.map V.ref)/\Paired (λt p=>H' t=some (.tup<|JD X p)) ts (DH cell rec<|ps.take i)
def DuR(H4:Hp)(X:SX)(cs:z8)(t pl nb:Addr)(z:Str)(y5 y6 y7:Option V)(L:List (Nat × Nat))(i:Nat)(σ:St)(H':Hp):Prop:=SameBut (· =nb) H4 H'/\H' nb=some (.lst<|(EY X cs<|L.take i).map V.int)/\∃ y9:Option V,σ=[some (.ref X.S.A.b),some<|.ref t,some<|.str z,some<|.int X.w,some<|.ref pl,y5,y6,y7,some<|.ref nb,y9]
example:(zw1,Y7,Z3,10):=by
 apply RL;rintro X cs tks M t z cell rec m ps ⟨rfl,T4,I,hcs,et,BC,e0,hr,e3,q⟩;obtain⟨T,TP,TL,TS⟩:=T4
 have w1:=I.w1
 have hw:X.w<=6:=I.st.sz.2.2.2.1
 have hn6:X.n<=6:=I.st.sz.1;obtain⟨p1,p2⟩:=I.ps e3;push_cast[Z3,↓wR_,↓wS_,↓wX_];refine BB et (n:=3) rfl rfl {by decide,λpl BV=>?_};obtain⟨H1,zz0,s1,e1⟩:=C4 (o:=.lst []) BV;rw[zz0];refine BB (s1 _ _ et) (n:=0) rfl rfl ?_;push_cast[]
 have hm0:X.m0=X.n*X.w:=rfl
 have hm36:X.n*X.w<=36:=gy hn6 hw;refine{.inl {by lia,by lia},by have:=jz X.n X.w;lia,by have:=jz X.n X.w;lia,?_};rw[show((X.n:Int)*X.w).toNat=X.n*X.w by rw[<-jz];rfl];refine NG (n:=X.n*X.w) (Hk H X t z cell rec) {s1,pl,_,_,_,rfl,BV,e1,λg=>rfl,λh=>absurd h<|jx _} (λi σ H2 hi h=>?_) (λσ H2 h=>?_)
 ·obtain⟨s2,pl,y5,y6,xs,rfl,BV,el,h1,h2⟩:=h;push_cast[↓wT_,l8]
  have I2:=I.same s2;obtain⟨db,eb⟩:=I2.st.bk.bk.ob
  have wi:(0:Int)<X.w:=by lia
  have hk:i<BJ X.n X.r X.c X.w 0:=hi
  have hb:(i:Int)/(X.w:Int)=(BG X.n X.r X.c X.w 0 i:Nat):=by simp[BG]
  refine y2 {eb,CT (by decide),{wi,by lia},wi,by decide,λp hp=>?_};obtain⟨H3,zz0,s3,e4⟩:=C4 (o:=.tup [.int ((i:Int)/X.w),.int<|(i:Int)%X.w]) hp;rw[zz0]
  have I3:=I2.same s3;refine x9 X.S.A X.w X.rows X.nn cs X.outs p _ _ {rfl,T,TP,I3.st.bk,e4,λg v H4 hv s4=>?_,λh=>absurd (hb ▸ I3.st.onPl (kind:=0) (by decide) hk) h};obtain⟨v',ev,rv⟩:=(I3.same s4).st.val (kind:=0) (by decide) hk;rw[<-hb]at ev;obtain rfl:=μ<|hv.symm.trans ev
  have s5:=s2.trans<|s3.trans s4
  have el':=s4 _ _<|s3 _ _ el
  have okc:=I.st.ok 0 i (by decide) hk
  have keep:∀ v:V,i≠cell->Hk H X t z cell rec (i+1) [some (.ref X.S.A.b),some<|.ref t,some<|.str z,some<|.int X.w,some<|.ref pl,some<|.int i,some v,none,none,none] H4:=λv ne=>{s5,pl,_,_,xs,rfl,BV,el',λh=>h1 (by lia),λh=>by obtain⟨t1,t2,e,e5,e6⟩:=h2 (by lia);exact{t1,t2,e,s4 _ _<|s3 _ _ e5,s4 _ _<|s3 _ _ e6}}
  cases e:M 0 i with
  |no =>
   rw[e]at rv;obtain rfl:v=.non:=rv;push_cast[↓wV_];exact keep _ λh=>by rw[h,e0]at e;cases e
  | nm y r =>
   rw[e]at rv;obtain⟨tt,rfl,ett⟩:=rv;push_cast[↓wV_];refine BB ett (n:=0) rfl rfl ?_;push_cast[];by_cases hy:y=z
   ·subst hy;obtain rfl:i=cell:=I.now.un i cell _ _ _ hi BC e e0;obtain rfl:r=rec:=by rw[e]at e0;cases e0;rfl
    rw[if_pos rfl];push_cast[↓wU_]
    have pl0:JD X (0,i)=[V.int ((i:Int)/X.w),V.int<|(i:Int)%X.w]:=by
     show [V.int (BG X.n X.r X.c X.w 0 i:Nat),_]=_;rw[<-hb];rfl
    have pl3:JD X (3,r)=[V.int ((X.n:Int)+(r:Int)/X.w),V.int<|(r:Int)%X.w]:=rfl;refine{{wi,by lia},wi,by decide,λp5 hp5=>?_};obtain⟨H5,zz0,s6,e5⟩:=C4 (o:=.tup [.int ((i:Int)/X.w),.int<|(i:Int)%X.w]) hp5;rw[zz0];refine BB (s6 _ _<|s5 _ _ et) (n:=0) rfl rfl (BB (s6 _ _ ett) (n:=1) rfl rfl ?_);push_cast[];refine{{wi,by lia},BB (s6 _ _ ett) (n:=1) rfl rfl ?_};push_cast[];refine{wi,by decide,λp6 hp6=>?_};obtain⟨H6,zz0,s7,e6⟩:=C4 (o:=.tup [.int ((X.n:Int)+(r:Int)/X.w),.int<|(r:Int)%X.w]) hp6;rw[zz0];refine{by decide,λp7 hp7=>?_};obtain⟨H7,zz0,s8,e7⟩:=C4 (o:=.lst [.ref p5,.ref p6]) hp7;rw[zz0];exact{s5.trans<|s6.trans<|s7.trans s8,p7,_,_,_,rfl,(s5.trans<|s6.trans s7).free hp7,e7,λh=>absurd h (by lia),λg=>{p5,p6,rfl,by rw[pl0];exact s8 _ _<|s7 _ _ e5,by rw[pl3];exact s8 _ _ e6}}
   ·rw[if_neg hy];exact keep _ λh=>by rw[h,e0]at e;cases e;exact hy rfl
  |mk j=>rw[show M.f 0 i=_ from e]at okc;exact okc.elim
  |rc j k=>rw[show M.f 0 i=_ from e]at okc;exact okc.elim
  |tx j=>rw[show M.f 0 i=_ from e]at okc;exact okc.elim
 obtain⟨s2,pl,y5,y6,xs,rfl,BV,el,g,h2⟩:=h;obtain⟨t1,t2,rfl,e4,e5⟩:=h2 BC
 have I2:=I.same s2;obtain⟨db,eb⟩:=I2.st.bk.bk.ob;push_cast[↓wZ_]
 have hr3:rec<BJ X.n X.r X.c X.w 3:=by simpa [BJ]using hr
 refine y2 {eb,CT (by decide),CY (SqL.of el) (n:=1) rfl rfl (x9 X.S.A X.w X.rows X.nn cs X.outs t2 _ _ {rfl,T,TP,I2.st.bk,e5,λg v H3 hv s3=>?_,λh=>absurd (I2.st.onPl (kind:=3) (by decide) hr3) h})}
 have I3:=I2.same s3;obtain⟨v',ev,rv⟩:=I3.st.val (kind:=3) (by decide) hr3;obtain rfl:=μ<|hv.symm.trans ev;rw[show M.f 3 rec=_ from e3]at rv;obtain⟨tt,u,rfl,et3,eu⟩:=rv
 have jS:=s2.trans s3;refine BB et3 (n:=1) rfl rfl (.inr {{_,SqT.of eu},?_})
 have npl:pl≠u:=BH (s3 _ _ el) eu (by intro z;cases z);refine WJ (xs:=AM ps) (DuQ H3 X t pl z y5 y6 cell rec ps) {λg g e g=>e,_,[t1,t2],rfl,s3 _ _ el,.cons (s3 _ _ e4) (.cons (s3 _ _ e5) .nil)} (λi σ H' g h=>SqT.of<|h.1 _ _ eu npl.symm) (λi v σ H' ev h=>?_) (λσ H' h=>?_)
 ·obtain⟨sb,y7,ts,rfl,el2,P⟩:=h;unfold AM at ev;rw[τ,aa]at ev;obtain⟨p,ep,rfl⟩:=ev;push_cast[↓wY_]
  have wi:(0:Int)<X.w:=by lia
  have npt:t≠pl:=λh=>by rw[h,BV]at et;cases et
  have et':=sb _ _ (jS _ _ et) npt
  have lt:ts.length<=30:=by
   have:=P.length;simp[DH]at this
   lia
  refine{.inl {rfl,_,SqL.of el2},BB et' (n:=0) rfl rfl (BB et' (n:=1) rfl rfl ?_)};push_cast[];refine{{wi,by lia},wi,by decide,λp' hp'=>?_};obtain⟨H5,zz0,s6,e6⟩:=C4 (o:=.tup [.int ((X.n:Int)+X.r+(p:Int)/X.w),.int<|(p:Int)%X.w]) hp';rw[zz0];refine{_,s6 _ _ el2,by rw[ζ,sx];lia,?_};refine{λy o ey n=>by rw[AI n];exact s6 _ _<|sb _ _ ey n,_,ts++[p'],rfl,by rw[AF,ai];rfl,?_};rw[ci,ep]
  have ne:∀ {x:Addr} {l:Oq},H5 x=some (.tup l)->x≠pl:=λh=>BH h (s6 _ _ el2) (by intro z;cases z)
  have:=Paired.snoc (F:=λt p=>upd H5 pl (.lst<|ts.map V.ref++[.ref p']) t=some (.tup<|JD X p)) (Paired.mapP P λt p h=>by rw[AI (ne<|s6 _ _ h)];exact s6 _ _ h) (a:=p') (b:=(4,p)) (by rw[AI (ne e6)];exact e6);simpa [DH]using this
 obtain⟨sb,y7,ts,rfl,el2,P⟩:=h;rw[dz (by simp[AM])]at P;push_cast[↓w5_,↓xA_];refine{by decide,λnb hnb=>?_};obtain⟨H4,zz0,s4,en⟩:=C4 (o:=.lst []) hnb;rw[zz0]
 have el4:=s4 _ _ el2
 have nlb:pl≠nb:=BI el2 hnb
 have P4:=Paired.mapP P λt p h=>s4 _ _ h
 have on:∀ p∈DH cell rec ps,p.1<5/\p.2<BJ X.n X.r X.c X.w p.1:=λp hp=>by
  unfold DH at hp;rcases aj.mp hp with rfl|hp
  ·exact{by show 0<5;decide,BC}
  ·rcases aj.mp hp with rfl|hp
   ·exact{by show 3<5;decide,hr3}
   ·obtain⟨k,hk,rfl⟩:=av.mp hp;exact{by show 4<5;decide,by simpa [BJ]using p1 k hk}
 have Ib:C6 a H' X cs tks M:=I3.sbG (G:=(· =pl)) sb (λx hx=>by rw[hx];exact LA<|s3 _ _ el) λx hx=>by rw[hx];exact{I.st.bk.off BV,λh=>by rw[h,I.st.tk]at BV;cases BV}
 have I4:=Ib.same s4
 have fb:∀ x,x=nb->¬ X.S.A.F x/\x≠X.S.tk:=λx hx=>by rw[hx];exact{Ib.st.bk.off hnb,λh=>by rw[h,Ib.st.tk]at hnb;cases hnb}
 refine .inl {{_,SqL.of el4},EV (xs:=ts.map V.ref) (DuR H4 X cs t pl nb z y5 y6 y7<|DH cell rec ps) {λg g e g=>e,en,_,rfl} (λi σ H' g h=>SqL.of<|h.1 _ _ el4 nlb) (λi v σ H' ev h=>?_) (λσ H' h=>?_)}
 ·obtain⟨E7,en5,y9,rfl⟩:=h;rw[τ,aa]at ev;obtain⟨x,ex,rfl⟩:=ev;obtain⟨p,ep,hx⟩:=KM P4 ex;obtain⟨o1,o2⟩:=on p (θ ep)
  have I5:C6 a H' X cs tks M:=I4.sbG (G:=(· =nb)) E7 (λx hx=>by rw[hx];exact LA en) fb;obtain⟨db5,eb5⟩:=I5.st.bk.bk.ob;push_cast[↓w9_]
  have ex5:=E7 _ _ hx (BH hx en (by intro z;cases z))
  have nt:EY X cs ((DH cell rec ps).take (i+1))=EY X cs ((DH cell rec ps).take i)++EY X cs [p]:=by
   unfold EY;rw[ci,ep,zh];rfl
  have ln:(EY X cs<|(DH cell rec ps).take i).length<=100:=by
   refine ω (fu _ _) ?_;rw[ce];simp[DH];lia
  refine y2 {eb5,CT (by decide),x9 X.S.A X.w X.rows X.nn cs X.outs x _ _ {rfl,T,TP,I5.st.bk,ex5,λg=>?_,λh=>absurd (I5.st.onPl o1 o2) h}};cases e9:DR cs (BG X.n X.r X.c X.w p.1 p.2:Nat) (p.2%X.w:Nat)with
  |none =>
   rw[if_neg (by simp[NS])]
   have n0:EY X cs [p]=[]:=by unfold EY;simp only[jh,C_,e9,Option.map_none]
   exact{E7,by rw[nt,en5,n0,il],_,rfl}
  |some k =>
   rw[if_pos (by simp[NS])];push_cast[↓w8_];refine{.inl {rfl,_,SqL.of en5},y2 {eb5,CT (by decide),x9 X.S.A X.w X.rows X.nn cs X.outs x _ _ {rfl,T,TP,I5.st.bk,ex5,λg=>?_,λh=>absurd (I5.st.onPl o1 o2) h}}};rw[e9];refine{_,en5,by rw[ζ,sx];lia,λy o ey n=>by rw[AI n];exact E7 _ _ ey n,?_,_,rfl}
   have n0:EY X cs [p]=[(k:Int)]:=by unfold EY;simp only[jh,C_,e9,mf]
   rw[AF,nt,n0,ai];rfl
 ·obtain⟨E7,en5,y9,rfl⟩:=h;push_cast[↓xB_];rw[show(DH cell rec ps).take (ts.map V.ref).length=DH cell rec ps by rw[ζ,P.length,bz]]at en5
  have I5:C6 a H' X cs tks M:=I4.sbG (G:=(· =nb)) E7 (λx hx=>by rw[hx];exact LA en) fb
  have sH:Same H H':=λy o ey=>E7 _ _ (s4 _ _ (sb _ _ (jS _ _ ey) λh=>by rw[h,BV]at ey;cases ey)) λh=>by
   have:=sb _ _ (jS _ _ ey) λh=>by rw[h,BV]at ey;cases ey
   rw[h,hnb]at this;cases this
  have ln:(EY X cs<|DH cell rec ps).length<=100:=by
   refine ω (fu _ _) ?_;simp[DH];lia
  refine x8 X.S.A X.w X.rows X.nn cs X.outs nb _ {rfl,T,I5.st.bk,SqL.of en5,by lia,λg l row R H8 c1 c2 c3 c4 s8 e8=>q l row R H8 c1 c2 c3 (sH.free c4) (sH.trans s8) e8,λh=>?_};obtain⟨x,hx,nx⟩:=h;exfalso;obtain⟨p,g,ex⟩:=ix.mp hx;obtain⟨k,ek,rfl⟩:=aa.mp ex;exact nx {by lia,by have:=MF ek;lia}
def Hl{z:Str}(h:IB z=true):z.length<=40/\gk z=true:=by
 unfold IB at h;simp only[cb,decide_eq_true_eq]at h;refine{h.1.2,?_};unfold gk;rw[<-yf,jo];intro c hc
 have:=jo.mp h.2 c hc;unfold LD at this
 lia
example:(zw2,UJ,zI,7):=by
 apply u7;rintro X cs tks M x nl zs ⟨rfl,T4,TH,I0,hcs,hn0,nm,q0⟩;refine{{by decide,by decide},x2 (x/8) 4 {rfl,by decide,λl xs H1 hl s1 el EG hx=>?_}}
 have I:=I0.same s1
 have hn:Q1 H1 nl zs:={s1 _ _ hn0.1,hn0.2}
 have q:∀ (d:Bool) (cs':z8) (tks':tS) (M':Hs) (H':Hp),C6 a H' X cs' tks' M'->cs'.length+DO (X.c*X.w) M'<=cs.length+DO (X.c*X.w) M+4->KJ M' zs->SameBut (λx=>X.S.A.F x\/x=X.S.tk) H1 H'->Q (.bl d) H':=λd cs' tks' M' H' z3 z4 z5 z6=>q0 d cs' tks' M' H' z3 z4 z5 λy o e n=>z6 _ _ (s1 _ _ e) n;refine F5 (k:=0) el (EG ▸ by decide) λy0 u=>?_;push_cast[];refine U3 hn λy hy=>(F5 (k:=1) el (EG ▸ by decide) λy1 u=>?_)
 push_cast[];refine U3 hn λz hz=>?_;push_cast[↓yZ_,↓zH_];obtain⟨dx,ho⟩:=I.st.ob
 have nl8:∀ {y:Str},BO y=true->True/\y.length<=8:=λh=>by
  unfold BO at h;simp only[cb,decide_eq_true_eq]at h;exact⟨trivial,h.1.2⟩
 have sy:=nl8<|hn.2.2 y hy;obtain⟨o,hi⟩:=I.hi
 have len:=I.st.la.len
 have sz:=nl8<|hn.2.2 z hz
 have fin:∀ (d:Bool) (cs':z8) (tks':tS) (M':Hs) (H':Hp),C6 a H' X cs' tks' M'->cs'.length+DO (X.c*X.w) M'<=cs.length+DO (X.c*X.w) M+4->KJ M' zs->SameBut (λx=>X.S.A.F x\/x=X.S.tk) H1 H'->Q4 K a (λu=>E) (λu=>E) (AX Q) [some (.ref X.S.st),some<|.int x,some<|.ref nl,some<|.ref l,some<|.str y,some<|.str z,some<|.bl d] H':=λd cs' tks' M' H' C hb D sb=>by
  push_cast[↓Q4_];exact q d cs' tks' M' _ C hb D sb
 have sd:=I.now
 have bad:∀ c:String,(c="NoName"\/c="Twice"\/c="NoPiece"\/c="NoRoom")->∀ H',Same H1 H'->WD (λcls=>va K cls<|.ref<|a "HoldError") (aF K a (λu=>E) λu=>E) SC (.ref<|a c) { nx:=Q4 K a (λu=>E) (λu=>E) (AX Q),rt:=Q,bk:=(AX Q).bk,ct:=(AX Q).ct } [some (.ref X.S.st),some<|.int x,some<|.ref nl,some<|.ref l,some<|.str y,some<|.str z,some<|.bl true] H':=λc hc H' s=>by
  refine .inl {TH.h c hc,?_};push_cast[↓aF_];exact fin false cs tks M H' (I.same s) (yb _ _) nm (Same.sb s)
 have good:∀ {ex:z8} {tks':tS} {M':Hs} {H':Hp} {d:Nat},ex.length=d->d+DO (X.c*X.w) M'<=DO (X.c*X.w) M+4->X.at a H' (cs++ex) tks' M'->(∃ o,Hist X.m0 M'.b M'.as (LN tks') o)->M'.b=M.b->(∃ es,M'.as=es++M.as/\∀ x∈es,DX x.kind x.x/\∀ z r,x.x=.nm z r->z∈zs)->  SameBut (λx=>X.S.A.F x\/x=X.S.tk) H1 H'->Q4 K a (λu=>E) (λu=>E) (AX Q) [some (.ref X.S.st),some<|.int x,some<|.ref nl,some<|.ref l,some<|.str y,some<|.str z,some<|.bl true] H':=λhl hd I' h3 h4 ⟨es,e5,h5⟩ sb=>fin true _ _ _ _ (I.more I' sb h3 h4 {es,e5,λx hx=>(h5 x hx).1}) (by rw[af,hl];lia) {h4 ▸ nm.b,λx hx z r e=>(a_.mp<|e5 ▸ hx).elim (λh=>(h5 x h).2 z r e) λh=>nm.s x h z r e} sb;push_cast[↓zG_];by_cases k1:x%8<2;refine FZ k1<|y2 {ho,BZ,x5 X cs tks M y {rfl,T4,I.st,oA sy.2 rfl,oA hcs rfl,λu hc rec cell er ec hr BC ex v H' hl u u I' sb=>?_,λu H' s=>bad _ (.inl rfl) H' s,λu ⟨k,hc⟩ H' s=>bad _ (.inr<|.inl rfl) H' s,λu hc h H' s=>bad _ (.inr<|.inr<|.inr rfl) H' s}}
 have f0:=bE<|N7 ec
 have f1:=Fw (kind:=1) (N7 er);refine good hl ?_ I' ?_ rfl {[_,_,_],rfl,by simp[DX,hy,hz]} sb;rw[ER,ER,ER,FI (by decide),FI (by decide),FI (by decide)];lia
 have:=hi.make (z:=y) (nd:=(cs.length+1)::FG tks y) BC f0 (U0 hc) f1 (by rw[len];simp) λj h=>ρ _<|bD h;rw[<-len]at this;exact⟨_,this⟩;refine E5 k1 ?_;push_cast[↓zF_];by_cases k2:x%8=2;refine FZ k2<|y2 {ho,BZ,x6 X cs tks M y z {rfl,T4,I.st,oA sy.2 rfl,oA sz.2 rfl,oA hcs rfl,λu u hc old rec cell eo hol e0=>(u2 ?_<|I.rl hol e0),λu H' s=>bad _ (.inl rfl) H' s,λu u ⟨k,hc⟩ H' s=>bad _ (.inr<|.inl rfl) H' s,λu u u u H' s=>bad _ (.inl rfl) H' s,λu u u u u H' s=>bad _ (.inr<|.inr<|.inr rfl) H' s}};rintro m ps ⟨hr,e3⟩;refine{hr,x2 m ps {e3,by have:=(I.ps e3).2;exact oA this rfl,λec BC ex v H' hl u u I' sb=>?_}}
 have f0:=bE<|N7 ec;refine good hl ?_ I' ?_ rfl {[_,_],rfl,by simp[DX,hy,hz]} sb;rw[ER,ER,FI (by decide),FI (by decide)];lia
 have:=hi.link (z:=z) (nd:=cs.length::FG tks z) BC f0 (U0 hc) e3 (by rw[len];simp) λj h=>ρ _<|bD h;exact⟨_,this⟩;refine E5 k2 ?_;push_cast[↓zE_];by_cases k3:x%8<5;refine FZ k3 (y2 {ho,BZ,F5 (k:=2) el (EG ▸ by decide) λy2 u=>{y2,rfl,λt H2 po s2=>(x6 X cs tks M y t {rfl,T4,I.st.same s2,oA (Hl po).1 rfl,(Hl po).2,oA hcs rfl,λcell rec ec BC e0 u p ep hp=>(u2 ?_<|I.rl BC e0),λhc H' s=>bad _ (.inl rfl) H' (s2.trans s),λu u H' s=>bad _ (.inr<|.inr<|.inl rfl) H' (s2.trans s),λu u u H' s=>bad _ (.inr<|.inr<|.inr rfl) H' (s2.trans s)})}});rintro m ps ⟨hr,e3⟩
 have p2:=(I.ps e3).2;refine{hr,x2 m ps {e3,oA p2 rfl,λex v H' hl u u I' sb=>(good hl ?_ I' ?_ rfl {[_,_,_],rfl,by simp[DX,hy,hz]} λb o e n=>sb _ _ (s2 _ _ e) n)}};rw[ER,ER,ER,FI (by decide),FI (by decide)]
 have:=bG (S:=M.f) (x:=.mk 1) hp
 lia
 have:=hi.put (x:=t) (Fw (kind:=2) (N7 ep)) e3;rw[<-len]at this;exact⟨_,this⟩;refine E5 k3 ?_;push_cast[↓zD_];by_cases k5:x%8=5;refine FZ k5 ?_;refine y2 {ho,BZ,F5 (k:=2) el (EG ▸ by decide) λy2 u=>?_};push_cast[];refine x6 X cs tks M y _ {rfl,T4,I.st,oA hcs rfl,λcell rec ec BC e0=>(u2 ?_<|I.rl BC e0),λhc H' s=>bad _ (.inl rfl) H' s};rintro m ps ⟨hr,e3⟩;obtain⟨p1,p2⟩:=I.ps e3;refine{hr,x2 m ps {e3,oA p2 rfl,λhx H' s=>bad _ (.inr<|.inr<|.inl rfl) H' s,λk p ek ep=>{p1 p<|θ ep,λex v H' hl u u I' sb=>(good hl ?_ I' ?_ rfl {[_,_],rfl,by simp[DX,hy,hz]} sb)}}}
 ·rw[ER,ER]
  have:=bG (S:=M.f.put 3 rec<|.rc m<|ps.eraseIdx k) (x:=.mk 0) (p1 p<|θ ep)
  have e3':DO (X.c*X.w) (M.f.put 3 rec<|.rc m<|ps.eraseIdx k)=DO (X.c*X.w) M.f:=FI (by decide)
  have:(if NZ (.mk 0)=true then 1 else 0)=0:=rfl
  lia
 have:=hi.take e3 ep;rw[<-len]at this;exact⟨_,this⟩;refine E5 k5 ?_;push_cast[↓zC_];by_cases k6:x%8=6
 ·refine FZ k6 ?_;push_cast[↓zA_];refine y2 {ho,BZ,x6 X cs tks M y z {rfl,T4,I.st,oA sy.2 rfl,oA sz.2 rfl,oA hcs rfl,λu u hc old rec cell eo hol e0=>?_,λu H' s=>bad _ (.inl rfl) H' s,λu u ⟨k,hc⟩ H' s=>bad _ (.inr<|.inl rfl) H' s,λu u u u H' s=>bad _ (.inl rfl) H' s,λu u u u u H' s=>bad _ (.inr<|.inr<|.inr rfl) H' s}};refine u2 ?_<|I.rl hol e0;rintro m ps ⟨hr,e3⟩;refine{hr,x2 m ps {e3,by have:=(I.ps e3).2;exact oA this rfl,λec BC ex v H' hl u u I' sb=>?_}}
  have f0:=bE<|N7 ec;refine good hl ?_ I' ?_ rfl {[_,_,_,_],rfl,by simp[DX,hy,hz]} sb
  ·rw[ER,ER,ER,ER,FI (by decide),FI (by decide),FI (by decide),FI (by decide)];lia
  have noc:old≠cell:=λe=>by rw[e,f0]at e0;cases e0
  have l1:=hi.link (z:=z) (nd:=cs.length::FG tks z) BC f0 (U0 hc) e3 (by rw[len];simp) λj h=>ρ _<|bD h
  have l2:=l1.unlead (z:=y) (nd:=[cs.length+1]) (m:=m) (ps:=ps) hol (by rw[IA,DM noc,IA,MK (by simp)];exact e0) (by rw[IA,MK (by simp),IA,CU])
  have l3:({0,cell,.nm z rec,cs.length::FG tks z}::{3,rec,.rc (m+1) ps,[]}::M.as:Oz).length=cs.length+2:=by rw[len];rfl
  rw[l3]at l2;rw[bC];exact⟨_,l2⟩
 refine E5 k6 ?_;push_cast[↓zB_];refine y2 {ho,BZ,x5 X cs tks M y {rfl,T4,I.st,oA hcs rfl,λcell rec ec BC e0=>?_,λhc H' s=>bad _ (.inl rfl) H' s}};refine u2 ?_<|I.rl BC e0;rintro m ps ⟨hr,e3⟩;obtain⟨p1,p2⟩:=I.ps e3;refine{hr,x2 m ps {e3,p1,oA p2 rfl,λhm ex v H' hl u u I' sb=>good hl ?_ I' ?_ rfl {[_,_],rfl,by simp[DX,hy,hz]} sb,λhm ex v H' hl u u I' sb=>good hl ?_ I' ?_ ?_ ?_ sb}}
 ·rw[ER,ER,FI (by decide),FI (by decide)];lia
 ·obtain⟨m',rfl⟩:∃ m',m=m'+1:={m-1,by lia}
  have:=hi.unlead (nd:=[]) BC e0 e3;rw[<-len]at this;rw[bC];exact⟨_,this⟩
 ·rw[ER,FI (by decide)]
  have:=Gq (c:=X.c*X.w) (d:=cs.length+1) (ps:=ps) (M:=(M.put 0 cell .no []).put 3 rec .no [cs.length]) (sd.nd rec m ps e3) λp hp=>{p1 p hp,(sd.pm rec m ps e3 p hp).1}
  rw[ER,ER,FI (by decide),FI (by decide)]at this
  lia
 ·have:=hi.dropped (nd:=[]) BC e0 e3 hm;rw[<-len]at this;rw[bC];refine{EL o y cs.length,?_}
  show Hist X.m0 (Hs.unmark _ _ _).b ({1,rec,.mk 0,[cs.length+1]}::(Hs.unmark _ _ _).as) _ _;rw[RH.1,RH.2];exact this
 ·exact RH.2
 ·refine{{1,rec,.mk 0,[cs.length+1]}::((ps.map λp=>({2,p,.mk 0,[cs.length+1]}:AC)).reverse++[{3,rec,.no,[cs.length]},{0,cell,.no,[]}]),?_,λx hx=>?_}
  ·show{1,rec,.mk 0,[cs.length+1]}::(Hs.unmark _ _ _).as=_;rw[RH.1];simp[Hs.put]
  ·simp only[aj,a_,Ii,av,bx,or_false]at hx;rcases hx with rfl|⟨p,_,rfl⟩|rfl|rfl<;>simp[DX]
def Hm{cs:z8}:∀ {row row':t3} {outs:qW} {left:t3},EX cs outs left row->EX cs outs left row'->row=row':=by
 intro row row' outs left h h'
 induction h generalizing row' with
 |nil=>cases h';rfl
 |cons e h ih =>
  cases h' with|cons e' h' =>
  rw[e]at e';obtain rfl:=μ e';rw[ih h']
def zw3{cs:z8}{outs R:qW}{b:Nat}{row:t3}(hn:∀ (k:Nat) (c:Ch),cs[k]? =some c->∀ x∈c.nd,0<=x/\x<k)(up:∀ (k:Nat) (c:Ch),cs[k]? =some c->outs k=false->R k=true->∀ y∈c.nd,R y=true)(h:EX cs outs (D1 cs.length outs R) (b::row)):(outcome cs outs (λ_=>false) b).out≠[]/\EX cs (C3 cs outs b) (D1 cs.length (C3 cs outs b) R) row:=by
 generalize e:D1 cs.length outs R=L at h;cases h with
 |@cons _ k r _ c ec h =>
  refine{λz=>?_,by rw[<-pK,e];exact h}
  have hk:=pL hn up e ec
  have ho:=(NQ.mp (show k∈D1 cs.length outs R by rw[e];exact χ)).2.1;rw[pJ,z]at hk;rcases hk with hk|hk
  ·rw[ho]at hk;cases hk
  ·cases hk
def zw4{p q:Addr}{xs ys:Oq}{Q:VK}(h1:H p=some (.lst xs))(h2:H q=some (.lst ys))(hl:xs.length+ys.length<=1000)(k:∀ r,H r=none->Q (.ref r) (upd H r<|.lst<|xs++ys)):BD K (.ref p) (.ref q) H Q:=by
 rw[mH];exact .inl {p,q,xs,ys,rfl,rfl,h1,h2,ω hl (by decide),k}
example:(zw5,Y8,ZY,8):=by
 apply U8;rintro X cs tks M t z cell rec m ps ts ⟨rfl,T4,I,et,BC,e0,e3,P,q⟩;obtain⟨T,TP,TL,TS⟩:=T4
 have w1:=I.w1;obtain⟨hn,hr,hc,hw,rl⟩:=I.st.sz
 have sd:=I.snd
 have bo:=I.inl X.C
 have P0:=I.st.bk.pk
 have pv:=I.rows.plv P0 w1 rl bo<|Gm P0 w1 I.st.sz I.few I.st.gd.1 I.rows bo sd;generalize evw:BU X.n X.r X.c X.w (sh M.b X.C M.as)=vw at pv;obtain⟨⟨v1,v2,v3,v4,v5,ef,P1,P2,P3,v,v⟩,ln,lr,lp,ok⟩:=pv
 have l2:=P2.length.trans lr
 have l1:=P1.length.trans ln
 have b2:=gy hr hw
 have b1:=gy hn hw
 have fl:(X.rows.take<|X.n+X.r+X.c).flatten=v1++v2++v3:=by
  have e:=congrArg List.flatten (iu (X.n+X.r+X.c) X.rows).symm;rw[Bi,ef,dw<|v1++v2++v3]at e;refine(List.append_inj e ?_).1.symm;rw[OE λx hx=>P0.wd x<|vc hx,ce,rl,rf (by lia),af,af,l1,l2,(P3.length.trans lp),di,di]
 have fb:∀ i,(X.rows.take i).flatten.length<=200:=λi=>by
  rw[OE λx hx=>P0.wd x<|vc hx,ce];refine ω (gy (ω (Im ..) (by rw[rl];lia:X.rows.length<=30)) hw) (by decide)
 push_cast[ZY,↓vX_,↓vZ_];refine{by decide,λf0 hf0=>?_};obtain⟨H1,zz0,s1,e1⟩:=C4 (o:=.lst []) hf0;rw[zz0];refine BB (s1 _ _ et) (n:=0) rfl rfl (BB (s1 _ _ et) (n:=1) rfl rfl ?_);push_cast[];refine BB (s1 _ _ et) (n:=2) rfl rfl ?_;push_cast[];rw[show((X.n:Int)+X.r+X.c)=((X.n+X.r+X.c:Nat):Int)from rfl,b_];refine{by lia,by lia,NG (λi σ H'=>∃ f,(Same H H'/\H' f=some (.lst (X.rows.take i).flatten))/\∃ y4,σ=[some (.ref X.S.A.gp),some<|.ref t,some<|.str z,some<|.ref f,y4,none,none,none]) {f0,⟨s1,e1⟩,_,rfl} (λi σ H' hi hzz=>?_) (λσ H' hzz=>?_)}
 ·obtain⟨f,⟨s,ef⟩,y3,rfl⟩:=hzz
  have P:=P0.same s;obtain⟨dp,ep⟩:=P.ob;push_cast[↓vY_,l8];refine x2 _ _ {ep,HZ _ _ _ (by decide +kernel) (by decide +kernel) (by decide +kernel),x6 X.S.A.gp _ X.w X.rows _ i {rfl,TP,P,λj row ej er l hl=>?_,λz=>by lia}};obtain⟨H2,zz,s2,e2⟩:=C4 (o:=.lst row) hl;rw[zz];cases Int.ofNat_inj.mp ej;refine zw4 (s2 _ _ ef) e2 (by have:=fb i;have:=P0.wd row<|θ er;lia) λf2 hf2=>{(s.trans s2).trans (AL hf2),f2,?_,rfl}
  rw[AF,ci,er,Bi];simp
 obtain⟨f,⟨s,ef⟩,y3,rfl⟩:=hzz;rw[fl]at ef
 have et1:=s _ _ et
 have mu:∀ {p:Nat},p<=12->CMul (p:Int) (X.w:Int):=λhp=>.inl {by lia,by lia};push_cast[↓v0_];refine BB et1 (n:=0) rfl rfl (BB et1 (n:=3) rfl rfl ?_);push_cast[];refine{mu (by lia),S0 (SqL.of ef) λrp hrp=>?_};rw[<-jz,XL _ (by lia),b_,dw,<-l1,As];obtain⟨H2,zz0,s2,e2⟩:=C4 (o:=.lst<|v2++v3) hrp;rw[zz0]
 have et2:=s2 _ _ et1;push_cast[↓v6_];refine BB et2 (n:=0) rfl rfl (BB et2 (n:=1) rfl rfl ?_);push_cast[];refine BB et2 (n:=3) rfl rfl ?_;push_cast[];refine{mu (p:=X.n+X.r) (by lia),S0 (SqL.of<|s2 _ _ ef) λpp hpp=>?_};rw[show((X.n:Int)+X.r)*X.w=((X.n*X.w+X.r*X.w:Nat):Int) by rw[<-di];exact(jz _ _).symm,XL _ (by lia),b_,show X.n*X.w+X.r*X.w=(v1++v2).length by rw[af,l1,l2],As];obtain⟨H3,zz0,s3,e4⟩:=C4 (o:=.lst v3) hpp;rw[zz0]
 have et3:=s3 _ _ et2;push_cast[↓v7_];refine BB et3 (n:=0) rfl rfl (BB et3 (n:=3) rfl rfl ?_);push_cast[];refine{mu (by lia),S0 (SqL.of<|s3 _ _<|s2 _ _ ef) λcp hcp=>?_};rw[<-jz,oU _ (by lia),b_,dw,<-l1,Ls];obtain⟨H4,zz0,s4,e5⟩:=C4 (o:=.lst v1) hcp;rw[zz0]
 have S4:Same H H4:=s.trans<|s2.trans<|s3.trans s4
 have LX:=s4 _ _<|s3 _ _ e2
 have ep4:=s4 _ _ e4;push_cast[]
 have at1:∀ {i:Nat} {x:V},v1[i]? =some x->i<X.n*X.w/\NmV H4 x (LP<|sh M.b X.C M.as 0 i):=λ{i x} ex=>by
  obtain⟨c,ec,hx⟩:=KM P1 ex
  have hi:i<X.n*X.w:=by rw[<-l1];exact(ε.mp ex).1
  rw[<-evw]at ec
  have ec:LP (sh M.b X.C M.as 0 i)=c:=by simpa [BU,hi]using ec
  exact{hi,by rw[ec];exact NmV.keep S4.tk hx}
 have ty:∀ {i:Nat} {x:V},v1[i]? =some x->(i≠cell/\x=.non)\/∃ y k p,x=.ref p/\H4 p=some (.tup [.str y,.int (k:Nat)])/\decide (y=z)=decide (i=cell)/\(i=cell->k=rec):=λ{i x} ex=>by
  obtain⟨hi,hx⟩:=at1 ex;cases e:sh M.b X.C M.as 0 i with
  |nm y k =>
   rw[e]at hx;obtain⟨p,rfl,hp⟩:=hx;refine .inr {y,k,p,rfl,hp,?_,λh=>by rw[h,e0]at e;cases e;rfl};rw[decide_eq_decide];exact{λh=>sd.un i cell z k rec hi BC (h ▸ e) e0,λh=>by rw[h,e0]at e;cases e;rfl}
  |_ =>
   rw[e]at hx;exact .inl {(λh=>by rw[h,e0]at e;cases e),hx}
 refine .inl {{_,SqL.of e5},W8 (xs:=v1) (λi=>decide<|i=cell) (CC _ (by rw[l1];lia)) (λi ys H'=>H'=H4/\ys=if cell<i then [.int (rec:Nat)]else []) ⟨rfl,rfl⟩ (λi ys H' v h=>{h.1 ▸ SqL.of e5,by rw[h.2];split<;>simp;lia}) (λi x ys H' ex h QB qb=>?_) (λi x ys H' ex hi h=>?_) (λi x ys H' ex hi h=>?_) (λys H' h=>?_)}
 ·obtain⟨rfl,rfl⟩:=h;rcases ty ex with⟨ne,rfl⟩|⟨y,k,p,rfl,hp,hd,_⟩
  ·push_cast[CO];rw[decide_eq_false ne]at qb;exact qb
  ·push_cast[CO];refine BB hp (n:=0) rfl rfl ?_;push_cast[];rw[hd];exact qb
 ·obtain⟨rfl,rfl⟩:=h;obtain rfl:i=cell:=of_decide_eq_true hi;rcases ty ex with⟨ne,_⟩|⟨y,k,p,rfl,hp,_,hk⟩
  ·exact absurd rfl ne
  ·obtain rfl:=hk rfl;push_cast[CO];exact BB hp (n:=1) rfl rfl {rfl,by simp}
 ·obtain⟨rfl,rfl⟩:=h
  have:i≠cell:=by simpa using hi
  exact{rfl,by congr 1;simp;lia}
 ·obtain⟨rfl,rfl⟩:=h;rw[l1,if_pos BC];intro np hnp;obtain⟨H5,zz0,s5,e6⟩:=C4 (o:=.lst [.int (rec:Nat)]) hnp;rw[zz0];push_cast[↓v8_]
  have KQ:rec<X.r*X.w:=by
   obtain⟨v,v,h,v⟩:=sd.rl bo BC e0;exact h
  have S5:=S4.trans s5
  have er5:=s5 _ _ LX
  have ep5:=s5 _ _ ep4;obtain⟨x,ex,hx⟩:∃ x,v2[rec]? =some x/\RcV H5 x (some ((m:Int),ps)):=by
   have hl:rec<v2.length:=by rw[l2];exact KQ
   obtain⟨c,ec,hx⟩:=KM P2<|η hl;rw[<-evw]at ec
   have ec:LQ (sh M.b X.C M.as 3 rec)=c:=by simpa [BU,KQ]using ec
   rw[e3]at ec;exact{_,η hl,by rw[show(some ((m:Int),ps):IC)=c from ec];exact RcV.keep S5.tk hx}
  have OL:(v2++v3)[rec]? =some x:=by rw[ba (by rw[l2];exact KQ)];exact ex
  refine{1,.inl {_,SqL.of e6,rfl},?_};rw[if_neg (by simp)];refine CY (SqL.of e6) (n:=0) rfl rfl (CY (SqL.of er5) (n:=rec) rfl OL ?_);obtain⟨p,u,rfl,hp,hu⟩:=hx;rw[if_neg (by simp)];push_cast[↓v9_];refine CY (SqL.of e6) (n:=0) rfl rfl (CY (SqL.of er5) (n:=rec) rfl OL (BB hp (n:=1) rfl rfl ?_));push_cast[];obtain⟨f1,f2⟩:=sd.few bo e3
  have few:=I.few;refine .inr {{_,SqT.of hu},UR (xs:=AM ps) (CC _ (by simp[AM];lia)) (λi ys H'=>H'=H5/\ys=(ts.take i).map V.str) ⟨rfl,rfl⟩ (λi ys H' v h=>h.1 ▸ SqT.of hu) (λi x ys H' ex hl h=>?_) (λys H' hl h lp hlp=>?_)}
  ·obtain⟨rfl,rfl⟩:=h;unfold AM at ex;rw[τ,aa]at ex;obtain⟨p,ep,rfl⟩:=ex;obtain⟨tx,etx,htx⟩:=KM P ep
   have hp4:=f1 p<|θ ep
   have hl3:p<v3.length:=by rw[P3.length.trans lp];exact hp4
   obtain⟨c,ec,hx⟩:=KM P3<|η hl3;rw[<-evw]at ec
   have ec:NX (sh M.b X.C M.as 4 p)=c:=by simpa [BU,hp4]using ec
   rw[htx]at ec;rw[<-ec]at hx
   have hx:v3[p]=.str tx:=hx;push_cast[CO];refine CY (SqL.of ep5) (n:=p) rfl (by rw[η hl3,hx]) {rfl,?_};rw[ci,etx,ai];rfl
  ·obtain⟨rfl,rfl⟩:=h;exact q lp _ (S5.free hlp) (S5.trans<|AL hlp) (by rw[AF,dz (by simp[AM,P.length])])
theorem Hq{cs:z8}{m:Nat}(h:∀ c∈cs,c.blk<m):∀ {row:t3} {outs:qW} {left:t3},EX cs outs left row->∀ b∈row,b<m
 | [],_,_,_=>λb hb=>by cases hb
 |b0::row,outs,left,r=>by
  obtain⟨k,c,e,rfl,r'⟩:=Hc r;intro b hb;rcases aj.mp hb with rfl|hb
  ·exact h c<|θ e
  ·exact Hq h r' b hb
def HeldAt.same{hl:Addr}{F:zV}{ps:uA}{H H':Hp}(h:HeldAt H hl F ps)(s:Same H H'):HeldAt H' hl F ps:={s _ _ h.e,λp hp=>{s _ _ (h.v p hp).1,s _ _ (h.v p hp).2.1,s _ _ (h.v p hp).2.2.1,(h.v p hp).2.2.2},h.f}
def HeldAt.snoc{hl tp rl cl:Addr}{r:t3}{F:zV}{ps:uA}{H:Hp}(h:HeldAt H hl F ps)(e1:H tp=some (.tup [.ref rl,.ref cl]))(e2:H rl=some (.lst<|AM r))(e3:H cl=some (.lst<|AM r))(f1:¬ F rl)(f2:¬ F cl)(n1:rl≠hl)(n2:cl≠hl)(l:r.length<=1000):HeldAt (upd H hl<|.lst<|(ps.map λp=>V.ref p.1)++[.ref tp]) hl F (ps++[(tp,rl,cl,r)]):=by
 have nt:∀ {x:Addr} {ys:Oq},H x=some (.tup ys)->x≠hl:=λe z=>by rw[z,h.e]at e;cases e
 refine{by rw[AF];simp,λp hp=>?_,h.f};rcases a_.mp hp with hp|hp
 ·obtain⟨a1,a2,a3,a4,a5,a6,a7,a8⟩:=h.v p hp;exact{by rw[AI (nt a1)];exact a1,by rw[AI a6];exact a2,by rw[AI a7];exact a3,a4,a5,a6,a7,a8}
 ·obtain rfl:=ae.mp hp;exact{by rw[AI (nt e1)];exact e1,by rw[AI n1];exact e2,by rw[AI n2];exact e3,f1,f2,n1,n2,l}
theorem Hv{zs:tY}{b:Md}(hb:∀ k z r,b 0 k=.nm z r->z∈zs):∀ {as:Oz},(∀ x∈as,∀ z r,x.x=.nm z r->z∈zs)->∀ k z r,hnd b as 0 k=.nm z r->z∈zs
 | [],_,k,z,r,e=>hb k z r e
 |⟨kd,kk,v,nd⟩::as,hs,k,z,r,e=>by
  have e:(if 0=kd/\k=kk then v else hnd b as 0 k)=.nm z r:=e;split at e
  ·exact hs _ χ z r e
  ·exact Hv hb (λy hy=>hs y<|ρ _ hy) k z r e
def Hw{M:Hs}{zs:tY}{m:Nat}{y:Str}(nm:KJ M zs)(zok:∀ z∈zs,BO z=true)(h:BO y=false):cellOf M m y=none:=by
 refine aQ λj x=>?_;rw[D9];cases e:M 0 j with
 |nm z r =>
  have:=zok z<|Hv nm.b nm.s j z r e;simp only[Jo,decide_eq_false_iff_not];rintro rfl;rw[h]at this;cases this
 |_=>rfl
def U4{x y:Str}{c:Nat}(hc:c∈(x++y).cps.toList)(h:QI c=false):BO (x++y)=false:=by
 unfold BO;rw[List.all_eq_false.mpr {c,hc,by rw[h];exact ax},Af]
def BookAt.offT{a:Ad}{C:Addr}{H:Hp}{A:BA}{w:Nat}{rows:sT}{n:Nat}{cs:z8}{outs:qW}(B:BookAt a C H A w rows n cs outs){x:Addr}{xs:Oq}(h:H x=some (.tup xs)):¬ A.F x:=by
 obtain⟨⟨y,⟨chs,e2,y⟩,e4,e5,y,⟨kvs,e7,y⟩,⟨DQ,e9,y⟩,y⟩,⟨y,⟨ts,e11,y⟩,y⟩,y⟩:=B;rintro (z|z|z|z|z|z)
 ·rw[z,e2]at h;cases h
 ·rw[z,e4]at h;cases h
 ·obtain⟨i,hi,e⟩:=ik z
  have:=e5 i x (by rw[<-e];exact η hi);rw[this]at h;cases h
 ·rw[z,e7]at h;cases h
 ·rw[z,e9]at h;cases h
 ·rw[z,e11]at h;cases h
def HeldAt.sbF{X:SX}{cs:z8}{tks:tS}{M:Hs}{hl:Addr}{ps:uA}{H H':Hp}(I:C6 a H X cs tks M)(h:HeldAt H hl X.G ps)(s:SameBut (λx=>X.S.A.F x\/x=X.S.A.gp) H H'):HeldAt H' hl X.G ps:=by
 obtain⟨dp,ep⟩:=I.st.bk.pk.ob
 have g:∀ {x:Addr} {ys:Oq},H x=some (.lst ys)->¬ X.G x->¬ (X.S.A.F x\/x=X.S.A.gp):=λe n z=>z.elim (λz=>n<|.inl z) λz=>by rw[z,ep]at e;cases e
 have gt:∀ {x:Addr} {ys:Oq},H x=some (.tup ys)->¬ (X.S.A.F x\/x=X.S.A.gp):=λe z=>z.elim (I.st.bk.offT e) λz=>by rw[z,ep]at e;cases e
 refine{s _ _ h.e<|g h.e h.f,λp hp=>?_,h.f};obtain⟨a1,a2,a3,a4,a5,a6⟩:=h.v p hp;exact{s _ _ a1<|gt a1,s _ _ a2<|g a2 a4,s _ _ a3<|g a3 a5,a4,a5,a6}
def C6.off{X:SX}{cs:z8}{tks:tS}{M:Hs}(I:C6 a H X cs tks M){l:Addr}(h:H l=none):¬ X.G l:=λz=>z.elim (I.st.bk.off h) λz=>by rw[z,I.st.tk]at h;cases h
def C6.put{X:SX}{cs:z8}{tks:tS}{M:Hs}(I:C6 a H X cs tks M){l:Addr}{xs ys:Oq}(e:H l=some (.lst xs))(f:¬ X.G l):C6 a (upd H l<|.lst ys) X cs tks M :=
 I.sbG (G:=λx=>x=l) (λb u e' n=>by rw[AI n];exact e') (λx h=>by rw[h,e];exact⟨nofun,nofun⟩) λx h=>by rw[h];exact{λz=>f<|.inl z,λz=>f<|.inr z}
example:(zw6,UK,aJ,12):=by
 apply u9;rintro X cs tks M t z zs hl hs ⟨rfl,T4,TH,I,hcs,nm,zok,hz,⟨cell,rec,BC,e0⟩,et,Hd,hps,q⟩
 have T4':=T4;obtain⟨T,TP,TL,TS⟩:=T4;obtain⟨dx,ho⟩:=I.st.ob;obtain⟨dp,ep⟩:=I.st.bk.pk.ob;obtain⟨m,ps,hr,e3⟩:=I.rl BC e0;obtain⟨p1,p2⟩:=I.ps e3
 have ec:=I.cell BC e0;obtain⟨ts,P⟩:=Hb (c:=X.c*X.w) (M:=M) (ps:=ps) λp hp=>{p1 p hp,(I.now.pm rec m ps e3 p hp).2}
 push_cast[aJ,↓zQ_];refine y2 {ho,BZ,x5 X cs tks M z {rfl,T4',I.st,λcell' rec' ec' g e0'=>?_,λhc=>by rw[ec]at hc;cases hc}};rw[ec]at ec';cases ec';rw[e0]at e0';cases e0';refine{hr,m,ps,e3,oA p2 rfl,ts,P,λtl H1 htl s1 etl=>?_}
 have I1:=I.same s1;push_cast[↓zR_,↓zS_,↓zT_];obtain⟨dp1,ep1⟩:=I1.st.bk.pk.ob;refine y2 {ep1,HZ _ _ _ (by decide +kernel) (by decide +kernel) (by decide +kernel),x5 X.S.A.gp _ X.w X.rows X.nn {rfl,TP,I1.st.bk.pk,?_}};refine y2 {s1 _ _ ho,BZ,{_,_,_,_,_,rfl,TS,s1 _ _ ho,?_}};refine U7 X cs tks M t z cell rec m ps {rfl,T4',I1,by lia,s1 _ _ et,BC,e0,hr,e3,λdl row R H2 c1 c2 c3 hdl s2 edl=>?_}
 have I2:=I1.same s2;refine x5 X cs tks M z {rfl,T4',I2.st,λcell' rec' ec' g e0'=>?_,λhc=>by rw[ec]at hc;cases hc};rw[ec]at ec';cases ec';rw[e0]at e0';cases e0';refine{hr,m,ps,e3,oA p2 rfl,p1,λrl row' R' H3 d1 d2 d3 G5 s3 erl=>?_};obtain rfl:R=R':=funext λx=>o7 (λk c e x hx=>((I.st.bk.bk.need k c e).1 x hx).2) (λg=>Ju) c1 d1 x;obtain rfl:=Hm c2 d2
 have I3:=I2.same s3;push_cast[↓zU_];obtain⟨dp3,ep3⟩:=I3.st.bk.pk.ob;refine y2 {ep3,HZ _ _ _ (by decide +kernel) (by decide +kernel) (by decide +kernel),x5 X.S.A.gp _ X.w X.rows X.nn {rfl,TP,I3.st.bk.pk,?_}};refine x3 rl row X.rows.length {rfl,erl,by have:=I.st.bk.bk.sz;lia,Hq (λc hc=>I.st.bk.nb ▸ (I.st.bk.bk.inn c hc).1) c2,?_};push_cast[↓zU_];refine aN (xs:=AM row) (.inl<|.inl erl) (.inl<|.inl<|s3 _ _ edl) (λv hv=>?_) ?_
 ·obtain⟨x,hx,rfl⟩:=av.mp hv
  trivial
 push_cast[↓zW_];refine{_,.inl<|.inl<|.inl erl,λkl E8=>?_};push_cast[↓zX_]
 have rk:rl≠kl:=λz=>by rw[z,E8]at erl;cases erl
 have LX:upd H3 kl (.lst<|AM row) rl=some (.lst<|AM row):=by rw[AI rk];exact erl
 have len:row.length<=990:=by have:=I.st.bk.bk.sz;lia
 refine{.inl {rfl,_,.inl<|.inl LX},?_};rw[oP];push_cast[↓zX_];refine{_,LX,by simp[AM,sizeLine];lia,?_}
 have s5:Same H2 (upd (upd H3 kl<|.lst<|AM row) rl (.lst<|AM row++[.int 0])):=λb u e=>by
  rw[AI (BI e G5)];exact AL E8 _ _<|s3 _ _ e
 have er5:upd (upd H3 kl<|.lst<|AM row) rl (.lst<|AM row++[.int 0]) rl=some (.lst<|AM row++[.int 0]):=AF
 have ek5:upd (upd H3 kl<|.lst<|AM row) rl (.lst<|AM row++[.int 0]) kl=some (.lst<|AM row):=by rw[AI rk.symm,AF]
 push_cast[↓zZ_];generalize upd (upd H3 kl<|.lst<|AM row) rl (.lst<|AM row++[.int 0])=H5 at *
 have Hd5:=(Hd.same s1).same s2 |>.same s5
 refine{.inl {rfl,_,.inl<|.inl Hd5.e},by simp[sizeLine],λol hol=>.inl ?_};refine{_,_,_,_,rfl,rfl,AL hol _ _ ek5,AF,by simp[AM,sizeLine];lia,λcl FL=>{by simp[sizeLine],λtp htp=>?_}}
 have s6:Same H5 (upd (upd (upd H5 ol<|.lst [.int 0]) cl (.lst<|AM row++[.int 0])) tp (.tup [.ref rl,.ref cl])):=λb u e=>AL htp _ _<|AL FL _ _<|AL hol _ _ e
 have ec6:upd (upd (upd H5 ol<|.lst [.int 0]) cl (.lst<|AM row++[.int 0])) tp (.tup [.ref rl,.ref cl]) cl=some (.lst<|AM row++[.int 0]):=AL htp _ _ AF
 have et6:upd (upd (upd H5 ol<|.lst [.int 0]) cl (.lst<|AM row++[.int 0])) tp (.tup [.ref rl,.ref cl]) tp=some (.tup [.ref rl,.ref cl]):=AF
 have nc:H5 cl=none:=by
  cases e:H5 cl with
  |none=>rfl
  |some o=>rw[AL hol _ _ e]at FL;cases FL
 generalize upd (upd (upd H5 ol<|.lst [.int 0]) cl (.lst<|AM row++[.int 0])) tp (.tup [.ref rl,.ref cl])=H6 at *
 have Hd6:=Hd5.same s6;rw[oP];push_cast[↓zZ_];refine{_,Hd6.e,by simp[sizeLine];lia,?_}
 have I5:=I2.same s5
 have I6:=I5.same s6
 have Hd7:=Hd6.snoc (r:=row++[0]) et6 (by rw[s6 _ _ er5];simp[AM]) (by rw[ec6];simp[AM]) (I2.off G5) (I5.off nc) (λz=>by have:=((Hd.same s1).same s2).e;rw[<-z,G5]at this;cases this) (λz=>by have:=Hd5.e;rw[<-z,nc]at this;cases this) (by simp;lia)
 have I7:=I6.put (ys:=(hs.map λp=>V.ref p.1)++[.ref tp]) Hd6.e Hd.f;push_cast[↓Ac_]
 have lz:z.length<=8:=by have:=zok z hz;simp[BO]at this;lia
 have z1:=Txt.slice_le z none<|some (-1)
 have l1:(bg " ").length=1:=rfl
 have l2:(bg "A").length=1:=rfl
 have b1:BO (z++bg " ")=false:=U4 (c:=32) (by show _∈(z.cps++ #[32]).toList;simp) rfl
 have b2:BO (bg " "++z)=false:=U4 (c:=32) (by show _∈(#[32]++z.cps).toList;simp) rfl
 have b3:BO (Txt.slice z none (some (-1))++bg "A")=false:=U4 (c:=65) (by show _∈((Txt.slice z none<|some (-1)).cps++ #[65]).toList;simp) rfl;generalize z++bg " "=w1,bg " "++z=w2,Txt.slice z none (some (-1))++bg "A"=w3 at *
 have ek7:upd H6 hl (HO.lst<|Ao (λp=>V.ref p.fst) hs++[V.ref tp]) kl=some (.lst<|AM row):=by
  rw[AI λz=>by have:=(((Hd.same s1).same s2).same s3).e;rw[<-z,E8]at this;cases this];exact s6 _ _ ek5
 have s67:SameBut (λx=>x=hl) H6 (upd H6 hl<|HO.lst<|Ao (λp=>V.ref p.fst) hs++[V.ref tp]):=λb u e n=>by rw[AI n];exact e
 generalize upd H6 hl (HO.lst<|Ao (λp=>V.ref p.fst) hs++[V.ref tp])=H7 at *;refine{by simp only[sizeLine];lia,by simp only[sizeLine];lia,by simp only[sizeLine];lia,by simp only[sizeLine];lia,by simp only[sizeLine];lia,λwl hwl=>.inl {{_,.inl<|.inl AF},?_}}
 have s7:=AL (o:=.lst [V.str w1,V.str w2,V.str w3]) hwl
 have ew:upd H7 wl (HO.lst [V.str w1,V.str w2,V.str w3]) wl=_:=AF;generalize upd H7 wl (HO.lst [V.str w1,V.str w2,V.str w3])=H8 at *
 have I8:=I7.same s7;refine EV (xs:=[V.str w1,V.str w2,V.str w3]) (λg σ H'=>Same H8 H'/\∃ v,σ=[some (V.ref X.S.st),some<|V.ref X.S.A.gp,some<|V.ref t,some<|V.str z,some<|V.ref hl,some<|V.ref tl,
   some (V.int ↑X.nn),some<|V.ref dl,some<|V.ref rl,some<|V.ref kl,v,none]) {λg g e=>e,_,rfl} (λg g g g q=>.inl<|.inl<|q.1 _ _ ew) ?_ ?_
 ·rintro i x σ H' ex ⟨s',v,rfl⟩
  have hx:∃ y,x=.str y/\BO y=false:=by
   have:=θ ex;simp only[aj,bx,or_false]at this;rcases this with rfl|rfl|rfl
   ·exact⟨_,rfl,b1⟩
   ·exact⟨_,rfl,b2⟩
   ·exact⟨_,rfl,b3⟩
  obtain⟨y,rfl,hy'⟩:=hx;push_cast[↓z9_];refine x5 X cs tks M y {rfl,T4',TH,(I8.same s').st,Hw nm zok hy',λH'' s''=>?_};push_cast[↓z9_];exact λg g e=>s'' _ _<|s' _ _ e
 rintro σ H9 ⟨s9,v,rfl⟩
 have I9:=I8.same s9;push_cast[↓Ag_];refine x5 X cs tks M z {rfl,T4',I9.st,λcell' rec' ec' g e0'=>?_,λhc=>by rw[ec]at hc;cases hc};rw[ec]at ec';cases ec';rw[e0]at e0';cases e0';refine{hr,m,ps,e3,oA p2 rfl,p1,λql row' R' H10 d1 d2 d3 hql s10 eql=>?_};obtain rfl:R=R':=funext λx=>o7 (λk c e x hx=>((I.st.bk.bk.need k c e).1 x hx).2) (λg=>Ju) c1 d1 x;obtain rfl:=Hm c2 d2
 have I10:=I9.same s10;push_cast[↓Ag_];refine aN (xs:=AM row) (.inl<|.inl eql) (.inl<|.inl<|s10 _ _<|s9 _ _<|s7 _ _ ek7) (λv hv=>?_) ?_
 ·obtain⟨x,hx,rfl⟩:=av.mp hv
  trivial
 push_cast[↓Ag_];obtain⟨dp4,ep4⟩:=I10.st.bk.pk.ob;refine y2 {ep4,HZ _ _ _ (by decide +kernel) (by decide +kernel) (by decide +kernel),x5 X.S.A.gp _ X.w X.rows X.nn {rfl,TP,I10.st.bk.pk,?_}};push_cast[↓Aj_]
 have ek10:H10 kl=some (.lst<|AM row):=s10 _ _<|s9 _ _<|s7 _ _ ek7
 have et10:H10 t=some (N0 X.n X.r X.c X.w):=s10 _ _ (s9 _ _ (s7 _ _ (s67 _ _ (s6 _ _<|s5 _ _<|s2 _ _<|s1 _ _ et) λz=>by have:=Hd.e;rw[<-z,et]at this;cases this)))
 have etl10:H10 tl=some (.lst<|ts.map V.str):=s10 _ _ (s9 _ _ (s7 _ _ (s67 _ _ (s6 _ _<|s5 _ _<|s2 _ _ etl) λz=>by have:=Hd.e;rw[<-z,htl]at this;cases this)))
 have nk:¬ (X.S.A.F kl\/kl=X.S.A.gp):=λz=>z.elim (I3.st.bk.off E8) λz=>by rw[z,ep3]at E8;cases E8
 refine .inl {{_,.inl<|.inl ek10},?_};refine EV (xs:=AM row) (λi σ H'=>(∃ X',KI a X cs tks M H10 (D1 cs.length X.outs R) row i X' H'/\EX cs X'.outs (D1 cs.length X'.outs R) (row.drop i))/\∃ v,σ=[some (V.ref X.S.st),some<|V.ref X.S.A.gp,some<|V.ref t,some<|V.str z,some<|V.ref hl,some<|V.ref tl,
   some (V.int ↑X.nn),some<|V.ref dl,some<|V.ref rl,some<|V.ref kl,v.1,v.2]) {{X,{⟨rfl,rfl,rfl,rfl,rfl⟩,I10,{_,c2,λx hx=>.inr hx},λg z=>z,λy o e g=>e},c2},(_,_),rfl} (λi σ H' g {⟨X',J,_⟩,_}=>.inl<|.inl<|J.s _ _ ek10 nk) ?_ ?_
 ·rintro i v σ H' ev ⟨⟨X',J,J'⟩,v',rfl⟩;unfold AM at ev;rw[τ,aa]at ev;obtain⟨b,eb,rfl⟩:=ev;obtain⟨⟨a1,a2,a3,a4,a5⟩,C,⟨left,hl,hx⟩,hm,sb⟩:=J
  have hd:row.drop i=b::row.drop (i+1):=by
   obtain⟨hi,e⟩:=ε.mp eb;rw[io hi,e]
  rw[hd]at hl J';obtain⟨k,c,ek,rfl,hl⟩:=Hc hl;obtain⟨g1,g2⟩:=zw3 (λk c e=>(I.st.bk.bk.need k c e).1) (λk c e eo=>c1.up k c e (by cases e:X.outs k with|false=>rfl|true=>rw[<-eo];exact(hm k e).symm)) J'
  have hb:c.blk<X'.rows.length:=by rw[<-C.st.bk.nb];exact(C.st.bk.bk.inn c<|θ ek).1
  have erw:=η hb;obtain⟨dx',ho'⟩:=C.st.ob;rw[a1]at ho';push_cast[↓Ah_];refine y2 {ho',BZ,{X',cs,tks,M,c.blk,_,by rw[a1],T4',C.st,erw,λt' ol' hl' H11 hol' hhl' td I11 sb11=>?_}};refine BB (n:=0) td.1 rfl rfl ?_;refine{by decide,λnl hnl=>?_};push_cast[↓Ah_]
  have CS:=AL (o:=.lst []) hnl
  have hg:∀ v∈(outcome cs X'.outs (λg=>false) c.blk).out.map λ(k:Nat)=>V.int k,GoodV 4 (upd H11 nl<|.lst []) v:=λv hv=>by
   obtain⟨x,hx,rfl⟩:=av.mp hv
   trivial
  obtain⟨ds,D⟩:=Cw hg;refine zb5 (by decide) (.inl<|.inl<|CS _ _ td.2.1) D (.inl<|.inl AF) ?_;rw[decide_eq_false (by simpa using g1)];push_cast[↓Ah_];refine{{X'.wr cs c.blk _,{⟨a1,a2,a3,a4,a5⟩,(C.write erw I11 sb11).same CS,{_,hl,λx hx0=>?_},λj hj=>XW<|hm j hj,λb u e n=>CS _ _ ((sb.trans (by rw[a1]at sb11;exact sb11)) b u e n)},g2},(_,some<|.int c.blk),rfl,rfl};rcases hx x hx0 with h|h
  ·exact .inl<|XW h
  ·cases eo:C3 cs X'.outs c.blk x with
   |true=>exact .inl eo
   |false=>exact .inr (dh.mpr {h,by rw[eo];rfl})
 rintro σ H12 ⟨⟨X',J,g⟩,v',rfl⟩;push_cast[↓Ak_];rw[show(AM row).length=row.length by simp[AM]]at J
 have JJ:=J;obtain⟨⟨a1,a2,a3,a4,a5⟩,C,g,hm,sb⟩:=J
 have out:∀ {kind k},(kind,k)∈DH cell rec ps->kind<5->k<BJ X.n X.r X.c X.w kind->Y5 X' M kind k:=λht h1 hk=>JJ.out I c1 ht h1 hk
 have em:X'.m0=X.m0:=by unfold SX.m0;rw[a2,a5]
 have ht12:H12 t=some (N0 X'.n X'.r X'.c X'.w):=by rw[a2,a3,a4,a5];exact sb _ _ et10 λz=>z.elim (I10.st.bk.offT et10) λz=>by rw[z,ep4]at et10;cases et10
 have etl12:H12 tl=some (.lst<|ts.map V.str):=sb _ _ etl10 λz=>z.elim (I.st.bk.off htl) λz=>by rw[z,ep]at htl;cases htl
 refine{X',cs,tks,M,t,z,cell,rec,m,ps,ts,by rw[a1],T4',C,ht12,by rw[em];exact BC,?_,?_,?_,λsl H13 hsl s13 esl=>?_}
 ·rw[TM (out (by simp[DH]) (by decide) BC)];exact e0
 ·rw[TM (out (by simp[DH]) (by decide) hr)];exact e3
 ·have:∀ {ps:t3} {ts:tY},Paired (λp t=>p<X.c * X.w/\M 4 p=.tx t) ps ts->(∀ p∈ps,Y5 X' M 4 p)->Paired (λp t=>sh M.b X'.C M.as 4 p=.tx t) ps ts:=λ{ps ts} P o4=>by
   induction P with
   |nil=>exact .nil
   |cons h t ih =>
    refine .cons ?_<|ih λp hp=>o4 p<|ρ _ hp;rw[TM (o4 _ χ)];exact h.2
  exact this P λp hp=>out (ρ _<|ρ _<|av.mpr ⟨p,hp,rfl⟩) (by decide) (p1 p hp)
 have f0:∀ {ps:t3} {ts:tY},Paired (λp t=>p<X.c*X.w/\M 4 p=.tx t) ps ts->∀ v∈ts.map V.str,MB v=true:=λ{ps ts} P=>by
  induction P with
  |nil=>exact λv hv=>by cases hv
  |cons h t ih =>
   intro v hv;rcases aj.mp hv with rfl|hv
   ·exact I.txt h.1 h.2
   ·exact ih v hv
 have f13:=f0 P;push_cast[↓Ak_];refine mP (.inl<|.inl esl) (.inl<|.inl<|s13 _ _ etl12) f13 ?_;push_cast[↓Ak_]
 have C13:=C.same s13;obtain⟨dx',ho'⟩:=C13.st.ob;rw[a1]at ho';refine y2 {ho',BZ,{X',cs,tks,M,z,by rw[a1],T4',C13.st,λcell' rec' ec' g e0'=>?_,λhc=>by rw[em,ec]at hc;cases hc}};rw[em,ec]at ec';cases ec';rw[e0]at e0';cases e0';refine{by rw[a3,a5];exact hr,m,ps,e3,oA p2 rfl,ts,by rw[a4,a5];exact P,λul H14 hul s14 eul=>?_};push_cast[↓Ak_];refine mP (.inl<|.inl eul) (.inl<|.inl<|s14 _ _<|s13 _ _ etl12) f13 ?_
 have eG:X'.G=X.G:=by unfold SX.G;rw[a1]
 refine q X' (hs++[(tp,rl,cl,row++[0])]) H14 a1 a2 a3 a4 a5 (C13.same s14) ?_ (by simp) ?_
 ·rw[eG];exact((((Hd7.same s7).same s9).same s10).sbF I10 sb |>.same s13).same s14
 ·intro b u e n;exact s14 _ _<|s13 _ _<|sb _ _ (s10 _ _<|s9 _ _<|s7 _ _<|s67 _ _ (s6 _ _<|s5 _ _<|s2 _ _<|s1 _ _ e) λz=>n<|.inr<|.inr z) λz=>n<|z.elim .inl λz=>.inr<|.inl z
def HeldAt.sbT{X:SX}{cs:z8}{tks:tS}{M:Hs}{hl:Addr}{ps:uA}{H H':Hp}(I:C6 a H X cs tks M)(h:HeldAt H hl X.G ps)(s:SameBut (λx=>X.S.A.F x\/x=X.S.tk) H H'):HeldAt H' hl X.G ps:=by
 have gt:∀ {x:Addr} {ys:Oq},H x=some (.tup ys)->¬ (X.S.A.F x\/x=X.S.tk):=λe z=>z.elim (I.st.bk.offT e) λz=>by rw[z,I.st.tk]at e;cases e
 refine{s _ _ h.e h.f,λp hp=>?_,h.f};obtain⟨a1,a2,a3,a4,a5,a6⟩:=h.v p hp;exact{s _ _ a1<|gt a1,s _ _ a2 a4,s _ _ a3 a5,a4,a5,a6}
structure L61(a:Ad)(ly gp cl:Addr)(n r c w:Nat)(nl hl tt rr:Addr)(zs:tY)(ms:sZ)(i:Nat)(X:SX)(H:Hp):Prop where
 e:X.S.lp=ly/\X.S.A.gp=gp/\X.S.A.cl=cl/\X.n=n/\X.r=r/\X.c=c/\X.w=w
 st:∃ cs tks M ps,C6 a H X cs tks M/\cs.length+DO (X.c*X.w) M.f<=18+4*i/\KJ M zs/\HeldAt H hl X.G ps/\ps.length<=i
 nm:Q1 H nl zs
 er:H rr=some (.lst<|ms.map V.int)
 et:H tt=some (N0 n r c w)
 nh:nl≠hl/\rr≠hl
 fn:¬ X.S.A.F nl
 fr:¬ X.S.A.F rr
section
variable{ly gp cl:Addr}{n r c w:Nat}{nl hl tt rr:Addr}{zs:tY}{ms:sZ}{i:Nat}{X:SX}{P:V->Hp->Prop}
def L61.same{H':Hp}(J:L61 a ly gp cl n r c w nl hl tt rr zs ms i X H)(s:Same H H'):L61 a ly gp cl n r c w nl hl tt rr zs ms i X H':=by
 obtain⟨e,⟨cs,tks,M,kvs,C,h1,Nm,Kp,h2⟩,nm,r',et,f1,f2,f3⟩:=J;exact{e,{cs,tks,M,kvs,C.same s,h1,Nm,Kp.same s,h2},{s _ _ nm.1,nm.2},s _ _ r',s _ _ et,f1,f2,f3}
def L61.up(J:L61 a ly gp cl n r c w nl hl tt rr zs ms i X H):L61 a ly gp cl n r c w nl hl tt rr zs ms (i+1) X H:=by
 obtain⟨e,⟨cs,tks,M,kvs,C,h1,Nm,Kp,h2⟩,nm,r',et,f1,f2,f3⟩:=J;exact{e,{cs,tks,M,kvs,C,by lia,Nm,Kp,by lia},nm,r',et,f1,f2,f3}
def L61.ls{H':Hp}{G:zV}{l:Addr}{xs:Oq}(J:L61 a ly gp cl n r c w nl hl tt rr zs ms i X H)(s:SameBut G H H')(g:∀ x,G x->X.S.A.F x\/x=X.S.tk\/x=X.S.A.gp\/x=hl)(nF:¬ X.S.A.F l)(nh:l≠hl)(e:H l=some (.lst xs)):H' l=some (.lst xs):=by
 obtain⟨y,⟨cs,tks,M,kvs,C,y,Nm,Kp,y⟩,y⟩:=J;refine s _ _ e λz=>?_;rcases g l z with z|z|z|z
 ·exact nF z
 ·rw[z,C.st.tk]at e;cases e
 ·obtain⟨y,ep⟩:=C.st.bk.pk.ob;rw[z,ep]at e;cases e
 ·exact nh z
def L61.tu{H':Hp}{G:zV}{l:Addr}{xs:Oq}(J:L61 a ly gp cl n r c w nl hl tt rr zs ms i X H)(s:SameBut G H H')(g:∀ x,G x->X.S.A.F x\/x=X.S.tk\/x=X.S.A.gp\/x=hl)(e:H l=some (.tup xs)):H' l=some (.tup xs):=by
 obtain⟨y,⟨cs,tks,M,kvs,C,y,Nm,Kp,y⟩,y⟩:=J;refine s _ _ e λz=>?_;rcases g l z with z|z|z|z
 ·exact C.st.bk.offT e z
 ·rw[z,C.st.tk]at e;cases e
 ·obtain⟨y,ep⟩:=C.st.bk.pk.ob;rw[z,ep]at e;cases e
 ·rw[z,Kp.e]at e;cases e
def L61.kept{z:Str}(T4:CN K a)(TH:MR K a)(J:L61 a ly gp cl n r c w nl hl tt rr zs ms i X H)(hi:i<=61)(hz:z∈zs){cs:z8}{tks:tS}{M:Hs}{ps:uA}(C:C6 a H X cs tks M)(h1:cs.length+DO (X.c*X.w) M.f<=18+4*i)(Nm:KJ M zs)(Kp:HeldAt H hl X.G ps)(h2:ps.length<=i)(hn:∃ k rec,k<X.m0/\M 0 k=.nm z rec)(q:∀ X' H',X'.S.st=X.S.st->L61 a ly gp cl n r c w nl hl tt rr zs ms (i+1) X' H'->P (.bl true) H'):UK K a [.ref X.S.st,.ref X.S.A.gp,.ref tt,.str z,.ref hl] H P E:=by
 have JJ:=J;obtain⟨⟨a1,a2,a3,rfl,rfl,rfl,rfl⟩,y,nm,r',et,f1,f2,f3⟩:=J;refine{X,cs,tks,M,tt,z,zs,hl,ps,rfl,T4,TH,C,by lia,Nm,nm.2.2,hz,hn,et,Kp,by lia,λX' ps' H' b1 b2 b3 b4 b5 C' Kp' hl' sb=>q X' H' (by rw[b1]) {{by rw[b1];exact a1,by rw[b1];exact a2,by rw[b1];exact a3,b2,b3,b4,b5},{cs,tks,M,ps',C',by rw[b4,b5];lia,Nm,Kp',by lia},{JJ.ls sb (λx h=>?_) f2 f1.1 nm.1,nm.2},JJ.ls sb (λx h=>?_) f3 f1.2 r',JJ.tu sb (λx h=>?_) et,f1,by rw[b1];exact f2,by rw[b1];exact f3}}
 all_goals rcases h with h|h|h;exact .inl h;exact .inr<|.inr<|.inl h;exact .inr<|.inr<|.inr h
def L61.write{b:Nat}(T4:CN K a)(J:L61 a ly gp cl n r c w nl hl tt rr zs ms i X H)(hb:b<n+r+c+r+c)(q:∀ t X' H',X'.S.st=X.S.st->L61 a ly gp cl n r c w nl hl tt rr zs ms (i+1) X' H'->P (.ref t) H'):Q0 K a [.ref X.S.st,.int (b:Nat)] H P E:=by
 have JJ:=J;obtain⟨⟨a1,a2,a3,rfl,rfl,rfl,rfl⟩,⟨cs,tks,M,ps,C,h1,Nm,Kp,h2⟩,nm,r',et,f1,f2,f3⟩:=J
 have hr:b<X.rows.length:=by rw[C.st.sz.2.2.2.2];exact hb
 have er:=η hr
 have g:∀ x,(X.S.A.F x\/x=X.S.A.gp)->X.S.A.F x\/x=X.S.tk\/x=X.S.A.gp\/x=hl:=λx h=>h.imp id λz=>.inr<|.inl z;exact{X,cs,tks,M,b,_,rfl,T4,C.st,er,λt y y H' y y y I' sb=>q t (X.wr cs b X.rows[b]) H' rfl {⟨a1,a2,a3,rfl,rfl,rfl,rfl⟩,{cs,tks,M,ps,C.write er I' sb,by show cs.length+DO (X.c*X.w) M.f<=_;lia,Nm,show HeldAt H' hl X.G ps from HeldAt.sbF C Kp sb,by lia},{JJ.ls sb g f2 f1.1 nm.1,nm.2},JJ.ls sb g f3 f1.2 r',JJ.tu sb g et,f1,f2,f3}}
def L61.deed{x:Int}(T4:CN K a)(TH:MR K a)(J:L61 a ly gp cl n r c w nl hl tt rr zs ms i X H)(hi:i<=61)(q:∀ d H',L61 a ly gp cl n r c w nl hl tt rr zs ms (i+1) X H'->P (.bl d) H'):UJ K a [.ref X.S.st,.int x,.ref nl] H P E:=by
 have JJ:=J;obtain⟨⟨a1,a2,a3,rfl,rfl,rfl,rfl⟩,⟨cs,tks,M,ps,C,h1,Nm,Kp,h2⟩,nm,r',et,f1,f2,f3⟩:=J
 have g:∀ x,(X.S.A.F x\/x=X.S.tk)->X.S.A.F x\/x=X.S.tk\/x=X.S.A.gp\/x=hl:=λx h=>h.imp id λz=>.inl z;exact{X,cs,tks,M,x,nl,zs,rfl,T4,TH,C,by lia,nm,Nm,λd cs' tks' M' H' C' hb Nm' sb=>q d H' {⟨a1,a2,a3,rfl,rfl,rfl,rfl⟩,{cs',tks',M',ps,C',by lia,Nm',HeldAt.sbT C Kp sb,by lia},{JJ.ls sb g f2 f1.1 nm.1,nm.2},JJ.ls sb g f3 f1.2 r',JJ.tu sb g et,f1,f2,f3}}
theorem bI{C:sX}{zs:tY}{b:Md}(hb:∀ k z r,b 0 k=.nm z r->z∈zs):∀ {as:Oz},(∀ x∈as,∀ z r,x.x=.nm z r->z∈zs)->∀ k z r,sh b C as 0 k=.nm z r->z∈zs
 | [],_,k,z,r,e=>hb k z r e
 |⟨kd,kk,v,nd⟩::as,hs,k,z,r,e=>by
  unfold sh at e;split at e
  ·have e:(if 0=kd/\k=kk then v else sh b C as 0 k)=.nm z r:=e;split at e
   ·exact hs _ χ z r e
   ·exact bI hb (λy hy=>hs y<|ρ _ hy) k z r e
  ·exact bI hb (λy hy=>hs y<|ρ _ hy) k z r e
def L61.stop(tv:TV K a)(T4:CN K a)(J:L61 a ly gp cl n r c w nl hl tt rr zs ms i X H){D:VK}(q:∀ X' H',L61 a ly gp cl n r c w nl hl tt rr zs ms i X' H'->D (.ref X'.S.st) H'):UI K a [.ref ly,.ref gp] H D E:=by
 obtain⟨⟨rfl,rfl,rfl,rfl,rfl,rfl,rfl⟩,⟨cs,tks,M,ps,C,h1,Nm,Kp,h2⟩,nm,r',et,f1,f2,f3⟩:=J;refine{X.S.lp,X.S.A.gp,X.S.A.cl,X.n,X.r,X.c,X.w,X.rows,X.nn,_,rfl,C.gnd tv T4,λX' H' b1 b2 b3 b4 b5 b6 b7 off ht C' sb=>?_}
 have Fc:X.S.A.F X.S.A.cl:=.inr<|.inr<|.inr<|.inr<|.inr rfl;obtain⟨y,ep⟩:=C.st.bk.pk.ob
 have ls:∀ {l xs},¬ X.S.A.F l->H l=some (.lst xs)->H' l=some (.lst xs)/\¬ X'.S.A.F l:=λ{l xs} nF e=>{sb _ _ e λz=>z.elim (λz=>by rw[z,ep]at e;cases e) λz=>nF<|z ▸ Fc,(off l _ e).elim (λz=>absurd (z ▸ Fc) nF) id}
 have lg:∀ {l xs},¬ X.G l->H l=some (.lst xs)->H' l=some (.lst xs)/\¬ X'.G l:=λ{l xs} nG e=>{(ls (λz=>nG<|.inl z) e).1,λz=>z.elim (ls (λz=>nG<|.inl z) e).2 λz=>by rw[z,ht]at e;cases e}
 have tu:∀ {l xs},H l=some (.tup xs)->H' l=some (.tup xs):=λ{l xs} e=>sb _ _ e λz=>z.elim (λz=>by rw[z,ep]at e;cases e) λz=>C.st.bk.offT e<|z ▸ Fc
 have m18:DO (X'.c*X'.w) ({EO X.n X.r X.c X.w<|sh M.b X.C M.as,[]}:Hs).f<=18:=ω Hg C'.few;refine q X' H' {⟨b1,b2,b3,b4,b5,b6,b7⟩,{[],[],_,ps,C',by simp only[mj];lia,{λk z r e=>bI Nm.b Nm.s k z r e,nofun},{(lg Kp.f Kp.e).1,λp hp=>?_,(lg Kp.f Kp.e).2},h2},{(ls f2 nm.1).1,nm.2},(ls f3 r').1,tu et,f1,(ls f2 nm.1).2,(ls f3 r').2};obtain⟨a1,a2,a3,a4,a5,a6⟩:=Kp.v p hp;exact{tu a1,(lg a4 a2).1,(lg a5 a3).1,(lg a4 a2).2,(lg a5 a3).2,a6}
end
def LI(a:Ad)(ly gp cl:Addr)(n r c w:Nat)(nl hl tt rr:Addr)(zs:tY)(ms:sZ)(s:Addr)(i:Nat)(σ:St)(H':Hp):Prop:=∃ X,L61 a ly gp cl n r c w nl hl tt rr zs ms i X H'/\∃ y7 y8 y9,σ=[some (.ref s),some<|.ref tt,some<|.ref nl,some<|.ref ly,some<|.ref gp,some<|.ref X.S.st,some<|.ref hl,y7,y8,y9,none,none]
example:(zw7,pR,aK,12):=by
 apply u2;rintro s ns ⟨rfl,tv,T4,TH,hs,hl,q⟩
 have T4':=T4;obtain⟨T,TP,TL,TS⟩:=T4;push_cast[aK,↓Al_];refine x3 s ns 0 {rfl,hs,oA hl rfl,_,rfl,λt n r c w H1 s1 et n1 n3 r1 r3 c1 c3 w1 w6=>?_};push_cast[↓Am_];refine x3 s ns 1 {rfl,s1.seq hs,oA hl rfl,x2 _ 5 {rfl,by decide,λnl zs H2 hnl s2 RK hzl hz=>?_}}
 have et2:=s2 _ _ et;push_cast[↓Ap_];refine BB et2 rfl rfl<|BB et2 rfl rfl<|BB et2 rfl rfl<|BB et2 rfl rfl ?_;intro lp dl hlp hdl ndl;refine x6 lp dl n r c w {rfl,TL,AF,oA n3 rfl,oA r3 rfl,oA c3 rfl,w1,oA w6 rfl,λH3 L3 M3=>{rfl,?_}}
 have s3:Same H2 H3:=λy o e=>M3 _ _ (((AL hdl).trans (AL (by rw[AI ndl.symm];exact hlp))) _ _ e) (BI e hlp);obtain⟨dl2,el⟩:=L3.ob;push_cast[↓Aq_];refine y2 {el,B8,x5 lp n r c w {rfl,TL,TP,L3,λgp cl H4 hgp BC P4 s4=>?_}}
 have fw:c*w<=18:=ω (gy c3 w6) (by decide)
 have hN:∀ r'∈bc (n+r+c+r+c) (bc w V.non),∀ v∈r',v=.non:=λr' hr' v hv=>by
  rw[py hr']at hv;exact py hv
 push_cast[↓Av_];refine Gp (S:=λu u=>.no) {tv,T4',L3.same s4,P4,{oA n3 rfl,oA r3 rfl,oA c3 rfl,w6,by simp},fw,w1,(λr' hr' v hv=>by rw[hN r' hr' v hv];trivial),(λkind k v u u hv=>?_),{λu u u=>rfl,λkind u=>by cases kind<;>trivial},{λu u u u e=>(by cases e),λu u u e=>(by cases e),λu u u e=>(by cases e),λu u u e=>(by cases e),λu u u e=>(by cases e),λu u u u u u u e=>(by cases e),λu u u u u u u e=>(by cases e)}} λX H5 a1 a2 a3 a4 a5 a6 a7 off htk C5 s5=>?_
 ·obtain⟨r',er',ev⟩:=yc.mp hv;exact hN r' (θ er') _ (θ ev)
 push_cast[↓Aw_];refine{by decide,λkt hkt=>?_};obtain⟨H6,zz0,s6,e6⟩:=C4 (o:=.lst []) hkt;rw[zz0];push_cast[↓Az_]
 have s26:=((s3.trans s4).trans s5).trans s6
 have N6:Q1 H6 nl zs:={s26 _ _ RK,hzl,hz}
 refine U3 (x:=0) N6 λz0 hz0=>?_
 have lz:z0.length<=8:=by have:=hz _ hz0;simp[BO]at this;lia
 have b1:BO (z0++bg " ")=false:=U4 (c:=32) (by show _∈(z0.cps++ #[32]).toList;simp) rfl
 have l1:(bg " ").length=1:=rfl;push_cast[↓Az_];generalize z0++bg " "=w1 at *;refine{by simp only[sizeLine];lia,by decide,λwl hwl=>.inl {{_,SqL.of AF},?_}};obtain⟨H7,zz0,s7,e7⟩:=C4 hwl;rw[zz0]
 have C7:=C5.same<|s6.trans s7
 have Nm:KJ {λu u=>.no,[]} zs:={λu u u e=>(by cases e),λu h=>(by cases h)}
 refine EV (λu σ H'=>Same H7 H'/\∃ v,σ=[some (V.ref s),some<|V.ref t,some<|V.ref nl,some<|V.ref lp,some<|V.ref gp,some<|V.ref X.S.st,some<|V.ref kt,v,none,none,none,none]) {λu u e=>e,_,rfl} (λu u u u q=>SqL.of<|q.1 _ _ e7) ?_ ?_
 ·rintro i x σ H' ex ⟨s',v,rfl⟩
  have hx:∃ y,x=.str y/\BO y=false:=by
   have:=θ ex;simp only[aj,bx,or_false]at this;rcases this with rfl|rfl|rfl|rfl|rfl|rfl
   ·exact{_,rfl,by decide +kernel}
   ·exact{_,rfl,by decide +kernel}
   ·exact⟨_,rfl,b1⟩
   ·exact{_,rfl,by decide +kernel}
   ·exact{_,rfl,by decide +kernel}
   ·exact{_,rfl,by decide +kernel}
  obtain⟨y,rfl,hy'⟩:=hx;push_cast[↓Ax_];refine x5 X [] [] _ y {rfl,T4',TH,(C7.same s').st,Hw Nm hz hy',λH'' s''=>?_};push_cast[↓Ax_];exact λu u e=>s'' _ _<|s' _ _ e
 rintro σ H8 ⟨s8,v,rfl⟩
 have C8:=C7.same s8;obtain⟨ms,ems,hms⟩:=zwo ns
 have s28:=(s26.trans s7).trans s8;push_cast[↓Bz_];refine S0 (s28.seq<|(s1.trans s2).seq hs) λrr hrr=>?_;rw[ems];obtain⟨H9,zz0,s9,e9⟩:=C4 hrr;rw[zz0]
 have fs:∀ {l:Addr} {o:HO},H2 l=some o->l≠cl->¬ X.S.A.F l:=λ{l o} e n=>(off l _<|(s3.trans s4) _ _ e).elim (λz=>absurd z n) id
 have ncl:nl≠cl:=λz=>by have:=s3 _ _ RK;rw[z,BC]at this;cases this
 have J9:L61 a lp gp cl n r c w nl kt t rr zs ms 0 X H9:={⟨a1,a2,a3,a4,a5,a6,a7⟩,x4 [] [] _ [] {C8.same s9,by rw[a6,a7];exact ω (by simp only[mj,me];exact Hg) fw,Nm,{s9 _ _<|s8 _ _<|s7 _ _ e6,nofun,C5.off hkt},υ _},{(s28.trans s9) _ _ RK,hzl,hz},e9,(s28.trans s9) _ _ et2,{λz=>(by have:=((s3.trans s4).trans s5) _ _ RK;rw[z,hkt]at this;cases this),λz=>by rw[z,s8 _ _<|s7 _ _ e6]at hrr;cases hrr},fs RK ncl,C8.st.bk.off hrr}
 refine .inl {{_,SqL.of e9},EV (LI a lp gp cl n r c w nl kt t rr zs ms s) ⟨X,J9,_,_,_,rfl⟩ (by rintro i σ H' u ⟨X,J,u⟩;exact SqL.of J.er) (λi v σ H' ev hzz=>?_) (λσ H' hzz=>?_)}
 ·obtain⟨X,J,y7,y8,y9,rfl⟩:=hzz;rw[τ,aa]at ev;obtain⟨y,ey,rfl⟩:=ev
  have hi:=(ε.mp ey).1
  have hi:i<=60:=by lia
  push_cast[↓Bc_];refine{{by decide,by decide},U3 J.nm λz hz=>?_};push_cast[↓By_];by_cases k4:y%7<4
  ·refine FZ k4 ?_;push_cast[↓Bd_];exact{{by decide,by decide},J.deed T4' TH (oA hi rfl) λd H8 J8=>⟨X,J8,_,_,_,rfl⟩}
  refine E5 k4 ?_;push_cast[↓Bx_]
  have JJ:=J;obtain⟨⟨rfl,rfl,rfl,rfl,rfl,rfl,rfl⟩,⟨cs,tks,M,ps,C,h1,Nm,Kp,h2⟩,u⟩:=J;obtain⟨dx,ho⟩:=C.st.ob;by_cases k6:y%7<6
  ·refine FZ k6 ?_;push_cast[↓Bg_];obtain⟨dp,ep⟩:=C.st.bk.pk.ob
   have rl:=C.st.sz.2.2.2.2;obtain⟨b,eb,hb⟩:=UP (y/7) (n:=X.rows.length) (by lia);refine y2 {ho,BZ,{by decide,by decide},y2 {ep,HZ _ _ _ (by decide) (by decide) (by decide),x5 _ _ _ _ _ {rfl,TP,C.st.bk.pk,?_}}};push_cast[];refine{by lia,?_};rw[eb];exact JJ.write T4' (by rw[<-rl];exact hb) λt' X' H8 e8 J8=>{X',J8,_,_,_,by rw[<-e8]}
  refine E5 k6 ?_;push_cast[↓Bw_];refine{{by decide,by decide},?_};split
  ·push_cast[↓Bh_];exact JJ.stop tv T4' λX' H8 J8=>⟨X',J8.up,_,_,_,rfl⟩
  push_cast[↓Bq_];refine y2 {ho,BZ,x4 X cs tks M {rfl,T4',C.st,λl ks H8 hl8 s8 el8 pk8 u=>zwm el8 ?_}};push_cast[↓Bq_];by_cases hk:z∈ks
  ·refine FZ hk ?_;push_cast[↓Bj_];refine(JJ.same s8).kept T4' TH (oA hi rfl) hz (C.same s8) h1 Nm (Kp.same s8) h2 (Gz.mp<|pk8.mem_iff.mp hk) λX' H9 e9 J9=>?_;push_cast[↓Bj_];exact{X',J9,_,_,_,by rw[<-e9]}
  ·refine E5 hk ?_;push_cast[↓Bm_];refine x5 X cs tks M z {rfl,T4',TH,(C.same s8).st,aQ λj hj=> ?_,λH9 s9=> ?_}
   ·rw[D9];cases e:M 0 j with
    |nm z' r =>
     simp only[Jo,decide_eq_false_iff_not];rintro rfl;exact hk<|pk8.mem_iff.mpr<|Gz.mpr ⟨j,r,hj,e⟩
    |_=>rfl
   push_cast[↓Bm_];exact{X,((JJ.same s8).same s9).up,_,_,_,rfl}
 ·obtain⟨X,J,y7,y8,y9,rfl⟩:=hzz;obtain⟨u,⟨cs,tks,M,ps,C,h1,Nm,Kp,h2⟩,u⟩:=J;push_cast[↓Cd_];refine .inl {{_,SqL.of Kp.e},EV (λu σ H2=>H2=H'/\∃ v w,σ=[some (V.ref s),some<|V.ref t,some<|V.ref nl,some<|V.ref lp,some<|V.ref gp,some<|V.ref X.S.st,some<|V.ref kt,y7,y8,y9,v,w]) ⟨rfl,_,_,rfl⟩ (λu u u u q=>q.1 ▸ SqL.of Kp.e) ?_ ?_}
  ·rintro i x σ H2 ex ⟨rfl,v,w,rfl⟩;rw[τ,aa]at ex;obtain⟨p,ep,rfl⟩:=ex;obtain⟨p1,p2,p3,u⟩:=Kp.v p<|θ ep;push_cast[];refine{_,SqT.of p1,rfl,?_};push_cast[↓Cb_];refine aN (SqL.of p2) (SqL.of p3) (λv hv=>?_) ?_
   ·obtain⟨x,hx,rfl⟩:=av.mp hv
    trivial
   push_cast[↓Cb_]
  rintro σ H2 ⟨rfl,v,w,rfl⟩;push_cast[↓Cg_];exact q _
end
def JO:Expr->tY
 |.Name x _=>[x]
 |.Tuple [.Name x _,.Name y _] _ _=>[x,y]
 |_=>[]
def Hx(N:tY)(A7:t3):tY:=A7.filterMap λi=>N[i]?
def FnScope.cq{X:Cx}{scope outer:Scope}{N P tn:tY}{A7:t3}(_:FnScope N P outer)(h:SF scope outer N (Hx N A7) A7=true:=by decide +kernel)(h1:X.env.scope=outer:=by exact rfl)(h2:X.N=N:=by exact rfl):JX X scope tn (Hx N A7) A7:=mG h1 h2 h
section
variable{X:Cx}{tg iter ES:Expr}{ET:wW}{scope:Scope}{pos:Pos}{wi:TI}{td:TE}{g:TG}{tt:TT}{te:TE}{cn:tY}{A7:t3}
def pcm(S:JX X scope (JO tg) cn A7)(hc:X.calm=true)(hi:PI X tg iter wi)(hg:∀ AA s H cl C fp,PG (X.block AA s H (JO tg++cn) scope cl C fp) tg g)(ht:∀ AA s H cl C fp,K2 (X.block AA s H (JO tg++cn) scope cl C fp) ET tt)(he:∀ AA s H cl C fp,PE (X.block AA s H (JO tg++cn) scope cl C fp) ES te)
  (hs:∀ x,mx iter X.env x=pure x:=by intro _;rfl):PE X (.ListComp ES [{tg,iter,ET,0}] scope pos) (BT wi g tt te (JO tg).length A7):=Ux S hc hi hg ht he hs
def pcs{i:Nat}{x:Str}{px spos:Pos}(S:JX X scope (JO tg) cn A7)(hc:X.calm=true)(hN:X.N.Nodup)(hi':X.N[i]? =some x)(hx:X.env.scope.names.lookup x=some .local)(hi:PI X tg iter wi)(hg:∀ AA s H cl C fp,PG (X.block AA s H (JO tg++cn) scope cl C fp) tg g)(ht:∀ AA s H cl C fp,K2 (X.block AA s H (JO tg++cn) scope cl C fp) ET tt)(he:∀ AA s H cl C fp,PE (X.block AA s H (JO tg++cn) scope cl C fp) ES te)
  (hsw:v_ (.ListComp ES [{tg,iter,ET,0}] scope pos) (some<|.Name x px) spos.line X.env=pure true:=by rfl)
  (hs:∀ x,mx iter X.env x=pure x:=by intro _;rfl):PS X (.Assign [.Name x px] (.ListComp ES [{tg,iter,ET,0}] scope pos) spos) (AQ (BT wi g tt te (JO tg).length A7) (AE i)):=Uy S hc hN hi' hx hi hg ht he hsw hs
end
def A4(i:Nat):Stmt:=PySem.Challenge.pw_holdback_k61_a_row_to_keep.main.body.getD i<|.Pass {0,0,0,0}
structure Txt(K:ι)(mg:Str->Option Value)(a:Ad):Prop where
 z0e:Cls K (a "Change")
 Jd:Cls K (a "Hold")
 Jg:Cls K (a "Layout")
 Jh:Cls K (a "Plank")
 Jj:Cls K (a "Store")
 Jk:Cls K (a "View")
 z0q:mg "HoldError"=some (.ref<|a "HoldError")
 z3x:GV mg "HoldError" (.ref<|a "HoldError")
 z3z:Exc K (a "HoldError")
 z0f:GV mg "MOST_LETTERS" (.int 8)
 z0g:GV mg "MOST_PIECE_SIGNS" (.int 40)
 z0r:mg "NoBlock"=some (.ref<|a "NoBlock")
 z0h:GV mg "NoBlock" (.ref<|a "NoBlock")
 z0y:Exc K (a "NoBlock")
 z0s:mg "NoChange"=some (.ref<|a "NoChange")
 z0i:GV mg "NoChange" (.ref<|a "NoChange")
 z0z:Exc K (a "NoChange")
 z0t:mg "NoName"=some (.ref<|a "NoName")
 z0j:GV mg "NoName" (.ref<|a "NoName")
 z00:Exc K (a "NoName")
 z0u:mg "NoPiece"=some (.ref<|a "NoPiece")
 z0k:GV mg "NoPiece" (.ref<|a "NoPiece")
 z01:Exc K (a "NoPiece")
 z0v:mg "NoRoom"=some (.ref<|a "NoRoom")
 z0l:GV mg "NoRoom" (.ref<|a "NoRoom")
 z02:Exc K (a "NoRoom")
 z3y:mg "NoRow"=some (.ref<|a "NoRow")
 z0m:GV mg "NoRow" (.ref<|a "NoRow")
 z30:Exc K (a "NoRow")
 z0w:mg "NotSound"=some (.ref<|a "NotSound")
 z0n:GV mg "NotSound" (.ref<|a "NotSound")
 z03:Exc K (a "NotSound")
 z0o:GV mg "PERCENT" (.int 37)
 z0x:mg "Twice"=some (.ref<|a "Twice")
 z0p:GV mg "Twice" (.ref<|a "Twice")
 z04:Exc K (a "Twice")
 zz2:mg "ValueError"=none
 zz3:mg "all"=none
 zz4:mg "bool"=none
 zz5:mg "dict"=none
 zz6:mg "enumerate"=none
 Hz:mg "int"=none
 zz7:mg "isinstance"=none
 zz8:mg "len"=none
 Jb:mg "list"=none
 zz9:mg "ord"=none
 z0a:mg "range"=none
 z0b:mg "reversed"=none
 z0c:mg "set"=none
 Jc:mg "sorted"=none
 z0d:mg "tuple"=none
section
variable(P:bw)(w:World){K:ι}{mg:Str->Option Value}(base:Heap){a:Ad}{f:Addr}{fd:gq}
seal wpAny
seal JS IR PY XD KR L5 OS GW GT BS FE MC HY IU FN EI PN AE CK IQ O5 B7 tB SK DU AD RR B0 A8 DV O9 LZ O6 C2 DZ AG O1 J5 M9 LY GE PL RZ AR FR O3 CJ GS BD NM BL EJ NA IZ HB SO O7 AQ AV J6 WX tC FD DK FB D7 J7 FS PU FQ DY DB CL GU FM NN O4 HX K8 BM SN JV CB AN DG BE OY NH IN OR W3 OX CM W1 PE PT E9 PS PA PI PG K2 IK PW B9 IxR
def dvT:Nat->List String->Array Lean.Term->Lean.MacroM (Lean.Term × List String)
 |0,_,_=>Lean.Macro.throwUnsupported
 |n+1,l,a=>match l with
  |"("::r=>do
   let x<-dvT n r #[]
   dvT n x.2 (a.push x.1)
  |")"::r=>pure (Lean.Syntax.mkApp a[0]! (a.extract 1 a.size),r)
  |[]=>pure (Lean.Syntax.mkApp a[0]! (a.extract 1 a.size),[])
  |s::r=>do
   let x:Lean.Term<-match s with
    |"?"=>`(?_)
    |"_"=>`(_)
    |"1"=>`(by assumption)
    |"2"=>`(by rfl)
    |"3"=>`(by with_unfolding_all rfl)
    |"4"=>`(show List.Nodup (_++_) by decide +kernel)
    |"5"=>`(fun _ _=>rfl)
    |"6"=>`(fun _ _ _ _ _ _=>?_)
    |"7"=>`(⟨rfl,rfl,rfl,rfl⟩)
    |"8"=>let h:=Lean.mkIdent `hx1;let e:=Lean.mkIdent `E1;`(fun $e _ _ $h=>?_)
    |"9"=>`(by simp)
    |"10"=>`(fun _=>rfl)
    |"11"=>`(fun _=>?_)
    |_=>pure<|Lean.mkIdent s.toName
   dvT n r (a.push x)
def dvF:List String->Lean.MacroM (Lean.TSyntax `tactic)
 |[]=>`(tactic|fail)
 |s::l=>do
  let x<-dvT 99 (s.splitOn " ") #[]
  let t<-dvF l
  `(tactic|first|refine $(x.1)|$t:tactic)
def dvG(t:Lean.TSyntax `tactic):List String->Lean.MacroM (Lean.TSyntax `tactic)
 |[]=>pure t
 |s::l=>do
  let u<-dvG t l
  match s.splitOn "|" with
  |g::r=>
   let x<-dvT 99 (g.splitOn " ") #[]
   let y<-dvF r
   `(tactic|first|(show $(x.1);$y:tactic)|$u:tactic)
  |_=>pure u
local macro_rules
 |`(tactic|ac_rfl)=>do
  let t<-dvG (<-dvF ("T.Jj|T.Jg|T.Jd|T.Jh|T.Jk|L4 ? ?|RQ rfl T.Jb 2 rfl|RQ rfl T.Hz 2 rfl|RQ rfl T.zz4 2 rfl|zcz ( K0 hr )|RQ rfl T.zz2 2 rfl|Vm nd rfl rfl ? 11 ?|Xd ?|Uq|Uv ?|pPt ( Rm ? )|Rl|pDn ( Tm ( K0 hr ) ? ? )|pDi ( Tl ( K0 hr ) ? ? )|Ty ? ? ?|Tx|Vk rfl T.z0q|Vh|Vl ? 11 ?".splitOn "|")) ("PE _ _ _|pvr _|jW|pFl ( Qh ? rfl )|SS ( pmx ? ? 1 hr hx ? )|pei ?|OU Vy ? ?|kQ mB ? ? 5|XG ( pcx 1 hr hx ? )|Qq ?|Kv|OU zen ? ?|Qp ?|SS ( pmz ? ? 1 hr hx )|Kq|pcm sc.cq rfl ? 6 6 6|Km|R1 PySem.F.plainAttrs_list PySem.F.slot_list_append PySem.F.type_list_append zgt ? ?|OU zeo ? ?|SS ( WC ? ? 1 hr.m lT ? )|OU Wp ? ?|NB zfi rfl T.zz8 2 ?|pMk ( Vc 1 hr.m hx.passes rfl ? )|Rp Wx ? ? ?|Tv|Lh ?|pAv ( Lj ? ? )|NB Xm rfl T.zz7 2 ?|SS ( WC ? ? 1 hr.m hx1.passes ? )|j6 ( oN hr.units ) ? ? ( KU _ )|O0 zfl rfl T.Jb 2 ?|pCh ( Ph WG WG ? ? ? )|zc3 ( K0 hr ) ? rfl rfl 9 9|O0 zfo rfl T.z0d 2 ?|NB ( zaq rfl ) rfl T.zz3 2 ?|Nh zep ?|zbp rfl rfl T.Jc rfl T.z0c ?|Tw|XG ( WB 1 hr.m lT rfl ? )|O0 Pp rfl T.Hz 2 ?|XG ( WB 1 hr.m hx1.passes rfl ? )|R1 PySem.F.plainAttrs_list PySem.F.slot_list_extend PySem.F.type_list_extend zcr ? ?|NB zap rfl T.zz9 2 ?|HV T.z0o rfl|j6 ( oO hr.units ) ? ? ( KU _ )|HV T.z0f rfl|O0 zbt rfl T.zz5 2 ?|HV T.z0g rfl|OU zem ? ?|R1 PySem.F.plainAttrs_str PySem.F.slot_str_join PySem.F.type_str_join zb6 ? ?|Ud ( K0 hr ) ? ? ? 7|pD1 ( Uc ( K0 hr ) ? ? 7 )|pDg ( Tk ( K0 hr ) ? ? 5 )|NB ( zce rfl ) rfl T.Jc 2 ?|R1 PySem.F.plainAttrs_dict PySem.F.slot_dict_update PySem.F.type_dict_update ? ? ?|HV T.z0j rfl|HV T.z0h rfl|HV T.z0i rfl|HV T.z0k rfl|HV T.z0l rfl|HV T.z0m rfl|HV T.z0n rfl|HV T.z0p rfl/E9 _ _ _|Lp ? ?|Lq ?|Lm/PA _ _ _|nX ?|nY ? ?|oE ? ? ?|R0|zch ? ? ? ?/PS _ _ _|Lx ?|psl _ nd ?|Ly ? ? ?|Lw ?|My hx.po rfl ? ? ?|pSf ( Qj ? ? rfl )|pcs sc.cq rfl nd rfl rfl ? 6 6 6|jZ nd rfl ( zt rfl ) ?|pDp ( Tp ( K0 hr ) ? ? ? rfl )|MA hx T.z0y rfl T.z0r ?|Mh ? ?|MA hx T.z00 rfl T.z0t ?|MA hx T.z01 rfl T.z0u ?|Vp rfl rfl rfl rfl 8 ?|zcp ? ? ? kE|MA hx T.z0z rfl T.z0s ?|Qk ? ? kE|Ml hx.po ? ?|MA hx T.z02 rfl T.z0v ?|MA hx T.z03 rfl T.z0w ?|MA hx T.z04 rfl T.z0x ?/PG _ _ _|nU _ 4|nU _ nd|Mc rfl ?|pTp ?|Mg ? ? mD|jY nd rfl ( zt rfl )/PI _ _ _ _|pSq ( Xc ? )|pR1 ( Mw rfl T.z0a ? )|pEn ( zcc rfl T.zz6 ? )|zao ?|zbs rfl T.z0b ?/IK _ _ _|Mb ? ?|Lz|pGc ?|pGn ?/PT _ _ _|K7 ( KW ( oN hr.units ) ? ? ( KU _ ) )|Lg ?|pTr ( Pl ? 10 )|K7 ( KW zff ? ? ( KU _ ) )|K7 ( KW ( oO hr.units ) ? ? ( KU _ ) )|K7 ( KW zfe ? ? ( KU _ ) )|K7 ( KW Wq ? ? ( KU _ ) )|pCt ( Pj WG lX ? ? ? )|K7 ( KW lX ? ? ( KU _ ) )|K7 ( KW ( zcd hr.units ) ? ? 3 )|K7 ( KW ( nQ hr.units ) ? ? 3 )|pTb ( Ky ? 3 )|PW.pt ?/PW _ _ _|Ld ? ?|Kz ?|Lc ? ?|Lb ?".splitOn "/")
  `(tactic|repeat' $t:tactic)
local macro_rules
 |`(command|example:($v:str,$x,*):=$t:term)=>do
  let a:=x.getElems
  let i:=fun (n:Lean.Name)=>Lean.mkIdent n
  let j:=fun (k:Nat)=>i (a[k]!).raw.getId
  let f<-`(fun _ _ _ _ _ $(i `E) $(i `hr) $(i `hx)=>by have $(i `sc):ident:=$(j 2);have $(i `nd):ident:=$(i `sc.nd);ac_rfl)
  let u:Array Lean.Term:=#[i `P,i `w,i `mg,i `base,a[4]!,<-`($(a[3]!) $(i `K) $(i `a)),j 2,a[7]!]
  let e<-if a.size=9 then `($(i `F.oK) $u* ($(i `len):ident:=$(a[8]!)) $f) else `($(i `F.oK) $u* $f)
  return Lean.mkNullNode #[<-`(command|abbrev $(j 1):ident:Stmt:=$t),<-`(command|def $(j 2):ident:A1 $(a[6]!) $(a[5]!) (AT $(j 1)):=.go),<-`(command|def $(j 0):ident ($(i `T):ident:Txt $(i `K) $(i `mg) $(i `a)) ($(i `F):ident:Fun $(i `K) $(Lean.Syntax.mkStrLit ((v.getString.splitOn ".").getLast!)) $v $(j 1) $(i `f) $(i `fd)):=$e)]
example:("View.records_led_to",zxa,bJ,bK,pU,0,1,["self"],zuw):=BN (A4 12) 1
example:("View.records_standing",zxb,bL,bM,pV,0,1,["self"],zus):=BN (A4 12) 2
example:("View.pieces_named",zxc,bN,bO,pW,0,1,["self"],zuv):=BN (A4 12) 3
example:("View.count_of",zxd,bP,bQ,pX,0,2,["self","record"],zur):=BN (A4 12) 4
example:("faults_of_names",zxe,bR,bS,p9,0,1,["view","lost","twice","seen","k","value"],zu5):=A4 16
example:("left_pieces",zxf,bT,bU,ZC,0,1,["view","marked"],zux):=A4 21
example:("marked_records",zxg,bV,bW,ZD,0,1,["view","marked"],zuy):=A4 22
example:("tally",zxh,bX,bY,ZE,0,2,["many","numbers","counts","number"],zu8):=A4 24
example:("pieces_in",zxi,bZ,cA,qM,0,1,["records","pieces","value"],zu9):=A4 25
example:("Change.__init__",zxj,cB,cC,qN,0,4,["self","place","value","needs"],zr5):=BN (A4 33) 0
example:("Book.waiting",zxk,cD,cE,qO,0,1,["self"],zsb):=BN (A4 34) 4
example:("Book.block_of",zxl,cF,cG,qP,0,2,["self","number"],zso):=BN (A4 34) 8
example:("Book.ask_for_changes",zxm,cH,cI,qT,0,2,["self","numbers","number"],zsa):=BN (A4 34) 10
example:("needs_with",zxn,cJ,cK,UM,0,2,["needs","ahead"],zr7):=A4 35
example:("Hold.lack_of",zxo,cM,cN,qY,0,3,["self","number","gone","need"],zsj):=BN (A4 37) 2
example:("Hold.laid_over",zxp,cO,cP,rC,0,3,["self","values","block","laid","number"],zsm):=BN (A4 37) 3
example:("is_sign",zxq,cQ,cS,ZF,0,1,["sign"],zth):=A4 40
example:("is_name",zxr,cT,cU,ZG,0,1,["thing"],zti):=A4 44
example:("Store.hold",zxs,cV,cW,rG,0,1,["self"],ztn):=BN (A4 51) 12
example:("Plank.__init__",zxt,cX,cY,ZH,0,3,["self","blocks","cells"],zrz):=BN (A4 56) 0
example:("Plank.blocks",zxu,cZ,c7,rJ,0,1,["self"],zr0):=BN (A4 56) 1
example:("Plank.cells",zxv,c8,c9,rK,0,1,["self"],zr1):=BN (A4 56) 2
example:("Plank.writings",zxw,dA,dB,rM,0,1,["self"],zwp):=BN (A4 56) 3
example:("Plank.ask_for_block",zxx,dC,dD,ZI,0,2,["self","block"],zr2):=BN (A4 56) 6
example:("Layout.__init__",zxy,dE,dF,rO,0,5,["self","names","records","pieces","cells"],zsr):=BN (A4 58) 0
example:("Layout.counts",zxz,dG,dH,rP,0,1,["self"],zs0):=BN (A4 58) 6
example:("Layout.blocks_ahead_of_marks",zx0,dJ,dM,rQ,0,1,["self"],zsy):=BN (A4 58) 9
example:("Layout.place_from",zx1,dN,dO,rR,0,3,["self","block","k"],zss):=BN (A4 58) 10
example:("_law_cell_at",zx2,dP,dQ,ZJ,0,2,["script","k"],zry):=A4 60
example:("_law_spun",zx3,dR,dU,ZK,0,2,["cell","many","here","there","found","k"],zwt):=A4 61
example:("_law_blocks",zx4,dW,dX,ZL,0,2,["found","many","block"],zwy):=A4 67
variable(z3o:BR P w K mg base (a "View") 1 "pieces_named" bO (QY K a))(z3q:BR P w K mg base (a "View") 1 "records_standing" bM (UF K a))(z3n:BR P w K mg base (a "View") 1 "count_of" bQ (UG K a))
example:("faults_of_things",zx5,dY,dZ,ZM,1,1,["view","shared","empty","few"],zu2):=A4 17
example:("faults_of_marks",zx6,d0,d7,ZN,1,1,["view","led_to","records","pieces"],zu1):=A4 18
example:("leavings_of_records",zx7,d8,d9,sN,1,1,["view","many","left","record","leads"],zu4):=A4 20
variable(z2x:BR P w K mg base (a "Plank") 1 "blocks" c7 (MD K a))
example:("Book.__init__",zx8,eA,eB,ZO,1,2,["self","plank"],zr6):=BN (A4 34) 0
variable(z2a:BR P w K mg base (a "Hold") 1 "ask_for_changes" cI (TU K a))(z2k:BR P w K mg base (a "Hold") 1 "waiting" cE (TX K a))
example:("Book.closure",zx9,eC,eD,tL,1,2,["self","numbers","found","number","need"],zsg):=BN (A4 34) 6
variable(z2y:BR P w K mg base (a "Plank") 1 "cells" c9 (XJ K a))
example:("Book.ask_for_place",zya,eE,eF,tM,1,2,["self","place"],zr8):=BN (A4 34) 9
variable(z2g:BR P w K mg base (a "Hold") 1 "lack_of" cN (X7 K a))
example:("Hold.outcome",zyb,eI,eK,ZR,1,3,["self","block","taken","gone","out","held","number","lack"],zsl):=BN (A4 37) 1
variable(z1i:CI P w K mg base 1 "is_sign" cS (YD K a))
example:("is_piece",zyc,eL,eO,ZS,1,1,["thing"],ztj):=A4 45
variable(z2w:BR P w K mg base (a "Plank") 1 "ask_for_block" dD (NO K a))
example:("Plank.read",zyd,eQ,eU,ZT,1,2,["self","block"],zr3):=BN (A4 56) 4
example:("Plank.write",zye,eV,eX,ZU,1,3,["self","block","values"],zr4):=BN (A4 56) 5
variable(z2s:BR P w K mg base (a "Layout") 1 "place_from" dO (MH K a))
example:("Layout.name_at",zyf,eY,eZ,uJ,1,2,["self","k"],zst):=BN (A4 58) 1
example:("Layout.record_at",zyg,fA,fB,uK,1,2,["self","k"],zsu):=BN (A4 58) 2
example:("Layout.piece_at",zyh,fC,fD,uL,1,2,["self","k"],zsv):=BN (A4 58) 3
variable(z2n:BR P w K mg base (a "Layout") 1 "blocks_ahead_of_marks" dM (QF K a))
example:("Layout.record_mark",zyi,fE,fF,uM,1,2,["self","k"],zsw):=BN (A4 58) 4
example:("Layout.piece_mark",zyj,fG,fH,uN,1,2,["self","k"],zsx):=BN (A4 58) 5
example:("Layout.blocks",zyk,fI,fJ,uO,1,1,["self"],zsz):=BN (A4 58) 7
variable(z1t:CI P w K mg base 1 "_law_spun" dU (NY K a))
example:("_law_names",zyl,fK,fL,uX,1,2,["cell","many","letters","xs","size","first","second","names","k","word","j","step"],zww):=A4 62
example:("_law_text",zym,fM,fN,uZ,1,1,["cell","signs","xs","size"],zwu):=A4 63
example:("_law_layout",zyn,fP,fQ,vA,1,1,["cell","xs"],zwv):=A4 64
variable(z1b:CI P w K mg base 1 "faults_of_names" bS (YQ K a))(z1c:CI P w K mg base 2 "faults_of_things" dZ (YR K a))(z1a:CI P w K mg base 2 "faults_of_marks" d7 (YS K a))
example:("faults_in",zyo,fR,fS,vB,2,1,["view"],zuz):=A4 15
variable(z1w:CI P w K mg base 2 "leavings_of_records" d9 (YT K a))(z1x:CI P w K mg base 1 "left_pieces" bU (YU K a))(z1z:CI P w K mg base 1 "marked_records" bW (YV K a))
example:("leavings_in",zyp,fT,fU,vC,2,1,["view"],zu0):=A4 19
variable(z2z:BR P w K mg base (a "Plank") 2 "read" eU (K9 K a))
example:("values_at",zyq,fV,fW,vE,2,2,["plank","places"],zu7):=A4 23
variable(z2u:BR P w K mg base (a "Layout") 2 "record_at" fB (HD K a))(z2v:BR P w K mg base (a "Layout") 2 "record_mark" fF (KC K a))(z2r:BR P w K mg base (a "Layout") 2 "piece_mark" fH (KD K a))
example:("mended_cells",zyr,fX,fY,ZW,2,3,["layout","plank","find","place"],zvu):=A4 28
variable(z20:BR P w K mg base (a "Plank") 2 "write" eX (SZ K a))
example:("write_due",zys,fZ,f7,ZX,2,2,["plank","due","block","before","after"],zvy):=A4 29
variable(z2e:BR P w K mg base (a "Hold") 2 "closure" eD (X5 K a))(z2c:BR P w K mg base (a "Hold") 1 "block_of" cG (YA K a))(z2j:BR P w K mg base (a "Hold") 2 "outcome" eK (TY K a))
example:("row_for",zyt,f8,f9,vS,2,2,["hold","numbers","row","taken","left","block","number"],zsq):=A4 31
variable(z2b:BR P w K mg base (a "Hold") 2 "ask_for_place" eF (X4 K a))
example:("Book.newest",zyu,gA,gB,vT,2,2,["self","place"],zr9):=BN (A4 34) 3
variable(z2h:BR P w K mg base (a "Hold") 1 "laid_over" cP (X8 K a))
example:("Hold.write",zyv,gC,gD,vV,2,2,["self","block","values","told","number"],zsn):=BN (A4 37) 0
variable(z2m:BR P w K mg base (a "Layout") 2 "blocks" fJ (XZ K a))(z3u:NI P w K mg base (a "Plank") 1 "Plank" cY (XI K a))
example:("Layout.plank",zyw,gE,gF,vW,2,1,["self"],zs1):=BN (A4 58) 8
example:("_law_shown",zyx,gG,gH,ZY,2,3,["plank","sizes","name","flat","k","records","pieces","numbers"],zw5):=A4 68
variable(z2o:BR P w K mg base (a "Layout") 1 "counts" dH (MJ K a))(z2p:BR P w K mg base (a "Layout") 2 "name_at" eZ (KB K a))(z17:CI P w K mg base 3 "values_at" fW (LK K a))(z2q:BR P w K mg base (a "Layout") 2 "piece_at" fD (MI K a))(z16:CI P w K mg base 1 "tally" bY (QX K a))(z13:CI P w K mg base 1 "pieces_in" cA (UE K a))(z3p:BR P w K mg base (a "View") 1 "records_led_to" bK (YO K a))
example:("View.__init__",zyy,gI,gJ,wI,3,3,["self","layout","plank","counts","records","pieces"],zve):=BN (A4 12) 0
variable(z2i:BR P w K mg base (a "Hold") 3 "newest" gB (ML K a))(z12:CI P w K mg base 1 "needs_with" cK (X3 K a))(z3r:NI P w K mg base (a "Change") 1 "Change" cC (X2 K a))
example:("Book.change",zyz,gK,gL,wJ,3,4,["self","place","value","needs","ahead","number"],zsc):=BN (A4 34) 1
example:("Book.in_hand",zy0,gM,gO,wK,3,2,["self","place","number"],zsi):=BN (A4 34) 2
variable(z3s:NI P w K mg base (a "Hold") 2 "Hold" eB (TR K a))
example:("Store.__init__",zy1,gP,gQ,wL,3,3,["self","layout","plank"],zto):=BN (A4 51) 0
variable(z2l:BR P w K mg base (a "Hold") 3 "write" gD (X9 K a))
example:("Store.write",zy2,gR,gS,wM,3,2,["self","block"],zwq):=BN (A4 51) 10
variable(z2f:BR P w K mg base (a "Hold") 4 "in_hand" gO (LB K a))
example:("lowest_with",zy3,gT,gU,wN,4,3,["hold","places","values","k","place"],zs6):=A4 49
example:("Store.name_cells",zy4,gW,gX,ZZ,4,1,["self"],ztp):=BN (A4 51) 16
example:("Store.standing",zy5,gY,gZ,Z0,4,2,["self","record"],ztw):=BN (A4 51) 17
variable(z2d:BR P w K mg base (a "Hold") 4 "change" gL (GK K a))
example:("Store.fill_cell",zy6,g5,g6,Z2,4,5,["self","cell","name","record","need","needs"],zty):=BN (A4 51) 18
variable(z14:CI P w K mg base 3 "row_for" f9 (TZ K a))
example:("_law_due",zy7,g7,g8,Z3,4,3,["hold","sizes","name","cells","places","k","cell","p","numbers","place"],zw1):=A4 69
variable(z3w:NI P w K mg base (a "View") 4 "View" gJ (QZ K a))(z09:CI P w K mg base 3 "faults_in" fS (UH K a))(z1v:CI P w K mg base 3 "leavings_in" fU (YW K a))
example:("walk",zy8,g9,hE,xC,5,2,["layout","plank","view"],zvf):=A4 13
example:("is_sound",zy9,hG,hU,Z4,5,2,["layout","plank"],zvg):=A4 14
variable(z1y:CI P w K mg base 5 "lowest_with" gU (NT K a))
example:("free_name",zza,hV,hX,Z5,5,2,["layout","hold","places"],zs9):=A4 46
example:("free_record",zzb,hZ,iA,Z6,5,2,["layout","hold","marks"],zta):=A4 47
example:("free_piece",zzc,iB,iC,Z7,5,2,["layout","hold","marks"],ztb):=A4 48
variable(z3c:BR P w K mg base (a "Store") 5 "name_cells" gX (QL K a))
example:("Store.names",zzd,iD,iE,Z8,5,1,["self"],zts):=BN (A4 51) 7
example:("Store.cell_of",zze,iF,iG,xK,5,2,["self","name","cell","value"],ztr):=BN (A4 51) 15
variable(z3j:BR P w K mg base (a "Store") 5 "standing" gZ (JC K a))
example:("Store.recount",zzf,iH,iI,xM,5,4,["self","record","more","needs","value"],zt0):=BN (A4 51) 20
example:("Store.regroup",zzg,iJ,iK,Z9,5,4,["self","record","pieces","needs"],zt1):=BN (A4 51) 21
example:("Store.drop_record",zzh,iL,iN,xS,5,3,["self","record","gone","pieces","dropped","made","mark"],zt4):=BN (A4 51) 22
variable(z1j:CI P w K mg base 6 "is_sound" hU (YY K a))(z18:CI P w K mg base 6 "walk" hE (YX K a))(z11:CI P w K mg base 3 "mended_cells" fY (YZ K a))(z19:CI P w K mg base 3 "write_due" f7 (Y0 K a))
example:("mend",zzi,iO,iP,aA,6,2,["layout","plank","finds","due","find"],zwg):=A4 27
variable(z1g:CI P w K mg base 1 "is_name" cU (YE K a))(z23:BR P w K mg base (a "Store") 6 "cell_of" iG (NU K a))
example:("Store.ask_for_new_name",zzj,iQ,iR,aB,6,3,["self","new","given"],ztt):=BN (A4 51) 13
example:("Store.record_of",zzk,iS,iT,xW,6,2,["self","name","cell"],ztx):=BN (A4 51) 14
example:("Store.empty_cell",zzl,iU,iV,aC,6,3,["self","name","needs","gone"],zt2):=BN (A4 51) 19
variable(z22:BR P w K mg base (a "Store") 7 "ask_for_new_name" iR (T7 K a))(z1f:CI P w K mg base 6 "free_record" iA (YB K a))(z1d:CI P w K mg base 6 "free_name" hX (T5 K a))(z27:BR P w K mg base (a "Store") 5 "fill_cell" g6 (T9 K a))
example:("Store.make",zzm,iW,iX,aD,7,2,["self","name","record","cell","mark","stands"],zt5):=BN (A4 51) 1
variable(z3g:BR P w K mg base (a "Store") 7 "record_of" iT (KG K a))(z3h:BR P w K mg base (a "Store") 6 "recount" iI (QM K a))
example:("Store.link",zzn,iY,iZ,aE,7,3,["self","old","new","record","cell","more"],zt6):=BN (A4 51) 2
variable(z26:BR P w K mg base (a "Store") 7 "empty_cell" iV (UB K a))(z25:BR P w K mg base (a "Store") 6 "drop_record" iN (YH K a))
example:("Store.cut",zzo,i4,i5,yG,7,2,["self","name","record","gone"],zt8):=BN (A4 51) 3
variable(z1h:CI P w K mg base 2 "is_piece" eO (YF K a))(z1e:CI P w K mg base 6 "free_piece" iC (YC K a))(z3i:BR P w K mg base (a "Store") 6 "regroup" iK (UA K a))
example:("Store.put",zzp,i6,i7,yK,7,3,["self","name","text","record","piece","mark","filled"],zt9):=BN (A4 51) 4
example:("Store.take",zzq,i8,i9,yN,7,3,["self","name","at","record","pieces","without"],zuc):=BN (A4 51) 5
example:("Store.texts",zzr,jA,jB,yO,7,2,["self","name","pieces"],zua):=BN (A4 51) 8
example:("Store.places_of",zzs,jC,jD,yR,7,2,["self","name","record","own"],zuj):=BN (A4 51) 9
variable(z10:CI P w K mg base 7 "mend" iP (Y1 K a))(z3v:NI P w K mg base (a "Store") 4 "Store" gQ (QK K a))
example:("come_up",zzt,jE,jF,yS,7,2,["layout","plank"],zwh):=A4 54
variable(z29:BR P w K mg base (a "Store") 8 "link" iZ (UC K a))
example:("Store.move",zzu,jG,jH,yV,8,3,["self","old","new","linked","record","gone"],zue):=BN (A4 51) 6
variable(z28:BR P w K mg base (a "Store") 1 "hold" cW (T6 K a))(z3e:BR P w K mg base (a "Store") 8 "places_of" jD (YN K a))
example:("row_to_keep",zzv,jI,jJ,yY,8,2,["store","name","hold","newest"],zuk):=A4 53
variable(z3a:BR P w K mg base (a "Store") 8 "make" iX (YI K a))(z1u:CI P w K mg base 2 "_law_text" fN (Y2 K a))(z3f:BR P w K mg base (a "Store") 8 "put" i7 (YK K a))(z3k:BR P w K mg base (a "Store") 8 "take" i9 (YL K a))(z3b:BR P w K mg base (a "Store") 9 "move" jH (YM K a))(z24:BR P w K mg base (a "Store") 8 "cut" i5 (YJ K a))
example:("_law_deed",zzw,jK,jL,zI,9,3,["store","cell","names","xs","one","other","done"],zw2):=A4 65
variable(z15:CI P w K mg base 9 "row_to_keep" jJ (QN K a))
example:("_law_refused",zzx,jM,jN,aG,9,2,["store","name","right","other","e"],zwx):=A4 66
variable(z3l:BR P w K mg base (a "Store") 8 "texts" jB (UD K a))(z21:BR P w K mg base (a "Plank") 1 "writings" dB (SY K a))(z1n:CI P w K mg base 5 "_law_due" g8 (Y7 K a))(z1k:CI P w K mg base 1 "_law_blocks" dX (Y6 K a))(z1r:CI P w K mg base 10 "_law_refused" jN (Q2 K a))(z3m:BR P w K mg base (a "Store") 4 "write" gS (Q0 K a))(z1s:CI P w K mg base 3 "_law_shown" gH (Y8 K a))
example:("_law_kept",zzy,jO,jP,aJ,10,5,["store","plank","sizes","name","held","texts","writings","due","row","copy","word","block"],zw6):=A4 70
variable(z1l:CI P w K mg base 1 "_law_cell_at" dQ (TQ K a))(z1p:CI P w K mg base 2 "_law_layout" fQ (Y3 K a))(z1q:CI P w K mg base 2 "_law_names" fL (Y4 K a))(z3t:NI P w K mg base (a "Layout") 1 "Layout" dF (XY K a))(z2t:BR P w K mg base (a "Layout") 3 "plank" gF (X0 K a))(z1m:CI P w K mg base 10 "_law_deed" jL (UJ K a))(z08:CI P w K mg base 8 "come_up" jF (UI K a))(z3d:BR P w K mg base (a "Store") 6 "names" iE (YG K a))(z1o:CI P w K mg base 11 "_law_kept" jP (UK K a))
example:("law",zzz,jQ,Hy,aK,11,1,["script","sizes","names","layout","plank","store","held","word","cell","name","row","kept"],zw7):=A4 71
end
def zz1(q4s q4t q4u q4v q4w q4x q4y q4z q50 q51 q52 q53 q54 q55 q56:Addr):∃ a:Ad,a "HoldError"=q4s/\a "NoBlock"=q4t/\a "NoChange"=q4u/\a "NoRoom"=q4v/\a "NoName"=q4w/\a "Twice"=q4x/\a "NoPiece"=q4y/\a "NotSound"=q4z/\a "NoRow"=q50/\a "View"=q51/\a "Change"=q52/\a "Hold"=q53/\a "Store"=q54/\a "Plank"=q55/\a "Layout"=q56 :=
 {λs=>if s="HoldError" then q4s else if s="NoBlock" then q4t else if s="NoChange" then q4u else if s="NoRoom" then q4v else if s="NoName" then q4w else if s="Twice" then q4x else if s="NoPiece" then q4y else if s="NotSound" then q4z else if s="NoRow" then q50 else if s="View" then q51 else if s="Change" then q52 else if s="Hold" then q53 else if s="Store" then q54 else if s="Plank" then q55 else if s="Layout" then q56 else 0,by simp}
def jR(K:ι):Sp:=λvs H Q _=>∃ (s:Addr) (ns:List Int),vs=[.ref s]/\SqL K H s (ns.map V.int)/\ns.length<=63/\∀ H',Q (.bl true) H'
local macro_rules
 | `(tactic| injections)=>`(tactic| skip)
 | `(tactic| injections $x:ident $y*)=>`(tactic| ((first|have:=gmc (ok:=by intro _ _ F;apply $x<;>assumption)|have:=gfc (ok:=by intro _ _ F;apply $x<;>assumption)|have:=gnc (ok:=by intro _ _ F;apply $x<;>assumption));injections $y*))
def all_mk{P:bw}{w:World}{K:ι}{h:Heap}{mg:Str->Option Value}{fa:Addr}{q4s q4t q4u q4v q4w q4x q4y q4z q50 q51 q52 q53 q54 q55 q56:Addr}{tk_MOST_LETTERS:Tok}{tk_MOST_PIECE_SIGNS:Tok}{tk_PERCENT:Tok}(X:K.In h)(G:h.Ns bq mg)(hfa:mg "law"=some (.ref fa))
  (q0:GX K q4s "HoldError")
  (q1:GX K q4t "NoBlock")
  (q2:GX K q4u "NoChange")
  (q3:GX K q4v "NoRoom")
  (q4:GX K q4w "NoName")
  (q5:GX K q4x "Twice")
  (q6:GX K q4y "NoPiece")
  (q7:GX K q4z "NotSound")
  (q8:GX K q50 "NoRow")
  (q9:GC K q51 "View")
  (qa:GC K q52 "Change")
  (qb:GC K q53 "Hold")
  (qc:GC K q54 "Store")
  (qd:GC K q55 "Plank")
  (qe:GC K q56 "Layout")
  (qf:jj K bq "MOST_LETTERS"=some (some<|.int 8 tk_MOST_LETTERS))
  (qg:jj K bq "MOST_PIECE_SIGNS"=some (some<|.int 40 tk_MOST_PIECE_SIGNS))
  (qh:jj K bq "PERCENT"=some (some<|.int 37 tk_PERCENT))
  (qi:jj K bq "ValueError"=some none)
  (qj:jj K bq "all"=some none)
  (qk:jj K bq "bool"=some none)
  (ql:jj K bq "dict"=some none)
  (qm:jj K bq "enumerate"=some none)
  (qn:jj K bq "int"=some none)
  (qo:jj K bq "isinstance"=some none)
  (qp:jj K bq "len"=some none)
  (qq:jj K bq "list"=some none)
  (qr:jj K bq "ord"=some none)
  (qs:jj K bq "range"=some none)
  (qt:jj K bq "reversed"=some none)
  (qu:jj K bq "set"=some none)
  (qv:jj K bq "sorted"=some none)
  (qw:jj K bq "tuple"=some none)
  (qx:GF K "law" jQ)
  (_:GM K q51 "pieces_named" "View.pieces_named" bN)
  (_:GM K q51 "records_standing" "View.records_standing" bL)
  (_:GM K q51 "count_of" "View.count_of" bP)
  (_:GM K q55 "blocks" "Plank.blocks" cZ)
  (_:GM K q53 "ask_for_changes" "Book.ask_for_changes" cH)
  (_:GM K q53 "waiting" "Book.waiting" cD)
  (_:GM K q55 "cells" "Plank.cells" c8)
  (_:GM K q53 "lack_of" "Hold.lack_of" cM)
  (_:GF K "is_sign" cQ)
  (_:GM K q55 "ask_for_block" "Plank.ask_for_block" dC)
  (_:GM K q56 "place_from" "Layout.place_from" dN)
  (_:GM K q56 "blocks_ahead_of_marks" "Layout.blocks_ahead_of_marks" dJ)
  (_:GF K "_law_spun" dR)
  (_:GF K "faults_of_names" bR)
  (_:GF K "faults_of_things" dY)
  (_:GF K "faults_of_marks" d0)
  (_:GF K "leavings_of_records" d8)
  (_:GF K "left_pieces" bT)
  (_:GF K "marked_records" bV)
  (_:GM K q55 "read" "Plank.read" eQ)
  (_:GM K q56 "record_at" "Layout.record_at" fA)
  (_:GM K q56 "record_mark" "Layout.record_mark" fE)
  (_:GM K q56 "piece_mark" "Layout.piece_mark" fG)
  (_:GM K q55 "write" "Plank.write" eV)
  (_:GM K q53 "closure" "Book.closure" eC)
  (_:GM K q53 "block_of" "Book.block_of" cF)
  (_:GM K q53 "outcome" "Hold.outcome" eI)
  (_:GM K q53 "ask_for_place" "Book.ask_for_place" eE)
  (_:GM K q53 "laid_over" "Hold.laid_over" cO)
  (_:GM K q56 "blocks" "Layout.blocks" fI)
  (_:GN K q55 "Plank" "Plank.__init__" cX)
  (_:GM K q56 "counts" "Layout.counts" dG)
  (_:GM K q56 "name_at" "Layout.name_at" eY)
  (_:GF K "values_at" fV)
  (_:GM K q56 "piece_at" "Layout.piece_at" fC)
  (_:GF K "tally" bX)
  (_:GF K "pieces_in" bZ)
  (_:GM K q51 "records_led_to" "View.records_led_to" bJ)
  (_:GM K q53 "newest" "Book.newest" gA)
  (_:GF K "needs_with" cJ)
  (_:GN K q52 "Change" "Change.__init__" cB)
  (_:GN K q53 "Hold" "Book.__init__" eA)
  (_:GM K q53 "write" "Hold.write" gC)
  (_:GM K q53 "in_hand" "Book.in_hand" gM)
  (_:GM K q53 "change" "Book.change" gK)
  (_:GF K "row_for" f8)
  (_:GN K q51 "View" "View.__init__" gI)
  (_:GF K "faults_in" fR)
  (_:GF K "leavings_in" fT)
  (_:GF K "lowest_with" gT)
  (_:GM K q54 "name_cells" "Store.name_cells" gW)
  (_:GM K q54 "standing" "Store.standing" gY)
  (_:GF K "is_sound" hG)
  (_:GF K "walk" g9)
  (_:GF K "mended_cells" fX)
  (_:GF K "write_due" fZ)
  (_:GF K "is_name" cT)
  (_:GM K q54 "cell_of" "Store.cell_of" iF)
  (_:GM K q54 "ask_for_new_name" "Store.ask_for_new_name" iQ)
  (_:GF K "free_record" hZ)
  (_:GF K "free_name" hV)
  (_:GM K q54 "fill_cell" "Store.fill_cell" g5)
  (_:GM K q54 "record_of" "Store.record_of" iS)
  (_:GM K q54 "recount" "Store.recount" iH)
  (_:GM K q54 "empty_cell" "Store.empty_cell" iU)
  (_:GM K q54 "drop_record" "Store.drop_record" iL)
  (_:GF K "is_piece" eL)
  (_:GF K "free_piece" iB)
  (_:GM K q54 "regroup" "Store.regroup" iJ)
  (_:GF K "mend" iO)
  (_:GN K q54 "Store" "Store.__init__" gP)
  (_:GM K q54 "link" "Store.link" iY)
  (_:GM K q54 "hold" "Store.hold" cV)
  (_:GM K q54 "places_of" "Store.places_of" jC)
  (_:GM K q54 "make" "Store.make" iW)
  (_:GF K "_law_text" fM)
  (_:GM K q54 "put" "Store.put" i6)
  (_:GM K q54 "take" "Store.take" i8)
  (_:GM K q54 "move" "Store.move" jG)
  (_:GM K q54 "cut" "Store.cut" i4)
  (_:GF K "row_to_keep" jI)
  (_:GM K q54 "texts" "Store.texts" jA)
  (_:GM K q55 "writings" "Plank.writings" dA)
  (_:GF K "_law_due" g7)
  (_:GF K "_law_blocks" dW)
  (_:GF K "_law_refused" jM)
  (_:GM K q54 "write" "Store.write" gR)
  (_:GF K "_law_shown" gG)
  (_:GF K "_law_cell_at" dP)
  (_:GF K "_law_layout" fP)
  (_:GF K "_law_names" fK)
  (_:GN K q56 "Layout" "Layout.__init__" dE)
  (_:GM K q56 "plank" "Layout.plank" gE)
  (_:GF K "_law_deed" jK)
  (_:GF K "come_up" jE)
  (_:GM K q54 "names" "Store.names" iD)
  (_:GF K "_law_kept" jO)
  (q3n:ca K (.ref q55) "contents"=some none)
  (q3o:ca K (.ref q55) "width"=some none)
  (q3p:ca K (.ref q55) "written"=some none)
  (q3q:ca K (.ref q53) "ground"=some none)
  (q3r:ca K (.ref q53) "made"=some none)
  (q3s:ca K (.ref q53) "made_in"=some none)
  (q3t:ca K (.ref q53) "latest"=some none)
  (q3u:ca K (.ref q53) "outs"=some none)
  (q3v:ca K (.ref q52) "place"=some none)
  (q3w:ca K (.ref q52) "value"=some none)
  (q3x:ca K (.ref q52) "needs"=some none)
  (q3y:ca K (.ref q56) "name_blocks"=some none)
  (q3z:ca K (.ref q56) "record_blocks"=some none)
  (q40:ca K (.ref q56) "piece_blocks"=some none)
  (q41:ca K (.ref q56) "width"=some none)
  (q42:ca K (.ref q54) "plan"=some none)
  (q43:ca K (.ref q54) "book"=some none)
  (q44:ca K (.ref q54) "taken_out"=some none)
  (q45:ca K (.ref q51) "name_values"=some none)
  (q46:ca K (.ref q51) "record_values"=some none)
  (q47:ca K (.ref q51) "piece_values"=some none)
  (q48:ca K (.ref q51) "record_marks"=some none)
  (q49:ca K (.ref q51) "piece_marks"=some none)
  (q4a:ca K (.ref q51) "leads"=some none)
  (q4b:ca K (.ref q51) "namings"=some none)
  (q4c:ca K (.ref q51) "reached"=some none)
  (q4d:va K (.ref q4w) (.ref q4s)=some true)
  (q4e:va K (.ref q4x) (.ref q4s)=some true)
  (q4f:va K (.ref q4y) (.ref q4s)=some true)
  (q4g:va K (.ref q4v) (.ref q4s)=some true)
  (q4h:ca K (.ref q4w) "__getattribute__"=some (some<|.builtin "BaseException.__getattribute__"))
  (q4i:ca K (.ref q4w) "__getattr__"=some none)
  (q4j:Js K q4w (.type "BaseException")=some true)
  (q4k:W.isClsIn K q4w=true)
  (q4l:ca K (.ref q4w) "__class__"=some (some<|.builtin "object.__class__"))
  (q4m:xc K (.builtin "object.__class__") "__get__"=some (some<|.builtin "getset_descriptor.__get__"))
  (q4n:Gr K (.builtin "object.__class__")=some true)
  (q4o:Js K q4w (.type "object")=some true)
  (q4p:zv K (.ref q4w) (.ref q4w)=some true)
  (q4q:zv K (.ref q4w) (.type "ValueError")=some true)
  (q4r:Lf K (.ref q4w) [.ref q4t,.ref q4u,.ref q4y,.ref q4v,.ref q50,.ref q4z,.ref q4x]=some false) :
  ∃ fd:gq,(∀ (s:ξ) (v:Value),xg s fd {[v],[]} [("script",v)])/\∀ base:Heap,K.In base->base.Ns bq mg->FnOk P w K mg base (D6 P w) 12 fa fd ["script"] (jR K):=by
 obtain⟨a,rfl,rfl,rfl,rfl,rfl,rfl,rfl,rfl,rfl,rfl,rfl,rfl,rfl,rfl,rfl⟩:=zz1 q4s q4t q4u q4v q4w q4x q4y q4z q50 q51 q52 q53 q54 q55 q56
 have T:Txt K mg a:={qa.c,qb.c,qe.c,qd.c,qc.c,q9.c,ii X G q0.ac,{_,ii X G q0.ac,rfl},⟨q0.ex⟩,{_,ii X G qf,_,rfl},{_,ii X G qg,_,rfl},ii X G q1.ac,{_,ii X G q1.ac,rfl},⟨q1.ex⟩,ii X G q2.ac,{_,ii X G q2.ac,rfl},⟨q2.ex⟩,ii X G q4.ac,{_,ii X G q4.ac,rfl},⟨q4.ex⟩,ii X G q6.ac,{_,ii X G q6.ac,rfl},⟨q6.ex⟩,ii X G q3.ac,{_,ii X G q3.ac,rfl},⟨q3.ex⟩,ii X G q8.ac,{_,ii X G q8.ac,rfl},⟨q8.ex⟩,ii X G q7.ac,{_,ii X G q7.ac,rfl},⟨q7.ex⟩,{_,ii X G qh,_,rfl},ii X G q5.ac,{_,ii X G q5.ac,rfl},⟨q5.ex⟩,f_ X G qi,f_ X G qj,f_ X G qk,f_ X G ql,f_ X G qm,f_ X G qn,f_ X G qo,f_ X G qp,f_ X G qq,f_ X G qr,f_ X G qs,f_ X G qt,f_ X G qu,f_ X G qv,f_ X G qw}
 have TPk:DL K a:=⟨T.Jh,q3n,q3o,q3p⟩
 have TBk:o6 K (a "Hold") (a "Change"):=⟨T.Jd,q3q,q3r,q3s,q3t,q3u,T.z0e,q3v,q3w,q3x⟩
 have TLy:D2 K a:=⟨T.Jg,q3y,q3z,q40,q41⟩
 have TSt:QJ K a:=⟨T.Jj,q42,q43,q44⟩
 have TVw:TV K a:=⟨T.Jk,q45,q46,q47,q48,q49,q4a,q4b,q4c⟩
 have THe:MR K a:={λc h=>by rcases h with rfl|rfl|rfl|rfl;exact q4d;exact q4e;exact q4f;exact q4g,⟨q4h,q4i,q4j,q4k,q4l,q4m,q4n,q4o⟩,q4p,q4q,q4r}
 obtain⟨fd,hb,F⟩:=qx.law X G hfa<|λz z z z z z z z=>.of_eq rfl;refine{fd,hb,λbase z z=>?_}
 injections zxa zxb zxc zxd zxe zxf zxg zxh zxi zxj zxk zxl zxm zxn zxo zxp zxq zxr zxs zxt zxu zxv zxw zxx zxy zxz zx0 zx1 zx2 zx3
 injections zx4 zx5 zx6 zx7 zx8 zx9 zya zyb zyc zyd zye zyf zyg zyh zyi zyj zyk zyl zym zyn zyo zyp zyq zyr zys zyt zyu zyv zyw zyx
 injections zyy zyz zy0 zy1 zy2 zy3 zy4 zy5 zy6 zy7 zy8 zy9 zza zzb zzc zzd zze zzf zzg zzh zzi zzj zzk zzl zzm zzn zzo zzp zzq zzr
 injections zzs zzt zzu zzv zzw zzx zzy
 exact FnOk.imp (sp:=pR K a) (by apply zzz<;>assumption) (λvs H Q E ⟨s,ns,e,hs,hn,q⟩=>{s,ns,e,TVw,⟨TBk,TPk,TLy,TSt⟩,THe,hs,hn,q})
def walk{l:W.OpenLaw}{q:bw}{loose:List Str}{XP:(Str->Option Value)->Heap->Prop}{YP:World->Heap->Prop}{d:DefRec}{K:Params->ι}(hn:l.most=some 63)(hdf:d.params.defaults=[])
  (hY:∀ (w:World) (h:Heap),YP w h->(K w.params).In h)
  (F:∀ (w:World) (mg:Str->Option Value) (fa:Addr) (h:Heap),(K w.params).In h->h.Ns bq mg->mg d.name=some (.ref fa) ->
   ∃ fd:gq,(∀ (s:ξ) (u:Value),xg s fd {[u],[]} [("script",u)])/\∀ base:Heap,(K w.params).In base->base.Ns bq mg->FnOk l.prog w (K w.params) mg base (D6 l.prog w) 12 fa fd ["script"] (jR<|K w.params)) :
  W.WalkO q loose XP YP l.row.toRowW d [] (λf vs=>PySem.call f vs) :=
 L2.walk_of (n:=63) (k:=12) (x:="script") (CX:=λw=>D6 l.prog w) (sp:=λw=>jR<|K w.params) hn (by decide) hdf {rfl,by decide,by decide} hY F (λy y a ns hl y hS=>{a,ns,rfl,hS,hl,λy=>rfl}) λy y y y y z=>lS z
end L2
local macro_rules
 |`(command|example:=$s:str)=>do
  return Lean.mkNullNode (<-(s.getString.splitOn " "++(List.range 1038).map (s!"o_{·}")).toArray.mapM fun n=>`(command|theorem $(Lean.mkIdent (.mkSimple ("tw"++if n.front.isDigit then n else s!"{(`PySem.Challenge.cw_holdback_k61_a_row_to_keep_holds++.mkSimple n:Lean.Name).hash}"))):ident:True:=⟨⟩))
namespace PySem.W.Fast
example:="sts_71 7726517844911053029 tree_539 tree_704 sts_865 sts_191 tree_160 tree_863 tree_145 tree_321 tree_862 tree_1037 tree_175 sts_241 tree_361 tree_85 tree_782 tree_448 tree_957 sts_863 sts_131 heap_46 sts_362 tree_115 tree_100 sts_499 sts_322 tree_240 sts_146 env_41 sts_958 sts_449 sts_800 tree_799 tree_498 sts_161 tree_190 sts_176 heap_1038 3040173822219305255 sts_540 sts_49 tree_47 sts_101 sts_86 sts_116 sts_786 tree_130 view_39 heap_39 tree_70"
end PySem.W.Fast
open PySem PySem.W PyProof.Rows
set_option Elab.async false
set_option tactic.hygienic true
set_option maxRecDepth 100000 in
set_option maxHeartbeats 0 in
theorem PySem.Challenge.cw_holdback_k61_a_row_to_keep_holds : PySem.Challenge.rw_holdback_k61_a_row_to_keep.Holds := by
 w_on;o_law;k_head;(case hw=>w_witness2)
 k_fill
 refine L2.walk (l:=PySem.Challenge.rw_holdback_k61_a_row_to_keep) rfl rfl (λw h Y=>PySem.W.kIn_of Y) ?F
 case F =>
  intro w mg fa h KX G hmg;apply L2.all_mk KX G hmg<;>first|(apply L2.gc;(case a=>k_is);(case l=>k_is);(case c=>k_is);(case k=>k_is);(case i=>k_is))|(apply L2.GX.mk;(case ac=>k_is);(case ex=>k_exc))|(apply L2.gf;(case a=>k_is);(case l=>k_is);(case c=>k_is);(case k=>k_is))|(apply L2.gm;(case a=>k_is);(case l=>k_is);(case c=>k_is);(case k=>k_is);(case i=>k_is))|(apply L2.gn;(case a=>k_is);(case l=>k_is);(case c=>k_is);(case k=>k_is);(case i=>k_is);(case m=>k_is);(case n=>k_is);(case s=>k_is))|k_is|kts_exm|kit_is
