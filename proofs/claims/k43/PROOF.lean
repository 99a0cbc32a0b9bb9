import PyProof.Rows.All
import Wide.All
import OpenK.AllK
import Wide.FinOn
import Lean
import PyProof.EqAt
import PyProof.EqKinds
import PyProof.TupleCall
import PyProof.SetScanFacts
import PyProof.Rows.SetFrom
import PyProof.Rows.SortWalk
import PyProof.CollectWalk
import PyProof.DictWalks
import PySem.Challenge.RW_holdback_k43_changes_told
set_option linter.all false
set_option maxRecDepth 100000
set_option maxHeartbeats 8000000
open PySem PySem.Spec PyProof.Rows
open _root_.Array renaming length_toList->br,getElem?_eq_getElem->da,getElem?_eq_some_iff->fj,getElem?_toList->jc,getElem?_eq_none->xi,append_assoc->zb,toList_push->B_,all_toList->Eo,all_append->Er,toList->I_
open _root_.Bool renaming false_ne_true->ψ,and_eq_true->dg,or_false->dt,false_and->iu,false_eq_true->iy,eq_iff_iff->je,true_and->kz,or_assoc->sv,or_eq_false_iff->tf,or_eq_true->uc,true_or->uh,false_or->vx,not_eq_true'->Au,eq_false_iff->Be,not_eq_true->Ei
open _root_.False renaming elim->iw
open _root_.ForInStep renaming yield->ic
open _root_.Function renaming comp_def->pr
open _root_.Iff renaming rfl->Kr
open _root_.Int renaming toNat_natCast->ai,ofNat_lt->bv,toNat_of_nonneg->c_,ofNat_le->lv,natCast_nonneg->nq,zero_add->pq,emod_nonneg->tm,emod_lt_of_pos->ul,eq_ofNat_of_zero_le->wc,not_lt->xn,lt_succ->yk,le_trans->Iy,ne_of_gt->Jr
open _root_.Int.ofNat renaming inj->bc
open _root_.List renaming getElem?_eq_getElem->ζ,getElem?_eq_some_iff->ι,length_map->ν,mem_singleton->ο,mem_of_getElem?->π,getElem?_map->ρ,mem_cons_of_mem->χ,size_toArray->aa,range->ag,replicate->ah,length_append->aj,mem_cons->ak,getElem?_append_left->am,getElem?_append_right->ao,mem_cons_self->aq,length_reverse->ax,lookup_cons->ay,mem_append->bh,map_append->bo,mem_range->bp,mem_append_right->bw,getElem?_eq_none->bx,not_mem_nil->bz,length_cons->cf,mem_map->cj,range_succ->cq,map_cons->cu,reverse_cons->dh,length_take->dk,take_length->dn,any_eq_true->dv,lookup->dw,foldl_cons->fe,getElem?_set_self->fh,append_assoc->fi,take_add_one->fk,replicate_succ->fo,length_set->fq,eraseIdx_eq_take_drop_succ->fu,length_singleton->f_,mem_append_left->gr,getElem?_set_ne->gu,foldl_append->h_,find?_cons->ia,getElem_of_mem->ig,length_drop->io,all_eq_true->ip,pairwise_cons->iz,filter_append->ja,find?_eq_none->jb,nodup_cons->jf,any_cons->jt,cons_append->jy,find?_eq_some_iff_append->kf,cons_lt_cons_iff->lb,flatten_cons->lg,length_range->lj,Perm->lw,drop_eq_getElem_cons->mf,mem_or_eq_of_mem_set->mh,eq_of_mem_replicate->mx,length_nil->na,map_inj_right->n_,length_eq_zero_iff->og,nodup_nil->pb,pairwise_lt_range->pi,map_map->pv,length_replicate->pz,take_append_drop->q_,length_filter_le->rf,mem_iff_getElem?->rg,reverse_reverse->tj,mem_filter->tq,append_nil->t9,nil_append->ua,filterMap_cons->uf,getD_eq_getElem?_getD->uy,length_eraseIdx_of_lt->uz,range_add->vd,pairwise_iff_getElem->vf,mem_of_find?_eq_some->vg,length->vj,nodup_append->vp,all_cons->vw,take_append_getElem->wb,getElem?_replicate->wk,getElem_mem->wt,filter_cons_of_neg->wv,filter_cons_of_pos->ww,foldl->xf,range_succ_eq_map->xg,take_of_length_le->xk,drop_of_length_le->xl,of_mem_zip->xo,getElem?_toArray->xr,mem_filterMap->zd,getElem?_drop->zi,set_cons_zero->zn,getElem?_take->zp,countP_append->zq,any_eq_false->zv,take_sublist->z_,map_nil->Ar,all_map->Bi,getElem_take->Br,getElem?_set->Cn,head?_filter->Co,getElem_inj->Cr,perm_middle->Ee,mem_reverse->En,forIn_cons->Fs,any_append->F_,find?_some->Ge,map->Ie,map_drop->Ik,getD->Ix,map_set->Jo,any_nil->Js
open _root_.List.Nodup renaming length_le_of_subset->sq
open _root_.List.Pairwise renaming nil->At
open _root_.List.cons renaming injEq->Fu
open _root_.Nat renaming le_refl->ξ,lt_of_lt_of_le->τ,le_trans->υ,le_succ_of_le->av,ne_of_lt->aw,zero_le->a_,le_of_eq->bn,le_of_not_lt->bu,le_of_lt_succ->cy,lt_of_le_of_lt->cz,le_succ->dq,le_of_ble_eq_true->dz,mul_le_mul->e_,lt_succ_self->ff,le_of_lt->fg,lt_of_le_of_ne->gj,lt_of_lt_of_eq->gk,lt_or_ge->gq,mul_le_mul_left->ik,ne_of_gt->il,mul_comm->ji,lt_succ_of_lt->jn,sub_self->ko,min_eq_left->ku,lt_irrefl->kx,div_lt_of_lt_mul->lu,succ_le_succ->l8,succ_lt_succ->l_,not_lt_zero->my,le_antisymm->nj,eq_zero_or_pos->n8,lt_succ_of_le->oz,le_add_left->ue,le_of_succ_le_succ->xm,add_le_add_right->xt,ble->yl,add_le_add_left->yt,add_assoc->yz,mod_lt->zj,pos_of_ne_zero->zm,add_comm->An,lt_trans->As,min_le_right->Di,le_add_right->Ea,div_add_mod->Ga,succ_mul->Ja
open _root_.Ne renaming symm->di
open _root_.Option renaming map_eq_some_iff->bq,isSome_iff_exists->ee,map_some->jg,bind_some->rq,filter->sx,isSome_map->vk,none->vm,join_some->wm,bind_eq_some_iff->wq,map_map->yf,getD_none->Do
open _root_.Option.some renaming inj->cm,injEq->Bt
open _root_.Or renaming inr->zg,inl->Je
open _root_.PyProof.Rows renaming slot_tuple_getitem->ie,callWith_type1->im,IntsAre->nc,AllBare->oq,size_push'->sj,envOfC->t_,assignInOrder_cons->ut,step_dedup->u_,firstMet->va,firstMet_length_le->vb,subscriptTail_builtinR->xa,subscriptTail->yy,assignInOrder_nil->zu,Subscript_->He
open _root_.PyProof.Rows.F renaming plain_set_update_loop->ii,entry_set_update_loop->mo
open _root_.PyProof.Rows.IntsAre renaming length->yj
open _root_.PyProof.Rows.IsTup renaming new->Cu
open _root_.PySem renaming wpAny_bind->δ,Shared->ε,wpAny_pure->μ,starEach->af,Program->au,mainGlobals->az,Around->bg,wpAny_newObj_type->ce,compareOp->cw,wpAny_callSpecial?_slot->df,wpAny_call_entry->dm,FuncData->dr,wpAny_holding->d_,binaryOp->fv,backTo->gi,wpAny_field->gy,intKind->gz,wpAny_truthy_bool->g_,sysModules->iq,rawInt->ir,wpAny_setField_rec->i_,wpAny_setState_of->jk,wpAny_attempt->ju,Builtin->jw,wpAny_setEntries_of->jx,wpAny_askSetting->j_,sizeLine_eq->ka,keywordEach->ke,codeAny_mono->kg,tupleKind_room_in1->ki,PyData->kj,codeAny_builtin->kq,behindInMarks->ky,wpAny_mono->ln,pyNext->mj,attributeBase->mv,wpAny_passesOwn->m_,wpAny_ite_false->ni,wpAny_Call_Name_kw->nu,call_meets->nv,sliceBounds->oa,bootBuiltins->oo,holding->oy,wpAny_setField->pd,wpAny_rule->rj,getMethod->rk,scanBound->r_,wpAny_isInstance->si,codeAny->sr,backToKw->sy,wpAny_execs_nil->tw,letOwnedTupleGo->tz,setNext->ui,assignEach->uq,firstArgMember->ux,wpAny_fieldsOf->vc,wpAny_binaryOp_repeat_ref->ve,foldedSetIterable->vh,BindsTo->vi,wpAny_pyIter_list->vn,fits_of_scanBound->vo,wpAny_standAt->vq,wpAny_comprehension_free->vy,ExceptHandler->vz,plainId_quiet->v_,tupleKind->wf,swapsWith->wg,NameKind->wj,noFill_tuple_add->wl,setFlight->wn,checkBuiltinCall->wo,standAt->wx,wpAny_call->wz,getItem->w_,typeIs_int->xc,ElemsOf->xh,wpAny_isTrue_Compare1->xp,builtinLookup_eq_fast->xq,callWith->xy,IsPart->x_,subscripted->ya,codeAny_call_builtin->yc,wpAny_seqItems->ye,isSubtype_type->yg,isSubtype_stop->yh,Keyword->yn,valueAt->yo,callerA->yp,pickOrder->yq,assignInOrder->yv,seq_tuple_add->yx,setEntries->zk,setsByText->zl,GenState->zr,wpAny_assign_Name->zt,concat_meets->Aa,wpAny_typeOf->Ae,seqIndex_neg->Af,slot_list_getitem->Ai,relayAll->Bs,wpAny_storeSet_of->Ca,wpAny_pyIter_slot->Ce,wpAny_setEpoch_of->Cf,wpAny_pyIter_enum->Ci,wpAny_execs_cons->Cs,assign->Ct,pyIter->C_,wpAny_Dict_empty->Du,noteFrame->D_,wpAny_items_cons->Ef,seqIndex_of->Fe,wpAny_of_eq->Ff,builtinsNs->Gf,wpAny_Name->Gi,bindName->Gn,Result->Gu,typeLookup->Ha,typeIs_str->Hf,isInstance->Ho,intKind_is->Hu,cellsFrom->Iq,seqItems?->Iv,drawOrder->Iw,isTrue->Iz,argsOk->Ji
open _root_.PySem.Around renaming under_plainId->jm,under->zw
open _root_.PySem.Bind renaming checkArgs->Hr
open _root_.PySem.Builtin.Frozenset renaming updateFrom->Ft,newClass->Ic,sizeOf->Ij
open _root_.PySem.Builtin.List renaming listTooLong->mw,listLengthHint->uj,listExtendWith->uk,listSameRef->wa
open _root_.PySem.Builtin.Range renaming rangeSize->Il
open _root_.PySem.Builtin.Slice renaming slicePlaces->jd,sliceAdjust->ma,sliceApplied->uv,slicePartIndex->Fn,sliceFields->Ig
open _root_.PySem.Builtin.SmallTypes renaming nextOf->me
open _root_.PySem.Builtin.Tuple renaming tupleExact->jq,tupleItemsOf->G_,tupleTooMany->Hn
open _root_.PySem.Calls renaming callWith_builtin->o_,evalArgs_plain->s_,Name_function_global->uo,spliced_cons->ze,spliced_nil->zy
open _root_.PySem.CmpOp renaming NotIn->Ka
open _root_.PySem.Code renaming isFrame->zx,frames->Ke
open _root_.PySem.Data renaming seq->Hi
open _root_.PySem.EntryCells renaming newEntry->yu
open _root_.PySem.F renaming slot_enumerate_next->k_,slot_tuple_mul->rn,slot_int_rmul->ub,slot_tuple_iterator_next->uw,args_enumerate_next_1->wu,entry_enumerate_next->xj,args_list_append_2->yb,entry_list_append->yr,slot_list_append->zf,args_tuple_mul_2->zh,args_int_rmul_2->Ao,slot_tuple_rmul->A_,entry_tuple_mul->Ba,slot_int_index->Ds,entry_int_rmul->Dt,fills_int_mul->Fo
open _root_.PySem.Heap renaming get?_push_of_some->θ,lt_size->ω,get?_push_size->ae,get?_update_other->ca,get?_update_self->fz,SameBut->jh,ExtBut->lq,size_push->xx
open _root_.PySem.Heap.IsSliceOf renaming new->Kf
open _root_.PySem.Heap.SameBut renaming update->ug
open _root_.PySem.NameKind renaming free->cb,cell->du
open _root_.PySem.Obj renaming data_mapFields->ix,mapSeq->jr,isFreed_of_fields->p_,mapFields->ss,putSet->H_
open _root_.PySem.PyData renaming strOk->jj,canLayAll0->ph,depthAll->ud,canLay0->yd,int->zo,depth->Bf,tuple->Jt,eqv->Kn
open _root_.PySem.SeqAt renaming in_tupleAt->Dr,EqAt->Ki
open _root_.PySem.SeqAt.EqAt renaming int_str->y_,str_int->za
open _root_.PySem.SetTable renaming below->fb,grown->jz,Probe->Ht,slot->Ii
open _root_.PySem.SetTable.below renaming go->Bn
open _root_.PySem.SetTable.probe renaming go->Bo
open _root_.PySem.Str renaming ofString->bd,length->xb,empty->Io
open _root_.PySem.Value renaming ref->ba,none->de,int->gg,type->jp,isInt_shape->om,bool->um,str->we,isInt->Es,float->Eu,isStrOf->Ih,bytes->J_
open _root_.PySem.W renaming Frag->η,findIn->b_,mg_none_of->fm,exmAny->ij,mg_of->jo,nsIn->jv,emptyDict->kd,keepIn->mq,instObj->rh,fnOf->vt,plainGet->wy,hasDictIn->xu,looks_findIn->xv,specialIn->xw,codeIn->xz,plainGet_of->yw,callWith_K->zz,makesIn->De,cellsFrom_some->Df,methodObj->E_,plainOver->Fa,methodCall_KW->Fi,lookIn->Go,InstAt->Gr,isFn->Gs,takerIn->Im,takesIn->Ip,OpenLaw->Ir,clsIn->Jf
open _root_.PySem.Walks renaming list->Ko
open _root_.PySem.pickOrder renaming go->Bu
open _root_.Sum renaming inl->mz,inr->ym
open _root_.Sum.inl renaming inj->Ju
open _root_.Sum.inr renaming inj->Et
open _root_.True renaming intro->uu
namespace L2
def md(y:Int)(k:Nat)(h:0<k):∃ n:Nat,1+y % (k:Int)=n/\1<=n/\n<=k:=by
 obtain⟨b,e⟩:=wc (tm y (show(k:Int)≠0 by omega))
 have:=ul y (show 0<(k:Int) by omega);exact⟨1+b,by omega,by omega,by omega⟩
def mn(y:Int)(k:Nat)(h:0<k):∃ n:Nat,y % (k:Int)=n/\n<k:=by
 obtain⟨b,e⟩:=wc (tm y (show(k:Int)≠0 by omega))
 have:=ul y (show 0<(k:Int) by omega);exact⟨b,e,by omega⟩
section
variable{a b c k:Nat}{z:Int}
def c3(h:a<3):a=0\/a=1\/a=2:=by omega
def c5(h:a<5):a=0\/a=1\/a=2\/a=3\/a=4:=by omega
def oA(h:a<=b)(d:yl b c=true):a<=c:=υ h (dz d)
def oB(h:a<b)(d:yl b (c+1)=true):a<=c:=cy (τ h (dz d))
def oC(h:a<=b)(d:yl (b+1) c=true):a<c:=cz h (dz d)
def oD(h:a<b)(d:yl b c=true):a<c:=τ h (dz d)
def oE(h:a<=b)(d:yl (b+k) c=true):a+k<=c:=υ (xt h k) (dz d)
def oG(h:a<=b)(d:yl (b+k+1) c=true):a+k<c:=cz (xt h k) (dz d)
def oH(h:a<b)(d:yl (b+k) c=true):a+k<c:=τ (Nat.add_lt_add_right h k) (dz d)
def iA(h:a<=b)(d:decide ((b:Int)<z)=true):(a:Int)<z:=Int.lt_of_le_of_lt (lv.mpr h) (of_decide_eq_true d)
def iB(h:a<b)(d:decide ((b:Int)<=z)=true):(a:Int)<z:=Int.lt_of_lt_of_le (bv.mpr h) (of_decide_eq_true d)
def iM(d:decide (z<=0)=true):z<=(a:Int):=Iy (of_decide_eq_true d) (nq a)
def i0:(0:Int)<=(a:Int):=nq a
def nE{P:Prop}(d:Nat.beq a b=false):¬(a=b/\P):=λh=>by rw[h.1,Nat.beq_refl]at d;cases d
def nL{α :Prop}(h:a<b)(g:b<=a): α :=absurd h (Nat.not_lt.mpr g)
def nZ{α :Prop}(h:a<0): α :=absurd h (my a)
end
def x2{p:A->B->Prop}(a b)(h:p a b):∃ a b,p a b:=⟨_,_,h⟩
def x3{p:A->B->C->Prop}(a b c)(h:p a b c):∃ a b c,p a b c:=⟨_,_,_,h⟩
def x4{p:A->B->C->D->Prop}(a b c d)(h:p a b c d):∃ a b c d,p a b c d:=⟨_,_,_,_,h⟩
def x5{p:A->B->C->D->F->Prop}(a b c d e)(h:p a b c d e):∃ a b c d e,p a b c d e:=⟨_,_,_,_,_,h⟩
def x6{p:A->B->C->D->F->G->Prop}(a b c d e f)(h:p a b c d e f):∃ a b c d e f,p a b c d e f:=⟨_,_,_,_,_,_,h⟩
def x7{p:A->B->C->D->F->G->I->Prop}(a b c d e f g)(h:p a b c d e f g):∃ a b c d e f g,p a b c d e f g:=⟨_,_,_,_,_,_,_,h⟩
def x8{p:A->B->C->D->F->G->I->J->Prop}(a b c d e f g i)(h:p a b c d e f g i):∃ a b c d e f g i,p a b c d e f g i:=⟨_,_,_,_,_,_,_,_,h⟩
def x9{p:A->B->C->D->F->G->I->J->L->Prop}(a b c d e f g i j)(h:p a b c d e f g i j):∃ a b c d e f g i j,p a b c d e f g i j:=⟨_,_,_,_,_,_,_,_,_,h⟩
def Gb{p:A->B->C->D->F->G->I->J->L->M->Prop}(a b c d e f g i j l)(h:p a b c d e f g i j l):∃ a b c d e f g i j l,p a b c d e f g i j l:=⟨_,_,_,_,_,_,_,_,_,_,h⟩
def IK{p:A->B->C->D->F->G->I->J->L->M->N->Prop}(a b c d e f g i j l m)(h:p a b c d e f g i j l m):∃ a b c d e f g i j l m,p a b c d e f g i j l m:=⟨_,_,_,_,_,_,_,_,_,_,_,h⟩
def RG{p:A->B->C->D->F->G->I->J->L->M->N->O->Prop}(a b c d e f g i j l m n)(h:p a b c d e f g i j l m n):∃ a b c d e f g i j l m n,p a b c d e f g i j l m n:=⟨_,_,_,_,_,_,_,_,_,_,_,_,h⟩
def NF{p:A->B->C->D->F->G->I->J->L->M->N->O->P->R->Prop}(a b c d e f g i j l m n o q)(h:p a b c d e f g i j l m n o q):∃ a b c d e f g i j l m n o q,p a b c d e f g i j l m n o q:=⟨_,_,_,_,_,_,_,_,_,_,_,_,_,_,h⟩
def y2{p:A->B->Prop}(h:p a b):∃ a b,p a b:=⟨_,_,h⟩
def y3{p:A->B->C->Prop}(h:p a b c):∃ a b c,p a b c:=⟨_,_,_,h⟩
def y4{p:A->B->C->D->Prop}(h:p a b c d):∃ a b c d,p a b c d:=⟨_,_,_,_,h⟩
def y5{p:A->B->C->D->F->Prop}(h:p a b c d e):∃ a b c d e,p a b c d e:=⟨_,_,_,_,_,h⟩
def u2{p:A->B->Prop}{z:Prop}(k:∀ a b,p a b->z):(∃ a b,p a b)->z:=λh=>by obtain⟨_,_,h⟩:=h;exact k _ _ h
def u3{p:A->B->C->Prop}{z:Prop}(k:∀ a b c,p a b c->z):(∃ a b c,p a b c)->z:=λh=>by obtain⟨_,_,_,h⟩:=h;exact k _ _ _ h
def u4{p:A->B->C->D->Prop}{z:Prop}(k:∀ a b c d,p a b c d->z):(∃ a b c d,p a b c d)->z:=λh=>by obtain⟨_,_,_,_,h⟩:=h;exact k _ _ _ _ h
def u5{p:A->B->C->D->F->Prop}{z:Prop}(k:∀ a b c d e,p a b c d e->z):(∃ a b c d e,p a b c d e)->z:=λh=>by obtain⟨_,_,_,_,_,h⟩:=h;exact k _ _ _ _ _ h
def u6{p:A->B->C->D->F->G->Prop}{z:Prop}(k:∀ a b c d e f,p a b c d e f->z):(∃ a b c d e f,p a b c d e f)->z:=λh=>by obtain⟨_,_,_,_,_,_,h⟩:=h;exact k _ _ _ _ _ _ h
def u7{p:A->B->C->D->F->G->I->Prop}{z:Prop}(k:∀ a b c d e f g,p a b c d e f g->z):(∃ a b c d e f g,p a b c d e f g)->z:=λh=>by obtain⟨_,_,_,_,_,_,_,h⟩:=h;exact k _ _ _ _ _ _ _ h
def u8{p:A->B->C->D->F->G->I->J->Prop}{z:Prop}(k:∀ a b c d e f g i,p a b c d e f g i->z):(∃ a b c d e f g i,p a b c d e f g i)->z:=λh=>by obtain⟨_,_,_,_,_,_,_,_,h⟩:=h;exact k _ _ _ _ _ _ _ _ h
def u9{p:A->B->C->D->F->G->I->J->L->Prop}{z:Prop}(k:∀ a b c d e f g i j,p a b c d e f g i j->z):(∃ a b c d e f g i j,p a b c d e f g i j)->z:=λh=>by obtain⟨_,_,_,_,_,_,_,_,_,h⟩:=h;exact k _ _ _ _ _ _ _ _ _ h
def Gc{p:A->B->C->D->F->G->I->J->L->M->Prop}{z:Prop}(k:∀ a b c d e f g i j l,p a b c d e f g i j l->z):(∃ a b c d e f g i j l,p a b c d e f g i j l)->z:=λh=>by obtain⟨_,_,_,_,_,_,_,_,_,_,h⟩:=h;exact k _ _ _ _ _ _ _ _ _ _ h
def OV{p:A->B->C->D->F->G->I->J->L->M->N->Prop}{z:Prop}(k:∀ a b c d e f g i j l m,p a b c d e f g i j l m->z):(∃ a b c d e f g i j l m,p a b c d e f g i j l m)->z:=λh=>by obtain⟨_,_,_,_,_,_,_,_,_,_,_,h⟩:=h;exact k _ _ _ _ _ _ _ _ _ _ _ h
def RH{p:A->B->C->D->F->G->I->J->L->M->N->O->Prop}{z:Prop}(k:∀ a b c d e f g i j l m n,p a b c d e f g i j l m n->z):(∃ a b c d e f g i j l m n,p a b c d e f g i j l m n)->z:=λh=>by obtain⟨_,_,_,_,_,_,_,_,_,_,_,_,h⟩:=h;exact k _ _ _ _ _ _ _ _ _ _ _ _ h
def NG{p:A->B->C->D->F->G->I->J->L->M->N->O->P->R->Prop}{z:Prop}(k:∀ a b c d e f g i j l m n o q,p a b c d e f g i j l m n o q->z):(∃ a b c d e f g i j l m n o q,p a b c d e f g i j l m n o q)->z:=λh=>by obtain⟨_,_,_,_,_,_,_,_,_,_,_,_,_,_,h⟩:=h;exact k _ _ _ _ _ _ _ _ _ _ _ _ _ _ h
end L2
set_option Elab.async false
namespace L2
abbrev AS:=Sum Int Str
def NH:AS->Value->Bool
 | .inl k,v=>Es k v
 | .inr x,v=>Ih x v
def Gg(w:World):AS->Int
 | .inl k=>hashInt k
 | .inr x=>hashStr w x
def KD:∀ {k:AS} {v:Value},NH k v=true->(∃ i t,k=mz i/\v=gg i t)\/(∃ x t,k=ym x/\v=we x t)
 | .inl i,v,h=>by
  obtain⟨t,e⟩:=om (k:=i) (v:=v) h;exact .inl (x2 i t ⟨rfl,e⟩)
 | .inr x,v,h=>by
  obtain⟨t,e⟩:=Value.isStrOf_shape (x:=x) (v:=v) h;exact .inr (x2 x t ⟨rfl,e⟩)
def Gh(i:Int)(t:Tok):NH (.inl i) (.int i t)=true:=by simp[NH,Es]
def Gj(x:Str)(t:Tok):NH (.inr x) (.str x t)=true:=by simp[NH,Ih]
def Gk(a b:Int):decide ((mz a:AS)=mz b)=(a == b):=by
 by_cases e:a=b
 ·subst e;simp
 ·have h:¬ (mz a:AS)=mz b:=λq=>e (Ju q);rw[decide_eq_false h];exact(beq_eq_false_iff_ne.mpr e).symm
def Gm(a b:Str):decide ((ym a:AS)=ym b)=decide (a=b):=by
 by_cases e:a=b
 ·subst e;simp
 ·have h:¬ (ym a:AS)=ym b:=λq=>e (Et q);rw[decide_eq_false h,decide_eq_false e]
def Gp(a:Int)(b:Str):decide ((mz a:AS)=ym b)=false:=decide_eq_false (λq=>nomatch q)
def Gq(a:Str)(b:Int):decide ((ym a:AS)=mz b)=false:=decide_eq_false (λq=>nomatch q)
def GB(prog:au)(w:World):PySem.KeyKind prog w AS where
 is:=NH
 hash:=Gg w
 inj:=λv a b ha hb=>by
  rcases KD ha with⟨i,t,rfl,rfl⟩ | ⟨x,t,rfl,rfl⟩
  ·rcases KD hb with⟨j,u,rfl,e⟩ | ⟨y,u,rfl,e⟩
   ·injection e with e1 _;rw[e1]
   ·exact nomatch e
  ·rcases KD hb with⟨j,u,rfl,e⟩ | ⟨y,u,rfl,e⟩
   ·exact nomatch e
   ·injection e with e1 _;rw[e1]
 byValue:=λk v h=>by
  rcases KD h with⟨i,t,rfl,rfl⟩ | ⟨x,t,rfl,rfl⟩<;>rfl
 pyHash:=λhv h=>by
  rcases KD hv with⟨i,t,rfl,rfl⟩ | ⟨x,t,rfl,rfl⟩
  ·exact wpAny_pyHash_int h
  ·exact wpAny_pyHash_str h
 eqBool:=λhu hv h=>by
  rcases KD hu with⟨i,t,rfl,rfl⟩ | ⟨x,t,rfl,rfl⟩
  ·rcases KD hv with⟨j,u,rfl,rfl⟩ | ⟨y,u,rfl,rfl⟩
   ·rw[Gk]at h;exact wpAny_eqBool_int h
   ·rw[Gp]at h;exact y_ i t y u _ _ _ _ h
  ·rcases KD hv with⟨j,u,rfl,rfl⟩ | ⟨y,u,rfl,rfl⟩
   ·rw[Gq]at h;exact za x t j u _ _ _ _ h
   ·rw[Gm]at h;exact wpAny_eqBool_str h
 «strs» :=λk x t v h=>by
  rcases KD h with⟨i,u,rfl,e⟩ | ⟨y,u,rfl,e⟩
  ·exact nomatch e
  ·injection e with e1 _
   subst e1;cases v<;>rfl
def Gv(prog:au)(w:World)(i:Int)(t:Tok):(GB prog w).is (.inl i) (.int i t)=true:=Gh i t
def Gw(prog:au)(w:World)(x:Str)(t:Tok):(GB prog w).is (.inr x) (.str x t)=true:=Gj x t
end L2
namespace L2
inductive V where
 | non | bl (b:Bool) | int (i:Int) | str (x:Str) | byt (b:Array UInt8) | flt (b:UInt64) | ref (a:Addr) | ty (n:String)
 deriving DecidableEq
def RelV:V->Value->Prop
 | .non,u=>u=de
 | .bl b,u=>u=um b
 | .int i,u=>∃ t,u=gg i t
 | .str x,u=>∃ t,u=we x t
 | .byt b,u=>∃ t,u=J_ b t
 | .flt b,u=>∃ t,u=Eu b t
 | .ref a,u=>u=ba a
 | .ty n,u=>u=jp n
abbrev Vals:List V->List Value->Prop:=Paired RelV
def Vals.length{xs:List V}{us:List Value}(r:Vals xs us):xs.length=us.length:=Paired.length r
def Vals.get:∀ {xs:List V} {us:List Value} {i:Nat} {x:V},Vals xs us->xs[i]? =some x->∃ u,us[i]? =some u/\RelV x u
 | _,_,_,_,.nil,e=>by simp at e
 | _,_,0,_,.cons r _,e=>by simp at e;subst e;exact⟨_,rfl,r⟩
 | _,_,i+1,x,.cons _ t,e=>by
  obtain⟨u,h1,h2⟩:=Vals.get (i:=i) (x:=x) t (by simpa using e);exact⟨u,by simpa using h1,h2⟩
def Vals.set{x:V}{u:Value}(r:RelV x u):∀ {xs:List V} {us:List Value} (i:Nat),Vals xs us->Vals (xs.set i x) (us.set i u)
 | _,_,_,.nil=>.nil
 | _,_,0,.cons _ t=>.cons r t
 | _,_,i+1,.cons q t=>.cons q (Vals.set r i t)
def Vals.append:∀ {xs ys:List V} {us ws:List Value},Vals xs us->Vals ys ws->Vals (xs++ys) (us++ws)
 | _,_,_,_,.nil,s=>s
 | _,_,_,_,.cons r t,s=>.cons r (Vals.append t s)
def Vals.take:∀ {xs:List V} {us:List Value} (n:Nat),Vals xs us->Vals (xs.take n) (us.take n)
 | _,_,0,_=>.nil
 | _,_,_+1,.nil=>.nil
 | _,_,n+1,.cons r t=>.cons r (Vals.take n t)
def Vals.drop:∀ {xs:List V} {us:List Value} (n:Nat),Vals xs us->Vals (xs.drop n) (us.drop n)
 | _,_,0,r=>r
 | _,_,_+1,.nil=>.nil
 | _,_,n+1,.cons _ t=>Vals.drop n t
def RelO:Option V->Option Value->Prop
 | some v,some u=>RelV v u
 | none,none=>True
 | _,_=>False
def KV{κ :Type}:List (κ × V)->List (κ × Value)->Prop:=Paired λ(p: κ × V) (q: κ × Value)=>p.1=q.1/\RelV p.2 q.2
def kV:AS->V
 | .inl i=>.int i
 | .inr x=>.str x
inductive HO where
 /-- a list -/
 | lst (xs:List V)
 /-- a tuple (never changes) -/
 | tup (xs:List V)
 /-- a dict whose keys are ints and texts;one whose keys are tuples of ints and texts (the empty one is both) -/
 | dK (AE:List (AS × V)) | dT (AE:List (List AS × V))
 /-- a set of ints: its members,its size -/
 | set (S:Int->Bool) (n:Nat)
 /-- an instance of the class at C,its dict at dx,its attributes -/
 | ins (C dx:Addr) (fs:List (Str × V))
 /-- the dict of the instance at x -/
 | own (x:Addr)
 /-- the dict of an exception -/
 | xd (fs:List (Str × V))
 /-- a bound method,f of x -/
 | met (f x:Addr)
 /-- a range object lo,lo+1,.. below hi -/
 | rng (lo hi:Int)
 /-- a thing that is known to the object (the script;a dict while a loop walks it): read,never written while it is so -/
 | frz (o:Obj) (u:HO)
 /-- a code object's table -/
 | tbl (ps:Array Value)
 /-- any other thing,by what is true of its one object (a def of one's own: SetO a S n:=HO.ext λh=>..) -/
 | ext (φ :Heap->Prop)
abbrev Hp:=Addr->Option HO
def upd(H:Hp)(a:Addr)(o:HO):Hp:=λb=>if b=a then some o else H b
def AF{H:Hp}{a:Addr}{o:HO}:upd H a o a=some o:=by unfold upd;rw[if_pos rfl]
def AO{H:Hp}{a b:Addr}{o:HO}(h:b≠a):upd H a o b=H b:=by unfold upd;rw[if_neg h]
def IL{H:Hp}{a:Addr}{o u:HO}:upd (upd H a o) a u=upd H a u:=by
 funext b;unfold upd;split<;>rfl
def A0{H:Hp}{a b:Addr}{o u:HO}(h:H a=some o)(h':H b=some u)(d:o≠u):a≠b:=by
 intro e;subst e;rw[h]at h';exact d (cm h')
def BL{H:Hp}{a b:Addr}{o:HO}(h:H a=some o)(h':H b=none):a≠b:=by
 intro e;subst e;rw[h]at h';cases h'
section
variable(P:au)(w:World)
def ObjOk(H:Hp)(h:Heap)(a:Addr):HO->Prop
 | .lst xs=>xs.length<=sizeLine/\∃ (its:List Value) (n:Nat),Vals xs its/\h.get? a=some { cls:=.type "list",data:=.seq its.toArray n }
 | .tup xs=>xs.length<=sizeLine/\∃ its:List Value,Vals xs its/\IsTup h a its.toArray
 | .dK AE=>AE.length<=sizeLine/\(a == iq)=false/\∃ vs,KV AE vs/\h.DictOf (GB P w) a vs
 | .dT AE=>AE.length<=sizeLine/\(a == iq)=false/\∃ xs:List (List AS × Addr × Value),
   Paired (λ(p:List AS × V) (q:List AS × Addr × Value)=>p.1=q.1/\H q.2.1=some (.tup (p.1.map kV))/\RelV p.2 q.2.2) AE xs /\
   ∃ o es ep,h.get? a=some o/\o.ExactDict/\o.data=.dict es ep/\es.toList=xs.map (entryOfKey (wf (GB P w)))/\(xs.map (·.1)).Nodup
 | .set S n=>h.SetOf (gz P w) a S n
 | .ins C dx fs=>H dx=some (.own a)/\fs.length<=1000/\dx≠a/\h.get? a=some (rh C dx) /\
   ∃ mA,h.Ns1 dx mA/\(∀ f,RelO (fs.lookup f) (mA f))/\PySem.Within mA (fs.map (·.1))
 | .own _=>∃ o,h.get? a=some o
 | .xd fs=>∃ mA,h.Ns1 a mA/\∀ f,RelO (fs.lookup f) (mA f)
 | .rng lo hi=>∃ t u v,h.get? a=some { cls:=.type "range",data:=.fields #[.int lo t,.int hi u,.int 1 v] }
 | .frz o u=>h.get? a=some o/\ObjOk H h a u
 | .tbl ps=>h.get? a=some { cls:=.none,data:=.fields ps }
 | .met f x=>h.get? a=some (E_ (.ref f) (.ref x))
 | .ext φ => φ h/\(∃ o,h.get? a=some o)/\∀ h1 h2:Heap,φ h1->(∀ o,h1.get? a=some o->h2.get? a=some o)-> φ h2
def HOk(H:Hp)(h:Heap):Prop:=∀ a o,H a=some o->ObjOk P w H h a o
end
section
variable{P:au}{w:World}{H H':Hp}{h h':Heap}{a:Addr}{o:HO}
def ObjOk.lt(x:ObjOk P w H h a o):a<h.objs.size:=by
 cases o with
 | lst xs=>obtain⟨_,_,_,_,e⟩:=x;exact ω e
 | tup xs=>obtain⟨_,_,_,p⟩:=x;exact p.lt
 | dK AE=>obtain⟨_,_,_,_,o,_,_,e,_⟩:=x;exact ω e
 | dT AE=>obtain⟨_,_,_,_,o,_,_,e,_⟩:=x;exact ω e
 | set S n=>revert x;apply u4;rintro o _ _ _ ⟨e,_⟩;exact ω e
 | ins C dx fs=>obtain⟨_,_,_,e,_⟩:=x;exact ω e
 | own y=>obtain⟨_,e⟩:=x;exact ω e
 | xd fs=>obtain⟨_,⟨_,_,_,e,_⟩,_⟩:=x;exact ω e
 | rng lo hi=>revert x;apply u3;rintro _ _ _ e;exact ω e
 | frz ob u=>obtain⟨e,_⟩:=x;exact ω e
 | tbl ps=>exact ω (show h.get? a=some _ from x)
 | met f y=>exact ω (show h.get? a=some _ from x)
 | ext φ =>obtain⟨_,⟨_,e⟩,_⟩:=x;exact ω e
def Paired.mapP{α β :Type}{F G: α -> β ->Prop}:∀ {l₁:List α} {l₂:List β},Paired F l₁ l₂->(∀ a b,F a b->G a b)->Paired G l₁ l₂
 | _,_,.nil,_=>.nil
 | _,_,.cons r t,f=>.cons (f _ _ r) (Paired.mapP t f)
def ObjOk.stay(x:ObjOk P w H h a o)(k:∀ b u,(b=a\/H b=some (.own a))->h.get? b=some u->h'.get? b=some u)
  (ho:∀ b,H b=some (.own a)->H' b=some (.own a)) (ht:∀ b xs,H b=some (.tup xs)->H' b=some (.tup xs)):ObjOk P w H' h' a o:=by
 induction o with
 | lst xs=>obtain⟨z,its,n,r,e⟩:=x;exact⟨z,x2 its n ⟨r,k _ _ (.inl rfl) e⟩⟩
 | tup xs=>obtain⟨z,its,r,ob,e,c⟩:=x;exact⟨z,its,r,ob,k _ _ (.inl rfl) e,c⟩
 | dK AE=>obtain⟨z,y,vs,r,ob,es,ep,e,c⟩:=x;exact⟨z,y,vs,r,x3 ob es ep ⟨k _ _ (.inl rfl) e,c⟩⟩
 | dT AE =>
  obtain⟨z,y,xs,r,ob,es,ep,e,c⟩:=x;exact⟨z,y,xs,Paired.mapP r λp q z=>⟨z.1,ht _ _ z.2.1,z.2.2⟩,x3 ob es ep ⟨k _ _ (.inl rfl) e,c⟩⟩
 | set S n=>revert x;apply u4;rintro ob es ep t ⟨e,c⟩;exact x4 ob es ep t ⟨k _ _ (.inl rfl) e,c⟩
 | ins C dx fs =>
  obtain⟨d,z,ne,e,mA,⟨od,es,ep,e2,c⟩,r⟩:=x;exact⟨ho _ d,z,ne,k _ _ (.inl rfl) e,mA,x3 od es ep ⟨k _ _ (.inr d) e2,c⟩,r⟩
 | own y=>obtain⟨ob,e⟩:=x;exact⟨ob,k _ _ (.inl rfl) e⟩
 | xd fs=>obtain⟨mA,⟨od,es,ep,e,c⟩,r⟩:=x;exact⟨mA,x3 od es ep ⟨k _ _ (.inl rfl) e,c⟩,r⟩
 | rng lo hi=>revert x;apply u3;rintro t u v e;exact x3 t u v (k _ _ (.inl rfl) e)
 | frz ob u ih=>obtain⟨e,q⟩:=x;exact⟨k _ _ (.inl rfl) e,ih q⟩
 | tbl ps =>
  have e:h.get? a=some { cls:=.none,data:=.fields ps }:=x
  show h'.get? a=some { cls:=.none,data:=.fields ps };exact k a _ (.inl rfl) e
 | met f y =>
  have e:h.get? a=some (E_ (.ref f) (.ref y)):=x
  show h'.get? a=some (E_ (.ref f) (.ref y));exact k a _ (.inl rfl) e
 | ext φ =>obtain⟨p,⟨o,e⟩,st⟩:=x;exact⟨st _ _ p λo q=>k _ _ (.inl rfl) q,⟨o,k _ _ (.inl rfl) e⟩,st⟩
def HOk.lt(x:HOk P w H h)(e:H a=some o):a<h.objs.size:=(x a o e).lt
def HOk.fresh(x:HOk P w H h)(e:h.objs.size<=a):H a=none:=by
 cases q:H a with
 | none=>rfl
 | some u=>exact absurd (τ (x.lt q) e) (kx _)
def HOk.kept(x:HOk P w H h)(k:∀ b u,h.get? b=some u->h'.get? b=some u):HOk P w H h':=λa o e =>
 (x a o e).stay (λb u _ q=>k b u q) (λ_ q=>q) λ_ _ q=>q
def HOk.laid(x:HOk P w H h)(k:∀ b u,h.get? b=some u->h'.get? b=some u)(hp:h.objs.size<=a)(new:ObjOk P w (upd H a o) h' a o):HOk P w (upd H a o) h':=λb u e=>by
 have hn:=x.fresh hp;by_cases hb:b=a
 ·subst hb;rw[AF]at e;cases e;exact new
 ·rw[AO hb]at e;exact(x b u e).stay (λc v _ q=>k c v q) (λc q=>by rw[AO (BL q hn)];exact q) λc xs q=>by rw[AO (BL q hn)];exact q
end
def Rd(H:Hp)(a:Addr)(u:HO):Prop:=H a=some u\/∃ o,H a=some (.frz o u)
def Rd.ok{P:au}{w:World}{H:Hp}{h:Heap}{a:Addr}{u:HO}(r:Rd H a u)(x:HOk P w H h):ObjOk P w H h a u:=by
 rcases r with r | ⟨o,r⟩
 ·exact x a u r
 ·obtain⟨_,q⟩:=x a _ r;exact q
def OW:Option HO->Prop
 | some (.lst _)=>True
 | some (.dK _)=>True
 | some (.dT _)=>True
 | some (.set _ _)=>True
 | some (.ins _ _ _)=>True
 | some (.ext _)=>True
 | _=>False
section
variable{P:au}{w:World}{H:Hp}{h h':Heap}{x e:Addr}{o':HO}
def HOk.write(ok:HOk P w H h)(mu:OW (H x))(he:e=x\/H e=some (.own x))(k:∀ b u,b≠e->h.get? b=some u->h'.get? b=some u)(heo:∃ u,h'.get? e=some u)
  (new:ObjOk P w (upd H x o') h' x o'):HOk P w (upd H x o') h':=λb u q=>by
 have nown:∀ c y,H c=some (.own y)->c≠x:=λc y r z=>by subst z;rw[r]at mu;exact mu
 have ntup:∀ c xs,H c=some (.tup xs)->c≠x:=λc xs r z=>by subst z;rw[r]at mu;exact mu
 by_cases hb:b=x
 ·subst hb;rw[AF]at q;cases q;exact new
 ·rw[AO hb]at q;by_cases hbe:b=e
  ·have q':H b=some (.own x):=by
    rcases he with z | z
    ·exact absurd (hbe.trans z) hb
    ·rw[hbe];exact z
   rw[q]at q';cases q';obtain⟨v,hv⟩:=heo;exact⟨v,by rw[hbe];exact hv⟩
  ·refine(ok b u q).stay (λc v hc r=>k c v ?_ r) (λc r=>by rw[AO (nown c b r)];exact r) λc xs r=>by rw[AO (ntup c xs r)];exact r
   rcases hc with rfl | hc
   ·exact hbe
   ·rintro rfl;rcases he with z | z
    ·exact nown c b hc z
    ·rw[hc]at z;cases z;exact hb rfl
end
structure Un(fs ex:List Addr)(H H':Hp)(h h':Heap):Prop where
 keep:∀ b o,h.get? b=some o->H b=none->b∉fs->b∉ex->h'.get? b=some o
 slot:∀ b o,h.get? b=some o->H b=none->b∈fs->b∉ex->∃ sl,h'.get? b=some { o with slots:=sl }
 free:∀ b o,h.get? b=some o->H b=none->b∉ex->H' b=none
 there:∀ b o,h.get? b=some o->b∉ex->∃ o',h'.get? b=some o'
 tups:∀ b xs,H b=some (.tup xs)->H' b=some (.tup xs)
 frzs:∀ b o u,H b=some (.frz o u)->H' b=some (.frz o u)
 tbls:∀ b ps,H b=some (.tbl ps)->∃ more,H' b=some (.tbl (ps++more))
section
variable{fs fs' ex ex':List Addr}{H H1 H2:Hp}{h h1 h2 h':Heap}{a x e:Addr}{o:HO}
def Un.any(u:Un fs ex H H1 h h1){b:Addr}{ob:Obj}(q:h.get? b=some ob)(n:H b=none)(hx:b∉ex):∃ sl,h1.get? b=some { ob with slots:=sl }:=by
 by_cases hb:b∈fs
 ·exact u.slot b ob q n hb hx
 ·exact⟨ob.slots,u.keep b ob q n hb hx⟩
def Un.kept(k:∀ b u,h.get? b=some u->h'.get? b=some u):Un fs ex H H h h' :=
 ⟨λb ob q _ _ _=>k b ob q,λb ob q _ _ _=>⟨ob.slots,k b ob q⟩,λ_ _ _ n _=>n,λb ob q _=>⟨ob,k b ob q⟩,λ_ _ q=>q,λ_ _ _ q=>q,λ_ ps q=>⟨#[],by rw[q];simp⟩⟩
def Un.refl:Un fs ex H H h h:=Un.kept λ_ _ q=>q
def Un.laid(k:∀ b u,h.get? b=some u->h'.get? b=some u)(hp:h.objs.size<=a)(hn:H a=none):Un fs ex H (upd H a o) h h' where
 keep:=λb u q _ _ _=>k b u q
 slot:=λb u q _ _ _=>⟨u.slots,k b u q⟩
 free:=λb u q n _=>by rw[AO (aw (τ (ω q) hp))];exact n
 there:=λb u q _=>⟨u,k b u q⟩
 tups:=λb xs q=>by rw[AO (BL q hn)];exact q
 frzs:=λb u xs q=>by rw[AO (BL q hn)];exact q
 tbls:=λb ps q=>⟨#[],by rw[AO (BL q hn),q];simp⟩
def Un.write(mu:OW (H x))(he:e=x\/H e=some (.own x))(k:∀ b u,b≠e->h.get? b=some u->h'.get? b=some u)(heo:∃ u,h'.get? e=some u):Un fs ex H (upd H x o) h h':=by
 have hx:∀ b,H b=none->b≠x:=λb n z=>by subst z;rw[n]at mu;exact mu
 have hb:∀ b,H b=none->b≠e:=λb n z=>by
  subst z;rcases he with r | r
  ·exact hx b n r
  ·rw[n]at r;cases r
 have hm:∀ b u,H b=some u->¬ OW (some u)->b≠x:=λb u q nm z=>by subst z;rw[q]at mu;exact nm mu
 refine⟨λb u q n _ _=>k b u (hb b n) q,λb u q n _ _=>⟨u.slots,k b u (hb b n) q⟩,λb u q n _=>by rw[AO (hx b n)];exact n,λb u q _=> ?_,
  λb xs q=>by rw[AO (hm b _ q λz=>z)];exact q,λb u xs q=>by rw[AO (hm b _ q λz=>z)];exact q,λb ps q=>⟨#[],by rw[AO (hm b _ q λz=>z),q];simp⟩⟩
 by_cases hbe:b=e
 ·subst hbe;exact heo
 ·exact⟨u,k b u hbe q⟩
end
def RI(h:Heap)(H:Hp):List Addr:=(ag h.objs.size).filter λa=>(H a).isSome
def KE(h:Heap)(H:Hp):Heap:=W.hideAll h (RI h H)
def Gx(h:Heap)(H:Hp):(KE h H).objs.size=h.objs.size:=W.hideAll_size _ _
def Gy{h:Heap}{H:Hp}{b:Addr}{o:Obj}(e:h.get? b=some o)(n:H b=none):(KE h H).get? b=some o :=
 W.hideAll_get _ e λhm=>by
  have q:(H b).isSome=true:=(tq.mp hm).2;rw[n]at q;simp at q
def Gz{h:Heap}{H:Hp}{b:Addr}{o:Obj}(e:(KE h H).get? b=some o):h.get? b=some o/\H b=none:=by
 have e':h.get? b=some o:=W.of_hideAll (RI h H) e;refine⟨e',?_⟩;cases q:H b with
 | none=>rfl
 | some x =>
  have hm:b∈RI h H:=tq.mpr ⟨bp.mpr (ω e'),by simp[q]⟩
  have z:(KE h H).get? b=none:=W.hideAll_none (RI h H) hm;rw[z]at e;cases e
def Hb(g h:Heap)(L:Addr):List (Addr × Obj):=(ag h.objs.size).filterMap λa=>if a=L\/(g.get? a).isSome=true then none else(h.get? a).map λo=>(a,o)
def rest(g h:Heap)(L d:Addr):List (Addr × Obj):=(Hb g h L).filter λp=>decide (p.1≠d)
end L2
namespace L2
structure Mod(K:η)(mg:Str->Option Value)(base:Heap):Prop where
 kin:K.In base
 glob:base.Ns az mg
 blt:∃ mb,base.Ns Gf mb/\∀ x:Str,x≠"__name__"->mb x=oo x
 nolimit:base.NoLimit
structure Cx where
 prog:au
 w:World
 K:η
 mg:Str->Option Value
 base:Heap
 A:bg
 N:List Str
 s₀:ε
 H₀:Hp
 env:Env
 outer:List Env
 stack:List Env
 ex:List Addr
 fn:Str->Bool
 calm:Bool
 pn:List (Addr × Obj)
 xe:Value->ε->Prop
def EX(l:List Env):List Addr:=l.filterMap (·.frame)
abbrev Cx.fs(X:Cx):List Addr:=EX X.outer
def VR(sc:Scope)(x:Str):Prop:=sc.names.lookup x=some .local\/sc.names.lookup x=some .cell\/sc.names.lookup x=some .free
def NI(sc:Scope)(x:Str):Prop:=sc.names.lookup x=some .local\/sc.names.lookup x=some .cell
def Hc(env:Env)(h:Heap)(m:Str->Option Value)(x:Str)(u:Value):Prop :=
 (env.kindOf x=some .local/\m x=some u)\/((env.kindOf x=some .cell\/env.kindOf x=some .free)/\∃ c,env.cells.lookup x=some c/\h.IsCell c (some u))
structure Cx.Ok(X:Cx):Prop where
 mod:Mod X.K X.mg X.base
 kind:X.env.scope.kind=.function
 glob:X.env.globals=az
 blt:X.env.builtins=Gf
 above:X.s₀.heap.objs.size<=X.env.locals
 inj:∀ x y c,X.env.cells.lookup x=some c->X.env.cells.lookup y=some c->x=y
 has:∀ x,(X.env.kindOf x=some .cell\/X.env.kindOf x=some .free)->∃ c,X.env.cells.lookup x=some c
 cab:∀ x c,X.fn x=true->X.env.cells.lookup x=some c->X.s₀.heap.objs.size<=c
 hd:X.calm=true->X.A.handled=none
 frames:X.A.frames=some X.stack
 stk:X.stack=X.outer\/(X.stack=X.env::X.outer/\X.env.frame=some X.env.locals)
 exf:∀ b∈X.ex,b≠X.env.locals/\∀ x c,X.env.cells.lookup x=some c->c≠b
 bs:∀ b o,X.base.get? b=some o->X.s₀.heap.get? b=some o/\X.H₀ b=none
 bsz:X.base.objs.size<=X.s₀.heap.objs.size
 noex:∀ b o,X.base.get? b=some o->b∉X.ex
 exfs:∀ b∈X.ex,b∉X.fs
 funs:X.s₀.heap.FunFrames X.base X.outer
 frf:∀ b∈X.fs,X.H₀ b=none
structure Inv(X:Cx)(AB:List (Addr × Obj))(σ:List (Option V))(H:Hp)(s:ε):Prop where
 ok:X.Ok
 os:s.os=X.s₀.os
 bare:oq s.gens
 base:Un X.fs X.ex X.H₀ H X.s₀.heap s.heap
 loc:∃ m,s.heap.Ns X.env.locals m/\∀ (i:Nat) (x:Str) (v:V),X.N[i]? =some x->σ[i]? =some (some v)->VR X.env.scope x->∃ u,RelV v u/\Hc X.env s.heap m x u
 cell:∀ x c,X.env.cells.lookup x=some c->∃ v,s.heap.IsCell c v
 free:H X.env.locals=none
 freeC:∀ x c,X.env.cells.lookup x=some c->H c=none
 pin:∀ p∈X.pn++AB,s.heap.get? p.1=some p.2/\H p.1=none/\p.1≠X.env.locals/\p.1∉X.fs/\∀ v,p.2.data≠.cell v
 hok:HOk X.prog X.w H s.heap
 len:σ.length=X.N.length
section
variable{X:Cx}{AB:List (Addr × Obj)}{σ:List (Option V)}{H H':Hp}{s:ε}{h':Heap}
def Cx.Ok.nofr(ok:X.Ok){b:Addr}{o:Obj}(e:X.base.get? b=some o):b∉X.fs:=λhb=>by
 have:=(ok.funs.mem hb).1;rw[e]at this;cases this
def Inv.bs(I:Inv X AB σ H s):∀ b o,X.base.get? b=some o->s.heap.get? b=some o/\H b=none:=λb o e =>
 ⟨I.base.keep b o (I.ok.bs b o e).1 (I.ok.bs b o e).2 (I.ok.nofr e) (I.ok.noex b o e),I.base.free b o (I.ok.bs b o e).1 (I.ok.bs b o e).2 (I.ok.noex b o e)⟩
def Inv.bk(I:Inv X AB σ H s):∀ b o,X.base.get? b=some o->s.heap.get? b=some o:=λb o e=>(I.bs b o e).1
def Inv.mod(I:Inv X AB σ H s):Mod X.K X.mg X.base:=I.ok.mod
def Inv.kIn(I:Inv X AB σ H s):X.K.In s.heap:=I.ok.mod.kin.keeps I.bk
def Inv.lt(I:Inv X AB σ H s):X.env.locals<s.heap.objs.size:=let ⟨_,hn,_⟩:=I.loc;hn.lt
def Inv.sz(I:Inv X AB σ H s):X.s₀.heap.objs.size<=s.heap.objs.size:=υ I.ok.above (fg I.lt)
def Inv.nofs(I:Inv X AB σ H s){a:Addr}(h:s.heap.objs.size<=a):a∉X.fs:=λhb=>by
 obtain⟨_,o,ho,_⟩:=I.ok.funs.mem hb;exact absurd (τ (ω ho) (υ I.sz h)) (kx _)
def Inv.cne(I:Inv X AB σ H s):∀ x c,X.env.cells.lookup x=some c->c≠X.env.locals:=λx c e z=>by
 obtain⟨v,o,ho,hd⟩:=I.cell x c e;obtain⟨m,⟨o',es,ep,ho',hd',_⟩,_⟩:=I.loc;rw[z,ho']at ho;cases ho;rw[hd']at hd;cases hd
def Inv.funs(I:Inv X AB σ H s):s.heap.FunFrames X.base X.outer:=by
 have all:∀ (l:List Env),(∀ b∈EX l,b∈X.fs)->X.s₀.heap.FunFrames X.base l->s.heap.FunFrames X.base l:=by
  intro l
  induction l with
  | nil=>intro _ _;trivial
  | cons env r ih =>
   intro hs hl;obtain⟨hk,⟨L,o,hf,hn,ho,hd⟩,hr⟩:=hl
   have hL:L∈X.fs:=hs L (by unfold EX;rw[uf,hf];exact aq);obtain⟨sl,e⟩:=I.base.slot L o ho (I.ok.frf L hL) hL λz=>I.ok.exfs L z hL;exact⟨hk,x2 L _ ⟨hf,hn,e,hd⟩,ih (λb hb=>hs b (by unfold EX;rw[uf,hf];exact χ _ hb)) hr⟩
 exact all X.outer (λ_ hb=>hb) I.ok.funs
def Inv.stack(I:Inv X AB σ H s):s.heap.FunFrames X.base X.stack:=by
 rcases I.ok.stk with e | ⟨e,hf⟩
 ·rw[e];exact I.funs
 ·rw[e];obtain⟨m,hn,_⟩:=I.loc;refine .cons (by rw[I.ok.kind];decide) hf hn ?_ I.funs;exact Heap.get?_none_of_le (υ I.ok.bsz I.ok.above)
def Inv.stkSub(I:Inv X AB σ H s):∀ b∈EX X.stack,b∈X.env.locals::X.fs:=λb hb=>by
 rcases I.ok.stk with e | ⟨e,hf⟩
 ·rw[e]at hb;exact χ _ hb
 ·rw[e]at hb;unfold EX at hb;rw[uf,hf]at hb;exact hb
def Inv.stkFree(I:Inv X AB σ H s):∀ b∈EX X.stack,H b=none:=λb hb=>by
 rcases ak.mp (I.stkSub b hb)with e | hb
 ·rw[e];exact I.free
 ·obtain⟨_,o,ho,_⟩:=I.ok.funs.mem hb;exact I.base.free b o ho (I.ok.frf b hb) λz=>I.ok.exfs b z hb
def Inv.step{g':Array zr}{t':Nat}{d':Drawn}{ch:List Addr}(I:Inv X AB σ H s)
  (EH:∀ b∈ch,(b∈X.ex\/X.s₀.heap.objs.size<=b)/\b≠X.env.locals/\(∀ x c,X.env.cells.lookup x=some c->c≠b)/\∀ p∈X.pn++AB,p.1≠b)
  (keep:∀ b o,b≠X.env.locals->b∉X.fs->b∉ch->s.heap.get? b=some o->H b=none->h'.get? b=some o)
  (slot:∀ b o,b≠X.env.locals->b∈X.fs->b∉ch->s.heap.get? b=some o->H b=none->∃ sl,h'.get? b=some { o with slots:=sl }) (free:∀ b o,b∉ch->s.heap.get? b=some o->H b=none->H' b=none)
  (there:∀ b o,b∉ch->s.heap.get? b=some o->∃ o',h'.get? b=some o')
  (tups:∀ b xs,H b=some (.tup xs)->H' b=some (.tup xs)) (frzs:∀ b o u,H b=some (.frz o u)->H' b=some (.frz o u)) (tbls:∀ b ps,H b=some (.tbl ps)->∃ more,H' b=some (.tbl (ps++more)))
  (ns:∀ m,s.heap.Ns X.env.locals m->h'.Ns X.env.locals m) (hok:HOk X.prog X.w H' h') (hg:oq g') :
  Inv X AB σ H' { s with heap:=h',gens:=g',drawn:=d',toks:=t' }:=by
 have neL:∀ b o,X.s₀.heap.get? b=some o->b≠X.env.locals:=λb o e=>aw (τ (ω e) I.ok.above)
 have neC:∀ b o,X.s₀.heap.get? b=some o->b∉X.ex->b∉ch:=λb o e hx hb=>by
  rcases(EH b hb).1 with z | z
  ·exact hx z
  ·exact absurd (τ (ω e) z) (kx _)
 have cellK:∀ x c,X.env.cells.lookup x=some c->∀ v,s.heap.IsCell c v->h'.IsCell c v:=λx c e v ⟨o,ho,hd⟩=>by
  have nch:c∉ch:=λz=>(EH c z).2.2.1 x c e rfl;by_cases hc:c∈X.fs
  ·obtain⟨sl,q⟩:=slot c o (I.cne x c e) hc nch ho (I.freeC x c e);exact⟨_,q,hd⟩
  ·exact⟨o,keep c o (I.cne x c e) hc nch ho (I.freeC x c e),hd⟩
 refine⟨I.ok,I.os,hg,⟨λb o e n hb hx=> ?_,λb o e n hb hx=> ?_,λb o e n hx=> ?_,λb o e hx=> ?_,λb xs e=>tups b xs (I.base.tups b xs e),λb o xs e=>frzs b o xs (I.base.frzs b o xs e),λb ps e=> ?_⟩,?_,λx c e=> ?_,?_,λx c e=> ?_,λp hp=> ?_,hok,I.len⟩
 ·exact keep b o (neL b o e) hb (neC b o e hx) (I.base.keep b o e n hb hx) (I.base.free b o e n hx)
 ·obtain⟨sl,e1⟩:=I.base.slot b o e n hb hx;obtain⟨sl',e2⟩:=slot b _ (neL b o e) hb (neC b o e hx) e1 (I.base.free b o e n hx);exact⟨sl',e2⟩
 ·obtain⟨o',e1⟩:=I.base.there b o e hx;exact free b o' (neC b o e hx) e1 (I.base.free b o e n hx)
 ·obtain⟨o',e1⟩:=I.base.there b o e hx;exact there b o' (neC b o e hx) e1
 ·obtain⟨m1,e1⟩:=I.base.tbls b ps e;obtain⟨m2,e2⟩:=tbls b _ e1;exact⟨m1++m2,by rw[e2,zb]⟩
 ·obtain⟨m,hn,hl⟩:=I.loc;refine⟨m,ns m hn,λi x v e1 e2 e3=> ?_⟩;obtain⟨u,r,l⟩:=hl i x v e1 e2 e3;refine⟨u,r,?_⟩;rcases l with l | ⟨k,c,e,z⟩
  ·exact .inl l
  ·exact .inr ⟨k,c,e,cellK x c e _ z⟩
 ·obtain⟨v,z⟩:=I.cell x c e;exact⟨v,cellK x c e v z⟩
 ·obtain⟨m,⟨o,_,_,ho,_⟩,_⟩:=I.loc;exact free _ o (λz=>(EH _ z).2.1 rfl) ho I.free
 ·obtain⟨v,o,ho,hd⟩:=I.cell x c e;exact free c o (λz=>(EH c z).2.2.1 x c e rfl) ho (I.freeC x c e)
 ·obtain⟨e,n,ne,nf,d⟩:=I.pin p hp
  have nch:p.1∉ch:=λz=>(EH p.1 z).2.2.2 p hp rfl;exact⟨keep p.1 p.2 ne nf nch e n,free p.1 p.2 nch e n,ne,nf,d⟩
def Inv.un{t':Nat}(I:Inv X AB σ H s)(u:Un X.fs [] H H' s.heap h')(hok:HOk X.prog X.w H' h'):Inv X AB σ H' { s with heap:=h',toks:=t' }:=by
 obtain⟨m,⟨o,es,ep,ho,r⟩,_⟩:=id I.loc;obtain⟨sl,hL⟩:=u.any ho I.free (by simp);exact I.step (g':=s.gens) (d':=s.drawn) (ch:=[]) (λ_ z=>nomatch z) (λb o _ hb _ e n=>u.keep b o e n hb (by simp)) (λb o _ hb _ e n=>u.slot b o e n hb (by simp)) (λb o _ e n=>u.free b o e n (by simp)) (λb o _ e=>u.there b o e (by simp)) u.tups u.frzs u.tbls (λm' hm=>by
  revert hm;apply u3;rintro o' es' ep' ⟨ho',r'⟩;rw[ho]at ho';cases ho';exact x3 _ es' ep' ⟨hL,r'⟩) hok I.bare
def Inv.call{g':Array zr}{t':Nat}{d':Drawn}{ch:List Addr}(I:Inv X AB σ H s)(u:Un (EX X.stack) ch H H' s.heap h')(hok:HOk X.prog X.w H' h')(hg:oq g')
  (EH:∀ b∈ch,(b∈X.ex\/X.s₀.heap.objs.size<=b)/\b≠X.env.locals/\(∀ x c,X.env.cells.lookup x=some c->c≠b)/\∀ p∈X.pn++AB,p.1≠b) :
  Inv X AB σ H' { s with heap:=h',gens:=g',drawn:=d',toks:=t' }:=by
 obtain⟨m,⟨o,es,ep,ho,r⟩,_⟩:=id I.loc;obtain⟨sl,hL⟩:=u.any ho I.free λz=>(EH _ z).2.1 rfl;exact I.step (ch:=ch) EH (λb o hL hb hc e n=>u.keep b o e n (λz=>(ak.mp (I.stkSub b z)).elim hL hb) hc) (λb o _ _ hc e n=>u.any e n hc) (λb o hc e n=>u.free b o e n hc) (λb o hc e=>u.there b o e hc) u.tups u.frzs u.tbls (λm' hm=>by
  revert hm;apply u3;rintro o' es' ep' ⟨ho',r'⟩;rw[ho]at ho';cases ho';exact x3 _ es' ep' ⟨hL,r'⟩) hok hg
def Inv.turned{t':Nat}{it:Addr}(I:Inv X AB σ H s)(k:∀ b o,b≠it->s.heap.get? b=some o->h'.get? b=some o)(hn:H it=none)(hL:it≠X.env.locals)
  (h1:it∈X.ex\/X.s₀.heap.objs.size<=it) (h2:∀ x c,X.env.cells.lookup x=some c->c≠it) (h3:∀ p∈X.pn++AB,p.1≠it):Inv X AB σ H { s with heap:=h',toks:=t' }:=by
 have nit:∀ b u,H b=some u->b≠it:=λb u e z=>by rw[z,hn]at e;cases e
 refine I.step (g':=s.gens) (d':=s.drawn) (ch:=[it]) (λb hb=> ?_) (λb o _ _ hc e _=>k b o (λz=>hc (by simp[z])) e) (λb o _ _ hc e _=>⟨o.slots,k b o (λz=>hc (by simp[z])) e⟩) (λ_ _ _ _ n=>n)
  (λb o hc e=>⟨o,k b o (λz=>hc (by simp[z])) e⟩) (λ_ _ e=>e) (λ_ _ _ e=>e) (λb ps e=>⟨#[],by rw[e];simp⟩) (λm hm=> ?_) (λb u e=> ?_) I.bare
 ·have e:b=it:=by simpa using hb
  subst e;exact⟨h1,hL,h2,h3⟩
 ·revert hm;apply u3;rintro o es ep ⟨ho,r⟩;exact x3 o es ep ⟨k _ o (di hL) ho,r⟩
 ·refine(I.hok b u e).stay (λc v hc q=>k c v ?_ q) (λ_ q=>q) λ_ _ q=>q;rcases hc with z | z
  ·rw[z];exact nit b u e
  ·exact nit c _ z
def Inv.tok(I:Inv X AB σ H s)(t:Nat):Inv X AB σ H { s with toks:=t }:=I.un (h':=s.heap) (t':=t) Un.refl I.hok
def Inv.kept{t':Nat}(I:Inv X AB σ H s)(k:∀ b u,s.heap.get? b=some u->h'.get? b=some u):Inv X AB σ H { s with heap:=h',toks:=t' }:=I.un (Un.kept k) (I.hok.kept k)
def Inv.laid{a:Addr}{o:HO}{t':Nat}(I:Inv X AB σ H s)(k:∀ b u,s.heap.get? b=some u->h'.get? b=some u)(hp:s.heap.objs.size<=a)(new:ObjOk X.prog X.w (upd H a o) h' a o) :
  Inv X AB σ (upd H a o) { s with heap:=h',toks:=t' }:=I.un (Un.laid k hp (I.hok.fresh hp)) (I.hok.laid k hp new)
def Inv.write{x e:Addr}{o:HO}{t':Nat}(I:Inv X AB σ H s)(mu:OW (H x))(he:e=x\/H e=some (.own x))(k:∀ b u,b≠e->s.heap.get? b=some u->h'.get? b=some u)(heo:∃ u,h'.get? e=some u)
  (new:ObjOk X.prog X.w (upd H x o) h' x o):Inv X AB σ (upd H x o) { s with heap:=h',toks:=t' }:=I.un (Un.write mu he k heo) (I.hok.write mu he k heo new)
def Inv.pins_of{pins':List (Addr × Obj)}(I:Inv X AB σ H s)(h:∀ p∈pins',s.heap.get? p.1=some p.2/\H p.1=none/\p.1≠X.env.locals/\p.1∉X.fs/\∀ v,p.2.data≠.cell v):Inv X pins' σ H s :=
 ⟨I.ok,I.os,I.bare,I.base,I.loc,I.cell,I.free,I.freeC,λp hp=>(bh.mp hp).elim (λz=>I.pin p (gr _ z)) (h p),I.hok,I.len⟩
def iV{N:List Str}(hN:N.Nodup){i j:Nat}{x:Str}(a:N[i]? =some x)(b:N[j]? =some x):i=j:=by
 obtain⟨h1,e1⟩:=ι.mp a;obtain⟨h2,e2⟩:=ι.mp b;exact(Cr hN).mp (e1.trans e2.symm)
def iW{M:Model}{A:bg}{E:Value->ε->Prop}{i:Nat}{x:Str}{v:V}{u:Value}{Q:Unit->ε->Prop}(I:Inv X AB σ H s)(hN:X.N.Nodup)(hi:X.N[i]? =some x)(hx:NI X.env.scope x)(r:RelV v u)
  (h:∀ s',Inv X AB (σ.set i (some v)) H s'->(∃ a,jh a s.heap s'.heap/\(a=X.env.locals\/X.env.cells.lookup x=some a))->Q () s') (hf:X.fn x=true\/X.env.scope.names.lookup x=some .local:=by first | exact .inl rfl | exact .inr rfl | assumption):wpAny M A (storeName X.env x u) Q E s:=by
 obtain⟨m,hn,hl⟩:=id I.loc
 have OT:(X.env.scope.kind == .class || (X.env.scope.kind == .module && X.env.locals != X.env.globals))=false:=by rw[I.ok.kind];rfl
 have hiσ:i<σ.length:=by rw[I.len];exact(ι.mp hi).1
 have cne:=I.cne
 have tracked:∀ {a:Addr} {h':Heap},(∃ o,s.heap.get? a=some o/\H a=none)->jh a s.heap h'->HOk X.prog X.w H h':=λ{a h'} ha hs b ob e=>by
  obtain⟨_,_,hfree⟩:=ha;refine(I.hok b ob e).stay (λc w' hc q=>(hs.2 c ?_).trans q) (λ_ q=>q) λ_ _ q=>q;rintro rfl;rcases hc with rfl | hc
  ·rw[hfree]at e;cases e
  ·rw[hfree]at hc;cases hc
 rcases hx with hk | hk
 ·refine wpAny_storeName_local hk hn (λh' hn' hs=> ?_) OT;refine u3 ?_ (id hn);rintro oL _ _ ⟨hoL,_⟩;refine h _ ⟨I.ok,I.os,I.bare,⟨λb o e n hb hx=> ?_,λb o e n hb hx=> ?_,I.base.free,λb o e hx=> ?_,I.base.tups,I.base.frzs,I.base.tbls⟩,⟨_,hn',λj y v' e1 e2 e3=> ?_⟩,λy c e=> ?_,I.free,I.freeC,λp hp=> ?_,tracked ⟨oL,hoL,I.free⟩ hs,by simpa using I.len⟩ ⟨_,hs,.inl rfl⟩
  ·exact(hs.2 b (aw (τ (ω e) I.ok.above))).trans (I.base.keep b o e n hb hx)
  ·obtain⟨sl,e1⟩:=I.base.slot b o e n hb hx;exact⟨sl,(hs.2 b (aw (τ (ω e) I.ok.above))).trans e1⟩
  ·obtain⟨o',e1⟩:=I.base.there b o e hx;exact⟨o',(hs.2 b (aw (τ (ω e) I.ok.above))).trans e1⟩
  ·by_cases hj:j=i
   ·subst hj;rw[hi]at e1;cases e1;rw[fh hiσ]at e2;cases e2;exact⟨u,r,.inl ⟨hk,by simp⟩⟩
   ·rw[gu (di hj)]at e2;obtain⟨u',r',q⟩:=hl j y v' e1 e2 e3;refine⟨u',r',?_⟩;rcases q with⟨k,e⟩ | ⟨k,c,e,z⟩
    ·refine .inl ⟨k,?_⟩
     have:y≠x:=λe=>hj (iV hN e1 (e ▸ hi));simp[this,e]
    ·exact .inr ⟨k,c,e,z.sameBut hs (cne y c e)⟩
  ·obtain⟨w',z⟩:=I.cell y c e;exact⟨w',z.sameBut hs (cne y c e)⟩
  ·obtain⟨e,n,ne,nf,d⟩:=I.pin p hp;exact⟨(hs.2 p.1 ne).trans e,n,ne,nf,d⟩
 ·have hfn:X.fn x=true:=by
   rcases hf with z | z
   ·exact z
   ·rw[z]at hk;cases hk
  obtain⟨c,hc⟩:=I.ok.has x (.inl hk);obtain⟨w',z⟩:=I.cell x c hc;refine wpAny_storeName_cell I.ok.kind hk hc z (λh' hc' hs=> ?_);obtain⟨oc,hoc,hocd⟩:=id z;refine h { s with heap:=h' } ⟨I.ok,I.os,I.bare,⟨λb o e n hb hx=> ?_,λb o e n hb hx=> ?_,I.base.free,λb o e hx=> ?_,I.base.tups,I.base.frzs,I.base.tbls⟩,⟨m,hn.sameBut hs (di (cne x c hc)),λj y v' e1 e2 e3=> ?_⟩,λy c' e=> ?_,I.free,I.freeC,λp hp=> ?_,tracked ⟨oc,hoc,I.freeC x c hc⟩ hs,by simpa using I.len⟩ ⟨c,hs,.inr hc⟩
  ·exact(hs.2 b (aw (τ (ω e) (I.ok.cab x c hfn hc)))).trans (I.base.keep b o e n hb hx)
  ·obtain⟨sl,e1⟩:=I.base.slot b o e n hb hx;exact⟨sl,(hs.2 b (aw (τ (ω e) (I.ok.cab x c hfn hc)))).trans e1⟩
  ·obtain⟨o',e1⟩:=I.base.there b o e hx;exact⟨o',(hs.2 b (aw (τ (ω e) (I.ok.cab x c hfn hc)))).trans e1⟩
  ·by_cases hj:j=i
   ·subst hj;rw[hi]at e1;cases e1;rw[fh hiσ]at e2;cases e2;exact⟨u,r,.inr ⟨.inl hk,c,hc,hc'⟩⟩
   ·rw[gu (di hj)]at e2;obtain⟨u',r',q⟩:=hl j y v' e1 e2 e3;refine⟨u',r',?_⟩;rcases q with q | ⟨k,c',e,z'⟩
    ·exact .inl q
    ·refine .inr ⟨k,c',e,z'.sameBut hs ?_⟩;rintro rfl;exact hj (iV hN e1 (I.ok.inj _ _ _ e hc ▸ hi))
  ·by_cases hcc:c'=c
   ·subst hcc;exact⟨_,hc'⟩
   ·obtain⟨w2,z2⟩:=I.cell y c' e;exact⟨w2,z2.sameBut hs hcc⟩
  ·obtain⟨e,n,ne,nf,d⟩:=I.pin p hp;refine⟨(hs.2 p.1 ?_).trans e,n,ne,nf,d⟩;intro q;rw[q,hoc]at e
   have q':oc=p.2:=cm e;exact d w' (by rw[<-q'];exact hocd)
def RJ{M:Model}{A:bg}{E:Value->ε->Prop}{i:Nat}{x:Str}{v:V}{u:Value}{Q:Unit->ε->Prop}(I:Inv X AB σ H s)(hN:X.N.Nodup)(hi:X.N[i]? =some x)(hx:NI X.env.scope x)(r:RelV v u)
  (h:∀ s',Inv X AB (σ.set i (some v)) H s'->Q () s') (hf:X.fn x=true\/X.env.scope.names.lookup x=some .local:=by first | exact .inl rfl | exact .inr rfl | assumption):wpAny M A (storeName X.env x u) Q E s :=
 iW I hN hi hx r (λs' I' _=>h s' I') hf
def Inv.call'{s':ε}{ch:List Addr}(I:Inv X AB σ H s)(ho:s'.os=s.os)(u:Un (EX X.stack) ch H H' s.heap s'.heap)(hok:HOk X.prog X.w H' s'.heap)(hg:oq s'.gens)
  (EH:∀ b∈ch,(b∈X.ex\/X.s₀.heap.objs.size<=b)/\b≠X.env.locals/\(∀ x c,X.env.cells.lookup x=some c->c≠b)/\∀ p∈X.pn++AB,p.1≠b):Inv X AB σ H' s':=by
 obtain⟨h',g',d',t',o'⟩:=s'
 have e:o'=s.os:=ho;subst e;exact I.call (g':=g') (t':=t') (d':=d') u hok hg EH
end
abbrev XK:=Value->Option Addr->Hp->Prop
abbrev St:=List (Option V)
abbrev VK:=V->Hp->Prop
abbrev TE:=St->Hp->VK->Prop
abbrev TT:=St->Hp->(Bool->Hp->Prop)->Prop
abbrev TA:=St->Hp->(List V->Hp->Prop)->Prop
structure Ends where
 nx:St->Hp->Prop
 rt:VK
 bk:St->Hp->Prop:=λ_ _=>False
 ct:St->Hp->Prop:=λ_ _=>False
abbrev TS:=Ends->St->Hp->Prop
def EP(X:Cx)(AB:List (Addr × Obj))(σ:St)(Q:VK)(u:Value)(s':ε):Prop:=∃ v H',Inv X AB σ H' s'/\RelV v u/\Q v H'
def TP(X:Cx)(AB:List (Addr × Obj))(σ:St)(Q:Bool->Hp->Prop)(b:Bool)(s':ε):Prop:=∃ H',Inv X AB σ H' s'/\Q b H'
def AP(X:Cx)(AB:List (Addr × Obj))(σ:St)(Q:List V->Hp->Prop)(us:List Value)(s':ε):Prop:=∃ vs H',Inv X AB σ H' s'/\Vals vs us/\Q vs H'
def SP(X:Cx)(AB:List (Addr × Obj))(D:Ends)(f:Flow)(s':ε):Prop :=
 match f with
 | .next=>∃ σ' H',Inv X AB σ' H' s'/\D.nx σ' H'
 | .brk=>∃ σ' H',Inv X AB σ' H' s'/\D.bk σ' H'
 | .cont=>∃ σ' H',Inv X AB σ' H' s'/\D.ct σ' H'
 | .ret u=>∃ v σ' H',Inv X AB σ' H' s'/\RelV v u/\D.rt v H'
def PE(X:Cx)(e:Expr)(t:TE):Prop :=
 ∀ (AB:List (Addr × Obj)) (s:ε) (σ:St) (H:Hp) (Q:VK),Inv X AB σ H s->t σ H Q->wpAny (model X.prog X.w) X.A (eval e X.env) (EP X AB σ Q) X.xe s
def PT(X:Cx)(e:Expr)(t:TT):Prop :=
 ∀ (AB:List (Addr × Obj)) (s:ε) (σ:St) (H:Hp) (Q:Bool->Hp->Prop),Inv X AB σ H s->t σ H Q->wpAny (model X.prog X.w) X.A (Iz e X.env (eval e X.env)) (TP X AB σ Q) X.xe s
def PW(X:Cx)(e:Expr)(t:TT):Prop :=
 ∀ (whole:Sem Value) (AB:List (Addr × Obj)) (s:ε) (σ:St) (H:Hp) (Q:Bool->Hp->Prop),Inv X AB σ H s->t σ H Q->wpAny (model X.prog X.w) X.A (Iz e X.env whole) (TP X AB σ Q) X.xe s
def PW.pt{X:Cx}{e:Expr}{t:TT}(h:PW X e t):PT X e t:=h _
def PA(X:Cx)(es:List Expr)(t:TA):Prop :=
 ∀ (pos:Pos) (AB:List (Addr × Obj)) (s:ε) (σ:St) (H:Hp) (Q:List V->Hp->Prop),Inv X AB σ H s->t σ H Q->wpAny (model X.prog X.w) X.A (spliced (gi pos (af es X.env))) (AP X AB σ Q) X.xe s
def PS(X:Cx)(st:Stmt)(t:TS):Prop :=
 ∀ (AB:List (Addr × Obj)) (s:ε) (σ:St) (H:Hp) (D:Ends),Inv X AB σ H s->t D σ H->wpAny (model X.prog X.w) X.A (exec st X.env) (SP X AB D) X.xe s
def G7(X:Cx)(st:List Stmt)(t:TS):Prop :=
 ∀ (AB:List (Addr × Obj)) (s:ε) (σ:St) (H:Hp) (D:Ends),Inv X AB σ H s->t D σ H->wpAny (model X.prog X.w) X.A (execs st X.env) (SP X AB D) X.xe s
def A1{α :Type}{t:Sem α}{Q Q': α ->ε->Prop}{M:Model}{A:bg}{E:Value->ε->Prop}{s:ε}(h:wpAny M A t Q E s)(hQ:∀ a s,Q a s->Q' a s):wpAny M A t Q' E s:=ln h hQ λ_ _ x=>x
end L2
namespace L2
section
variable{X:Cx}
def VS(i:Nat):TE:=λσ H Q=>∃ v,σ[i]? =some (some v)/\Q v H
def tC(v:V):TE:=λ_ H Q=>Q v H
def Hd{i:Nat}{x:Str}{pos:Pos}(hN:X.N[i]? =some x)(hv:VR X.env.scope x)(hd:(x ==("__debug__":Str))=false:=by decide)(KC:(x ==("__classdict__":Str))=false:=by decide):PE X (.Name x pos) (VS i):=by
 intro AB s σ H Q I h;obtain⟨v,e,h⟩:=h;obtain⟨m,hn,hl⟩:=I.loc;obtain⟨u,r,l⟩:=hl i x v hN e hv
 have fin:EP X AB σ Q u s:=x2 v H ⟨I,r,h⟩;rcases l with⟨hk,hm⟩ | ⟨hk,c,hc,hcell⟩
 ·exact Gi (wpAny_loadName_local I.ok.kind hk hn hm fin) hd
 ·rcases hk with hk | hk
  ·exact Gi (wpAny_loadName_cell I.ok.kind hk hc hcell fin) hd
  ·exact Gi (wpAny_loadName_free I.ok.kind hk hc hcell fin KC) hd
def AR{i j pos}:PE X (.Constant (.int i) j pos) (tC (.int i)):=λ_ _ _ H _ I h=>wpAny_Constant_int (x2 (.int i) H ⟨I.tok _,⟨_,rfl⟩,h⟩)
def F7{b j pos}:PE X (.Constant (.bool b) j pos) (tC (.bl b)):=λ_ _ _ H _ I h=>Constant_bool (x2 (.bl b) H ⟨I,rfl,h⟩)
def EN{j pos}:PE X (.Constant .none j pos) (tC .non):=λ_ _ _ H _ I h=>Constant_none (x2 (.non) H ⟨I,rfl,h⟩)
def FN{x j pos}:PE X (.Constant (.str x) j pos) (tC (.str x)):=λ_ _ _ H _ I h=>Calls.Constant_str (x2 (.str x) H ⟨I.tok _,⟨_,rfl⟩,h⟩)
def Gl(X:Cx)(x:Str):Prop:=X.env.kindOf x=some .globalImplicit
def NJ{E:Value->ε->Prop}{AB:List (Addr × Obj)}{s:ε}{σ:St}{H:Hp}{x:Str}{u:Value}{pos:Pos}{Q:Value->ε->Prop}(I:Inv X AB σ H s)(hg:Gl X x)(hm:X.mg x=some u)(h:Q u s)
  (hd:(x ==("__debug__":Str))=false:=by decide):wpAny (model X.prog X.w) X.A (eval (.Name x pos) X.env) Q E s :=
 uo I.ok.kind hg (Calls.loadGlobal_global (by rw[I.ok.glob];exact I.mod.glob.keeps I.bk) hm h) hd
def NK{E:Value->ε->Prop}{AB:List (Addr × Obj)}{s:ε}{σ:St}{H:Hp}{x:Str}{u:Value}{pos:Pos}{Q:Value->ε->Prop}(I:Inv X AB σ H s)(hg:Gl X x)(hm:X.mg x=none)(hv:oo x=some u)(h:Q u s)
  (hn:x≠"__name__":=by decide) (hd:(x ==("__debug__":Str))=false:=by decide):wpAny (model X.prog X.w) X.A (eval (.Name x pos) X.env) Q E s:=by
 obtain⟨mb,h1,h2⟩:=I.mod.blt;exact uo I.ok.kind hg (Calls.loadGlobal_builtin (by rw[I.ok.glob];exact I.mod.glob.keeps I.bk) hm (by rw[I.ok.blt];exact h1.keeps I.bk) ((h2 x hn).trans hv) h) hd
def Hg{x:Str}{v:V}{u:Value}{pos:Pos}(hg:Gl X x)(hm:X.mg x=some u)(r:RelV v u)(hd:(x ==("__debug__":Str))=false:=by decide):PE X (.Name x pos) (tC v) :=
 λ_ _ _ H _ I h=>NJ I hg hm (x2 v H ⟨I,r,h⟩) hd
def RK{x:Str}{v:V}{u:Value}{pos:Pos}(hg:Gl X x)(hm:X.mg x=none)(hv:oo x=some u)(r:RelV v u)(hn:x≠"__name__":=by decide)(hd:(x ==("__debug__":Str))=false:=by decide):PE X (.Name x pos) (tC v) :=
 λ_ _ _ H _ I h=>NK I hg hm hv (x2 v H ⟨I,r,h⟩) hn hd
variable{a b:Expr}{ta tb:TE}{pos:Pos}
def PC(X:Cx)(op:CmpOp)(a b:Expr)(t:TE):Prop :=
 ∀ (AB:List (Addr × Obj)) (s:ε) (σ:St) (H:Hp) (Q:VK),Inv X AB σ H s->t σ H Q ->
  wpAny (model X.prog X.w) X.A (eval a X.env) (λv s₁=>wpAny (model X.prog X.w) X.A (eval b X.env) (λu s₂=>wpAny (model X.prog X.w) X.A (cw op v u) (EP X AB σ Q) X.xe s₂) X.xe s₁) X.xe s
def Hh(b:Expr){op:CmpOp}(h:op≠.In)(h2:op≠.NotIn):ky op b=false:=by
 have e1:(op == CmpOp.In)=false:=by cases op<;>first | rfl | exact absurd rfl h
 have e2:(op == Ka)=false:=by cases op<;>first | rfl | exact absurd rfl h2
 cases b<;>simp[ky,e1,e2]
def tB(t:TE):TT:=λσ H Q=>t σ H λx H1=>∃ c,x=.bl c/\Q c H1
def LA{op:CmpOp}{t:TE}(h:PC X op a b t)(h1:ky op b=false:=by first | exact Hh _ (by decide) (by decide) | rfl):PT X (.Compare a [op] [b] pos) (tB t):=by
 intro AB s σ H Q I hw;refine xp (A1 (h AB s σ H _ I hw) λv s1 h1=>A1 h1 λu s2 h2=>A1 h2 λc s3 hzz=> ?_) h1;obtain⟨x,H1,I1,r1,q1⟩:=hzz;obtain⟨d,rfl,q⟩:=q1;cases r1;exact g_ ⟨H1,I1,q⟩
variable{tA tB':TT}{rest:List Expr}
def LB(t u:TT):TT:=λσ H Q=>t σ H λc H1=>if c=true then u σ H1 Q else Q false H1
def IM(t u:TT):TT:=λσ H Q=>t σ H λc H1=>if c=true then Q true H1 else u σ H1 Q
def GD(t:TT):TT:=λσ H Q=>t σ H λc H1=>Q (!c) H1
def NL(ha:PT X a tA):PW X (.BoolOp .And [a] pos) tA:=by
 intro wh AB s σ H Q I h;refine isTrue_and (A1 (ha AB s σ H Q I h) λc s1 e=> ?_);cases c with
 | true=>exact isTrue_and_nil e
 | false=>exact e
def LC(ha:PT X a tA):PW X (.BoolOp .Or [a] pos) tA:=by
 intro wh AB s σ H Q I h;refine isTrue_or (A1 (ha AB s σ H Q I h) λc s1 e=> ?_);cases c with
 | false=>exact isTrue_or_nil e
 | true=>exact e
def NM(ha:PT X a tA)(hb:PW X (.BoolOp .And (b::rest) pos) tB'):PW X (.BoolOp .And (a::b::rest) pos) (LB tA tB'):=by
 intro wh AB s σ H Q I h;refine isTrue_and (A1 (ha AB s σ H _ I h) λc s1 hzz=> ?_);obtain⟨H1,I1,q1⟩:=hzz;cases c with
 | true=>exact hb wh AB s1 σ H1 Q I1 q1
 | false=>exact⟨H1,I1,q1⟩
def KF(ha:PT X a tA)(hb:PW X (.BoolOp .Or (b::rest) pos) tB'):PW X (.BoolOp .Or (a::b::rest) pos) (IM tA tB'):=by
 intro wh AB s σ H Q I h;refine isTrue_or (A1 (ha AB s σ H _ I h) λc s1 hzz=> ?_);obtain⟨H1,I1,q1⟩:=hzz;cases c with
 | true=>exact⟨H1,I1,q1⟩
 | false=>exact hb wh AB s1 σ H1 Q I1 q1
def GZ(ha:PT X a tA):PT X (.UnaryOp .Not a pos) (GD tA):=by
 intro AB s σ H Q I h;exact isTrue_not (ha AB s σ H (λc H1=>Q (!c) H1) I h)
def RL(ta tb:TE):TE:=λσ H Q=>ta σ H λx H1=>∃ c,x=.bl c/\if c=true then tb σ H1 Q else Q (.bl false) H1
def VT{op}{t:TE}(h:PE X a t):PE X (.BoolOp op [a] pos) t:=λAB s σ H Q I hw=>BoolOp_one (h AB s σ H Q I hw)
def VU(ha:PE X a ta)(hb:PE X (.BoolOp .And (b::rest) pos) tb):PE X (.BoolOp .And (a::b::rest) pos) (RL ta tb):=by
 intro AB s σ H Q I h;refine BoolOp_and (A1 (ha AB s σ H _ I h) λv s1 hzz=> ?_);obtain⟨x,H1,I1,r1,q1⟩:=hzz;obtain⟨c,rfl,q1⟩:=q1;cases r1;refine g_ ?_;cases c with
 | true=>exact hb AB s1 σ H1 Q I1 q1
 | false=>exact x2 (.bl false) H1 ⟨I1,rfl,q1⟩
end
end L2
namespace L2
def SqL(K:η)(H:Hp)(a:Addr)(xs:List V):Prop :=
 Rd H a (.lst xs) ∨
  ∃ (o:Obj) (its:Array Value) (n:Nat),K.lookup a=some o/\o.cls=.type "list"/\o.dict=none/\o.data=.seq its n/\its.size<=sizeLine/\Vals xs its.toList
def SqT(K:η)(H:Hp)(a:Addr)(xs:List V):Prop :=
 Rd H a (.tup xs) ∨
  ∃ (o:Obj) (its:Array Value) (n:Nat),K.lookup a=some o/\o.cls=.type "tuple"/\o.data=.seq its n/\its.size<=sizeLine/\Vals xs its.toList
def Hj:Value->Option V
 | .none=>some .non
 | .bool b=>some (.bl b)
 | .int i _=>some (.int i)
 | .str x _=>some (.str x)
 | .bytes b _=>some (.byt b)
 | .float b _=>some (.flt b)
 | .ref a=>some (.ref a)
 | .type n=>some (.ty n)
 | _=>none
def RelV.abs{x:V}{u:Value}(r:RelV x u):Hj u=some x:=by
 cases x with
 | non=>cases r;rfl
 | bl _=>cases r;rfl
 | int _=>obtain⟨t,rfl⟩:=r;rfl
 | str _=>obtain⟨t,rfl⟩:=r;rfl
 | byt _=>obtain⟨t,rfl⟩:=r;rfl
 | flt _=>obtain⟨t,rfl⟩:=r;rfl
 | ref _=>cases r;rfl
 | ty _=>cases r;rfl
def RelV.inj{x y:V}{u:Value}(r:RelV x u)(q:RelV y u):x=y:=cm (r.abs.symm.trans q.abs)
def Vals.inj:∀ {xs ys:List V} {us:List Value},Vals xs us->Vals ys us->xs=ys
 | _,_,_,.nil,.nil=>rfl
 | _,_,_,.cons r t,.cons r' t'=>by rw[r.inj r',Vals.inj t t']
section
variable{X:Cx}{AB:List (Addr × Obj)}{σ:St}{H:Hp}{s:ε}{a:Addr}{xs ys:List V}
def SqL.of{K:η}(h:H a=some (.lst xs)):SqL K H a xs:=.inl (.inl h)
def SqT.of{K:η}(h:H a=some (.tup xs)):SqT K H a xs:=.inl (.inl h)
def Inv.list(I:Inv X AB σ H s)(h:SqL X.K H a xs):∃ its:List Value,Vals xs its/\PlainL s.heap a its.toArray/\xs.length<=sizeLine:=by
 rcases h with h | ⟨o,its,n,hk,hc,hd,hs,hz,r⟩
 ·obtain⟨z,its,n,r,e⟩:=h.ok I.hok;exact⟨its,r,x2 _ n ⟨e,rfl,rfl,rfl⟩,z⟩
 ·refine⟨its.toList,r,x2 o n ⟨I.kIn a o hk,hc,hd,by simpa using hs⟩,?_⟩
  have e:=r.length;simp only[br]at e;exact e ▸ hz
def Inv.tuple(I:Inv X AB σ H s)(h:SqT X.K H a xs):∃ its:List Value,Vals xs its/\IsTup s.heap a its.toArray/\xs.length<=sizeLine:=by
 rcases h with h | ⟨o,its,n,hk,hc,hs,hz,r⟩
 ·obtain⟨z,its,r,p⟩:=h.ok I.hok;exact⟨its,r,p,z⟩
 ·refine⟨its.toList,r,⟨o,I.kIn a o hk,hc,n,by simpa using hs⟩,?_⟩
  have e:=r.length;simp only[br]at e;exact e ▸ hz
def Inv.list_inj(I:Inv X AB σ H s)(h:SqL X.K H a xs)(h':SqL X.K H a ys):xs=ys:=by
 obtain⟨its,r,⟨o,n,e,_,_,d⟩,_⟩:=I.list h;obtain⟨its',r',⟨o',n',e',_,_,d'⟩,_⟩:=I.list h';rw[e]at e';cases e';rw[d]at d';injection d' with d1 _
 have:its=its':=by simpa using congrArg I_ d1
 subst this;exact r.inj r'
def Inv.tuple_inj(I:Inv X AB σ H s)(h:SqT X.K H a xs)(h':SqT X.K H a ys):xs=ys:=by
 obtain⟨its,r,⟨o,e,_,n,d⟩,_⟩:=I.tuple h;obtain⟨its',r',⟨o',e',_,n',d'⟩,_⟩:=I.tuple h';rw[e]at e';cases e';rw[d]at d';injection d' with d1 _
 have:its=its':=by simpa using congrArg I_ d1
 subst this;exact r.inj r'
end
section
variable{X:Cx}{AB:List (Addr × Obj)}{σ:St}{H:Hp}{s:ε}{E:Value->ε->Prop}
end
section
variable{X:Cx}{st:Stmt}{rest:List Stmt}{t u:TS}{e:Expr}{te:TE}{pos:Pos}
def CO:TS:=λD σ H=>D.nx σ H
def AH(t u:TS):TS:=λD σ H=>t { D with nx:=u D } σ H
def CZ:G7 X [] CO:=λ_ _ σ H _ I h=>tw (x2 σ H ⟨I,h⟩)
def AK(h1:PS X st t)(h2:G7 X rest u):G7 X (st::rest) (AH t u):=by
 intro AB s σ H D I h;refine Cs (A1 (h1 AB s σ H { D with nx:=u D } I h) λf s1 q=> ?_);cases f with
 | next =>
  revert q;apply u2;rintro σ' H' ⟨I',q⟩;exact h2 AB s1 σ' H' D I' q
 | ret v=>exact q
 | brk=>exact q
 | cont=>exact q
def AN(h1:PS X st t):G7 X [st] t:=by
 intro AB s σ H D I h;refine Cs (A1 (h1 AB s σ H D I h) λf s1 q=> ?_);cases f with
 | next=>exact tw q
 | ret v=>exact q
 | brk=>exact q
 | cont=>exact q
def RM:TS:=λD σ H=>D.ct σ H
def iX:PS X (.Continue pos) RM:=λ_ _ σ H _ I h=>wpAny_Continue (x2 σ H ⟨I,h⟩)
def Inv.quiet{AB:List (Addr × Obj)}{σ:St}{H:Hp}{s:ε}(I:Inv X AB σ H s):interactive X.env=false:=by simp[interactive,I.ok.kind]
def DF(te:TE):TS:=λD σ H=>te σ H λ_ H1=>D.nx σ H1
def DO(he:PE X e te)(hs:wg e none pos.line X.env=pure false:=by rfl):PS X (.Expr e pos) (DF te):=by
 intro AB s σ H D I h;exact wpAny_Expr_any (A1 (he AB s σ H _ I h) λv s1 ⟨x,H1,I1,r1,q1⟩=>x2 σ H1 ⟨I1,q1⟩) I.quiet hs
def BE(te:TE):TS:=λD σ H=>te σ H D.rt
def BF(he:PE X e te):PS X (.Return (some e) pos) (BE te):=by
 intro AB s σ H D I h;exact wpAny_Return_some (A1 (he AB s σ H _ I h) λv s1 ⟨x,H1,I1,r1,q1⟩=>x3 x σ H1 ⟨I1,r1,q1⟩)
def OX:TS:=λD _ H=>D.rt .non H
def VV:PS X (.Return none pos) OX:=λ_ _ σ H _ I h=>wpAny_Return_none (x3 (.non) σ H ⟨I,rfl,h⟩)
def B0(c:TT)(t u:TS):TS:=λD σ H=>c σ H λb H1=>if b=true then t D σ H1 else u D σ H1
def CA{c:Expr}{a b:List Stmt}{tc:TT}(hc:PT X c tc)(ha:G7 X a t)(hb:G7 X b u):PS X (.If c a b pos) (B0 tc t u):=by
 intro AB s σ H D I h;refine wpAny_If (A1 (hc AB s σ H _ I h) λd s1 hzz=> ?_);obtain⟨H1,I1,q1⟩:=hzz;cases d with
 | true=>exact ha AB s1 σ H1 D I1 q1
 | false=>exact hb AB s1 σ H1 D I1 q1
end
abbrev TG:=V->St->Hp->(St->Hp->Prop)->Prop
abbrev G8:=List V->St->Hp->(St->Hp->Prop)->Prop
def PG(X:Cx)(target:Expr)(t:TG):Prop :=
 ∀ (AB:List (Addr × Obj)) (s:ε) (σ:St) (H:Hp) (v:V) (u:Value) (Q:St->Hp->Prop),Inv X AB σ H s->RelV v u->t v σ H Q ->
  wpAny (model X.prog X.w) X.A (Ct target X.env u) (λ_ s'=>∃ σ' H',Inv X AB σ' H' s'/\Q σ' H') X.xe s
def LD(X:Cx)(ts:List Expr)(t:G8):Prop :=
 ∀ (AB:List (Addr × Obj)) (s:ε) (σ:St) (H:Hp) (vs:List V) (us:List Value) (Q:St->Hp->Prop),Inv X AB σ H s->Vals vs us->t vs σ H Q ->
  wpAny (model X.prog X.w) X.A (yv ((uq ts X.env).map (·.2)) us) (λ_ s'=>∃ σ' H',Inv X AB σ' H' s'/\Q σ' H') X.xe s
abbrev RN:=V->V->V->Hp->(Hp->Prop)->Prop
def VW(X:Cx)(t:RN):Prop :=
 ∀ (AB:List (Addr × Obj)) (s:ε) (σ:St) (H:Hp) (o i v:V) (ov iv u:Value) (Q:Hp->Prop),Inv X AB σ H s->RelV o ov->RelV i iv->RelV v u->t o i v H Q ->
  wpAny (model X.prog X.w) X.A (setItem ov iv u) (λ_ s'=>∃ H',Inv X AB σ H' s'/\Q H') X.xe s
abbrev iY:=V->V->Hp->VK->Prop
section
variable{X:Cx}{pos:Pos}
def AM(i:Nat):TG:=λv σ H Q=>Q (σ.set i (some v)) H
def Hk{i:Nat}{x:Str}(hN:X.N.Nodup)(hi:X.N[i]? =some x)(hx:NI X.env.scope x)(hf:X.fn x=true\/X.env.scope.names.lookup x=some .local:=by first | exact .inl rfl | exact .inr rfl | assumption):PG X (.Name x pos) (AM i):=by
 intro AB s σ H v u Q I r h;exact zt (RJ I hN hi hx r (λs' I'=>x2 _ H ⟨I',h⟩) hf)
def RO:G8:=λvs σ H Q=>vs=[]/\Q σ H
def RP(t:TG)(u:G8):G8:=λvs σ H Q=>∃ v r,vs=v::r/\t v σ H λσ' H'=>u r σ' H' Q
def RQ:LD X [] RO:=by
 intro AB s σ H vs us Q I r h;obtain⟨e,h⟩:=h;subst e;cases r;exact zu (x2 σ H ⟨I,h⟩)
def LE{e:Expr}{es:List Expr}{t:TG}{u:G8}(h1:PG X e t)(h2:LD X es u)
  (hs:(uq (e::es) X.env).map (·.2)=Ct e X.env::(uq es X.env).map (·.2):=by rfl):LD X (e::es) (RP t u):=by
 intro AB s σ H vs us Q I r h;revert h;apply u2;rintro v vr ⟨e1,h⟩;subst e1;cases r with
 | cons r rr =>
  rw[hs];refine ut (A1 (h1 AB s σ H _ _ _ I r h) λ_ s1 hzz=> ?_);obtain⟨σ1,H1,I1,q1⟩:=hzz;exact h2 AB s1 σ1 H1 _ _ Q I1 rr q1
def RR(K:η)(n:Nat)(t:G8):TG:=λv σ H Q=>∃ a xs,v=.ref a/\SqT K H a xs/\xs.length=n/\t xs σ H Q
def RS{es:List Expr}{k:Nat}{t:G8}{n:Nat}(hc:X.calm=true)(h:LD X es t)
  (hn:(uq es X.env).length=n:=by rfl) (hst:(uq es X.env).findIdx? (·.1)=none:=by rfl):PG X (.Tuple es k pos) (RR X.K n t):=by
 intro AB s σ H v u Q I r hw;revert hw;apply u2;rintro a xs ⟨e1,hq,hl,hw⟩;subst e1;cases r;obtain⟨its,rv,ht,hz⟩:=I.tuple hq;refine assign_Tuple_tuple (I.ok.hd hc) ht (by simp[hn,<-hl,rv.length]) hst λh' hx=> ?_
 have I1:Inv X AB σ H { s with heap:=h' }:=I.kept (t':=s.toks) λb o e=>hx b o (aw (ω e)) e;exact h AB _ σ H xs _ Q I1 (by simpa using rv) hw
def OY(to ti:TE)(t:RN):TG:=λv σ H Q=>to σ H λo H1=>ti σ H1 λi H2=>t o i v H2 λH3=>Q σ H3
def VX{o i:Expr}{to ti:TE}{t:RN}(ho:PE X o to)(hi:PE X i ti)(hs:VW X t)
  (ha:∀ v,Ct (.Subscript o i pos) X.env v=(do
   let ov ← oy [v] (eval o X.env)
   let iv ← oy [v,ov] (eval i X.env)
   wx pos
   oy [v,ov,iv] (setItem ov iv v)
   release [v,ov,iv] []):=by intro _;rfl):PG X (.Subscript o i pos) (OY to ti t):=by
 intro AB s σ H v u Q I r h;rw[ha];refine δ (d_ (A1 (ho AB s σ H _ I h) λov s1 hzz=> ?_));obtain⟨x,H1,I1,r1,q1⟩:=hzz;refine δ (d_ (A1 (hi AB s1 σ H1 _ I1 q1) λiv s2 hzz=> ?_));obtain⟨y,H2,I2,r2,q2⟩:=hzz;refine δ (vq (δ (d_ (A1 (hs AB s2 σ H2 x y v ov iv u _ I2 r1 r2 r q2) λ_ s3 hzz=> ?_))));obtain⟨H3,I3,q3⟩:=hzz;exact wpAny_release (x2 σ H3 ⟨I3,q3⟩)
def AX(te:TE)(g:TG):TS:=λD σ H=>te σ H λx H1=>g x σ H1 D.nx
def OZ{tg e:Expr}{te:TE}{g:TG}(he:PE X e te)(hg:PG X tg g)(hs:swapsWithSole [tg] e pos.line X.env=pure false:=by rfl)(hw:swappedStores [tg] e X.env=pure none:=by rfl)
  (h1:(uq [tg] X.env).map (·.2)=[Ct tg X.env]:=by rfl):PS X (.Assign [tg] e pos) (AX te g):=by
 intro AB s σ H D I h;refine wpAny_Assign_stores (A1 (he AB s σ H _ I h) λv s1 hzz=> ?_) hs hw;obtain⟨x,H1,I1,r1,q1⟩:=hzz;rw[h1];exact A1 (hg AB s1 σ H1 x v _ I1 r1 q1) λ_ s2 q=>q
def O0{i:Nat}{x:Str}{e:Expr}{te:TE}{pos':Pos}(hN:X.N.Nodup)(hi:X.N[i]? =some x)(hx:NI X.env.scope x)(he:PE X e te)(hs:wg e (some (.Name x pos')) pos.line X.env=pure false:=by rfl)(hf:X.fn x=true\/X.env.scope.names.lookup x=some .local:=by first | exact .inl rfl | exact .inr rfl | assumption) :
  PS X (.Assign [.Name x pos'] e pos) (AX te (AM i)):=by
 intro AB s σ H D I h;refine wpAny_Assign_Name (A1 (he AB s σ H _ I h) λv s1 hzz=> ?_) hs;obtain⟨y,H1,I1,r1,q1⟩:=hzz;exact RJ I1 hN hi hx r1 (λs2 I2=>x2 _ H1 ⟨I2,q1⟩) hf
def VY(i j:Nat)(ta:TA):TS:=λD σ H=>ta σ H λvs H1=>∃ v w,vs=[v,w]/\D.nx ((σ.set i (some v)).set j (some w)) H1
def Hl{i j:Nat}{x y:Str}{a b:Expr}{ta:TA}{px py pt:Pos}{kt k2 pt2}(hc:X.calm=true)(hN:X.N.Nodup)(hi:X.N[i]? =some x)(hj:X.N[j]? =some y)(hij:i≠j)
  (hx:X.env.scope.names.lookup x=some .local) (hy:X.env.scope.names.lookup y=some .local) (ha:PA X [a,b] ta)
  (hw:swappedStores [.Tuple [.Name x px,.Name y py] kt pt] (.Tuple [a,b] k2 pt2) X.env=pure (some [x,y]))
  (hs:swapsWithSole [.Tuple [.Name x px,.Name y py] kt pt] (.Tuple [a,b] k2 pt2) pos.line X.env=pure false:=by rfl) :
  PS X (.Assign [.Tuple [.Name x px,.Name y py] kt pt] (.Tuple [a,b] k2 pt2) pos) (VY i j ta):=by
 intro AB s σ H D I h;rw[exec_Assign_arm];refine δ (vq ?_);rw[hs];refine δ (μ ?_);rw[if_neg (by decide)];refine δ (Tuple_ (A1 (ha _ AB s σ H _ I h) λus s1 hzz=> ?_));obtain⟨vs,H1,I1,r1,q1⟩:=hzz;revert q1;apply u2;rintro v w ⟨e1,q1⟩;subst e1;obtain⟨u1,u2,rfl,rv,rw'⟩:∃ u1 u2,us=[u1,u2]/\RelV v u1/\RelV w u2:=by
  cases r1 with
  | cons p q =>
   cases q with
   | cons p' q' =>
    cases q';exact y2 ⟨rfl,p,p'⟩
 refine ce ?_ (by show 2<=sizeLine;decide)
 have I2:Inv X AB σ H1 { s1 with heap:=s1.heap.push { cls:=.type "tuple",data:=.seq [u1,u2].toArray } }:=I1.kept (t':=s1.toks) λb o e=>θ _ e;rw[hw];refine δ (μ ?_)
 show wpAny (model X.prog X.w) X.A (do rule "assign.swapped-stores";let items ← unpackItems (.ref s1.heap.objs.size) 2 none;yv [λv=>Gn X.env y v,λv=>Gn X.env x v] items.reverse;pure Flow.next) _ _ _;refine δ (rj (δ (unpackItems_tuple (items:= #[u1,u2]) (I.ok.hd hc) (Cu s1.heap _) λh' hx'=> ?_)))
 have I3:=I2.kept (h':=h') (t':=s1.toks) λb o e=>hx' b o (aw (ω e)) e
 show wpAny _ _ (yv [λv=>Gn X.env y v,λv=>Gn X.env x v] [u2,u1] >>= λ_=>pure Flow.next) _ _ _;refine δ (ut (wpAny_bindName (RJ I3 hN hj (.inl hy) rw' (λs2 I4=> ?_) (.inr hy))));refine ut (wpAny_bindName (RJ I4 hN hi (.inl hx) rv (λs3 I5=>zu (μ ?_)) (.inr hx)));rw[List.set_comm _ _ (di hij)]at I5;exact x2 _ H1 ⟨I5,q1⟩
def Hm(f:Int->Int->Int):iY:=λx y H Q=>∃ i j,x=.int i/\y=.int j/\Q (.int (f i j)) H
end
section
variable{X:Cx}{pos:Pos}
end
structure It where
 go:Nat->Hp->Prop
 yld:Nat->Hp->V->Hp->Prop
 stop:Nat->Hp->Prop
def FpOk(X:Cx)(AB:List (Addr × Obj))(H:Hp)(b:Addr):Prop :=
 H b=none/\b≠X.env.locals/\b∉X.fs/\(b∈X.ex\/X.s₀.heap.objs.size<=b)/\(∀ x c,X.env.cells.lookup x=some c->c≠b)/\∀ p∈X.pn++AB,p.1≠b
def Inv.fpOk{X:Cx}{AB:List (Addr × Obj)}{σ:St}{H H':Hp}{s:ε}{b:Addr}(I:Inv X AB σ H s)(hb:s.heap.objs.size<=b)(hn:H' b=none):FpOk X AB H' b:=by
 refine⟨hn,il (τ I.lt hb),I.nofs hb,.inr (υ I.sz hb),λx c e z=> ?_,λp hp z=> ?_⟩
 ·obtain⟨v,q⟩:=I.cell x c e;exact absurd (τ q.lt (by rw[z];exact hb)) (kx _)
 ·exact absurd (τ (ω (I.pin p hp).1) (by rw[z];exact hb)) (kx _)
structure MH(P:au)(w:World)(K:η)(tg:Expr)(J:It)(fp:List Addr)(it:Addr)(tn:Nat->Heap->Prop):Prop where
 mem:it∈fp
 obj:∀ i h,tn i h->∀ b∈fp,∃ o,h.get? b=some o/\∀ v,o.data≠.cell v
 keep:∀ i h h',tn i h->(∀ b∈fp,∀ o,h.get? b=some o->h'.get? b=some o)->tn i h'
 item:∀ (X:Cx),X.prog=P->X.w=w->X.K=K->X.calm=true->∀ (i:Nat) (AB:List (Addr × Obj)) (s:ε) (σ:St) (H:Hp) (E:Value->ε->Prop),Inv X AB σ H s->(∀ b∈fp,FpOk X AB H b)->tn i s.heap->J.go i H ->
  wpAny (model P w) X.A (mj (.ref it)) (λr s1=>∃ u,r=some u /\
   wpAny (model P w) X.A (tz tg (.ref it) u) (λ_ s2=>∃ x H',Inv X AB σ H' s2/\RelV x u/\J.yld i H x H'/\tn (i+1) s2.heap/\∀ b∈fp,H' b=none) E s1) E s
 done:∀ (X:Cx),X.prog=P->X.w=w->X.K=K->X.calm=true->∀ (i:Nat) (AB:List (Addr × Obj)) (s:ε) (σ:St) (H:Hp) (E:Value->ε->Prop),Inv X AB σ H s->(∀ b∈fp,FpOk X AB H b)->tn i s.heap->J.stop i H ->
  wpAny (model P w) X.A (mj (.ref it)) (λr s1=>r=none/\Inv X AB σ H s1) E s
 self:∀ (A:bg) (i:Nat) (s:ε) (Q:Value->ε->Prop) (E:Value->ε->Prop),tn i s.heap->Q (.ref it) s->wpAny (model P w) A (C_ (.ref it)) Q E s
abbrev TI:=St->Hp->(It->Hp->Prop)->Prop
def iZ(X:Cx)(AB:List (Addr × Obj))(σ:St)(tg:Expr)(R:It->Hp->Prop)(itv:Value)(s2:ε):Prop :=
 ∃ (it:Addr) (fp:List Addr) (tn:Nat->Heap->Prop) (J:It) (H':Hp),itv=.ref it/\Inv X AB σ H' s2/\MH X.prog X.w X.K tg J fp it tn/\tn 0 s2.heap/\(∀ b∈fp,FpOk X AB H' b)/\R J H'
def PI(X:Cx)(tg iter:Expr)(wi:TI):Prop :=
 ∀ (AB:List (Addr × Obj)) (s:ε) (σ:St) (H:Hp) (R:It->Hp->Prop),Inv X AB σ H s->wi σ H R ->
  wpAny (model X.prog X.w) X.A (eval iter X.env) (λv s1=>wpAny (model X.prog X.w) X.A (C_ v) (iZ X AB σ tg R) X.xe s1) X.xe s
def RU{M:Model}{A:bg}{E:Value->ε->Prop}{s:ε}{tg:Expr}{it:Addr}{u:Value}{o:Obj}{n:String}{vs:Array Value}{Q:Unit->ε->Prop}(ho:s.heap.get? it=some o)(hc:o.cls=.type n)(hd:o.data=.fields vs)
    (hn:["enumerate","zip","dict_itemiterator","dict_reverseitemiterator","odict_iterator","itertools.zip_longest","itertools.pairwise"].contains n=false) (hQ:Q () s):wpAny M A (tz tg (.ref it) u) Q E s:=by
  unfold tz;cases tg<;>first
    | exact μ hQ
    | (cases u<;>first
        | exact μ hQ
        | (refine δ (wpAny_load ho ?_)
           rw[hc,hd]
           show wpAny M A (if(["enumerate","zip","dict_itemiterator","dict_reverseitemiterator","odict_iterator","itertools.zip_longest","itertools.pairwise"].contains n && vs[0]? == some (ir _))=true then _ else _) Q E s;rw[if_neg (by intro h;rw[hn,iu]at h;cases h)];exact μ hQ))
def IN(K:η)(a:Addr):It :=
 ⟨λi H=>∃ xs x,SqL K H a xs/\xs[i]? =some x,λi H x H'=>H'=H/\∀ xs,SqL K H a xs->xs[i]? =some x,λi H=>∃ xs,SqL K H a xs/\xs.length<=i⟩
def JK(K:η)(a:Addr):It :=
 ⟨λi H=>∃ xs x,SqT K H a xs/\xs[i]? =some x,λi H x H'=>H'=H/\∀ xs,SqT K H a xs->xs[i]? =some x,λi H=>∃ xs,SqT K H a xs/\xs.length<=i⟩
def GE(lo:Int)(n:Nat):It:=⟨λi _=>i<n,λi H x H'=>H'=H/\x=.int (lo+i),λi _=>n<=i⟩
def Hq{P:au}{w:World}{K:η}{tg:Expr}(a it:Addr):MH P w K tg (IN K a) [it] it (λi h=>h.IsListIter it a i) where
 mem:=by simp
 obj:=λi h st b hb=>by
  have e:b=it:=by simpa using hb
  subst e;obtain⟨o,e,c,d⟩:=st;exact⟨o,e,λv z=>by rw[d]at z;cases z⟩
 keep:=λi h h' st k=>st.at λo e=>k it (by simp) o e
 item:=by
  intro X hP hw hK hc i AB s σ H E I hf st hg;subst hP hw hK;revert hg;apply u2;rintro xs x ⟨hq,hx⟩;obtain⟨its,rv,p,hz⟩:=I.list hq;obtain⟨u,hu,ru⟩:=rv.get hx;obtain⟨f0,f1,f2,f3,f4,f5⟩:=hf it (by simp);refine wpAny_pyNext_list_item st p.isList (x:=u) (by simpa using hu) λh' st' sb=> ?_
  have I1:Inv X AB σ H { s with heap:=h' }:=I.turned (t':=s.toks) (λb o hb e=>(sb.2 b hb).trans e) f0 f1 f3 f4 f5;obtain⟨o,e,c,d⟩:=id st';exact⟨u,rfl,RU (s:={ s with heap:=h' }) e c d (by decide) (x2 x H ⟨I1,ru,⟨rfl,λys hy=>by rw[I.list_inj hy hq];exact hx⟩,st',λb hb=>(hf b hb).1⟩)⟩
 done:=by
  intro X hP hw hK hc i AB s σ H E I hf st hg;subst hP hw hK;obtain⟨xs,hq,hx⟩:=hg;obtain⟨its,rv,p,hz⟩:=I.list hq;obtain⟨f0,f1,f2,f3,f4,f5⟩:=hf it (by simp)
  have hl:=rv.length;exact wpAny_pyNext_list_end (I.ok.hd hc) st p.isList (by simp;exact hl ▸ hx) λh' eb=>⟨rfl,I.turned (t':=s.toks) (λb o hb e=>eb b o hb e) f0 f1 f3 f4 f5⟩
 self:=λ_ _ _ _ _ st h=>wpAny_pyIter_listiter st h
def Hv{P:au}{w:World}{K:η}{tg:Expr}(a it:Addr):MH P w K tg (JK K a) [it] it (λi h=>h.IsTupleIter it a i) where
 mem:=by simp
 obj:=λi h st b hb=>by
  have e:b=it:=by simpa using hb
  subst e;obtain⟨o,e,c,d⟩:=st;exact⟨o,e,λv z=>by rw[d]at z;cases z⟩
 keep:=λi h h' st k=>st.at λo e=>k it (by simp) o e
 item:=by
  intro X hP hw hK hc i AB s σ H E I hf st hg;subst hP hw hK;revert hg;apply u2;rintro xs x ⟨hq,hx⟩;obtain⟨its,rv,p,hz⟩:=I.tuple hq;obtain⟨u,hu,ru⟩:=rv.get hx;obtain⟨f0,f1,f2,f3,f4,f5⟩:=hf it (by simp);refine wpAny_pyNext_tuple_item st (show s.heap.IsTuple a its.toArray from p) (x:=u) (by simpa using hu) λh' st' sb=> ?_
  have I1:Inv X AB σ H { s with heap:=h' }:=I.turned (t':=s.toks) (λb o hb e=>(sb.2 b hb).trans e) f0 f1 f3 f4 f5;obtain⟨o,e,c,d⟩:=id st';exact⟨u,rfl,RU (s:={ s with heap:=h' }) e c d (by decide) (x2 x H ⟨I1,ru,⟨rfl,λys hy=>by rw[I.tuple_inj hy hq];exact hx⟩,st',λb hb=>(hf b hb).1⟩)⟩
 done:=by
  intro X hP hw hK hc i AB s σ H E I hf st hg;subst hP hw hK;obtain⟨xs,hq,hx⟩:=hg;obtain⟨its,rv,p,hz⟩:=I.tuple hq;obtain⟨f0,f1,f2,f3,f4,f5⟩:=hf it (by simp)
  have hl:=rv.length;exact wpAny_pyNext_tuple_end (I.ok.hd hc) st (show s.heap.IsTuple a its.toArray from p) (by simp;exact hl ▸ hx) λh' eb=>⟨rfl,I.turned (t':=s.toks) (λb o hb e=>eb b o hb e) f0 f1 f3 f4 f5⟩
 self:=λ_ _ _ _ _ st h=>wpAny_pyIter_tupleiter st h
def Hw{P:au}{w:World}{K:PySem.W.Frag}{tg:Expr}(it:Addr)(lo:Int)(n:Nat):MH P w K tg (GE lo n) [it] it (λi h=>IsRangeIter h it (lo+(i:Nat) * 1) ((n:Int) - (i:Nat)) 1) where
 mem:=by simp
 obj:=λi h st b hb=>by
  have e:b=it:=by simpa using hb
  subst e;exact⟨_,st,λv z=>by
   have z':Data.fields _=Data.cell v:=z;cases z'⟩
 keep:=λi h h' st k=>k it (by simp) _ st
 item:=by
  intro X hP hw hK hc i AB s σ H E I hf st hg;subst hP hw hK;obtain⟨f0,f1,f2,f3,f4,f5⟩:=hf it (by simp)
  have W:=Walks.range (prog:=X.prog) (w:=X.w) (I.ok.hd hc) it lo 1 n;refine W.item i s _ _ hg st λv h' tk hv st' kk=> ?_;obtain⟨t,rfl⟩:=hv
  have I1:Inv X AB σ H { s with heap:=h',toks:=tk }:=I.turned (λb o hb e=>kk b o (by simpa using hb) e) f0 f1 f3 f4 f5;refine⟨_,rfl,RU (s:={ s with heap:=h',toks:=tk }) (n:="range_iterator") st' rfl rfl (by decide) (x2 (.int (lo+i)) H ⟨I1,⟨t,?_⟩,⟨rfl,rfl⟩,st',λb hb=>(hf b hb).1⟩)⟩;rw[Int.mul_one]
 done:=by
  intro X hP hw hK hc i AB s σ H E I hf st hg;subst hP hw hK;obtain⟨f0,f1,f2,f3,f4,f5⟩:=hf it (by simp);exact wpAny_pyNext_range_end (I.ok.hd hc) st (by have:n<=i:=hg;omega) λh' eb=>⟨rfl,I.turned (t':=s.toks) (λb o hb e=>eb b o hb e) f0 f1 f3 f4 f5⟩
 self:=λ_ _ _ _ _ st h=>wpAny_pyIter_rangeiter st h
end L2
namespace L2
section
variable{X:Cx}{tg:Expr}
def i4{AB:List (Addr × Obj)}{σ:St}{H:Hp}{s:ε}{R:It->Hp->Prop}{E:Value->ε->Prop}{lo hi:Int}{t u v:Tok}{tk:Nat}(I:Inv X AB σ H s)(h1: -(2 ^ 62)<=lo)(h2:lo<2 ^ 62)(h3: -(2 ^ 62)<=hi)(h4:hi<2 ^ 62)
  (q:R (GE lo (hi - lo).toNat) H):wpAny (model X.prog X.w) X.A (C_ (.ref s.heap.objs.size)) (iZ X AB σ tg R) E { s with heap:=s.heap.push { cls:=.type "range",data:=.fields #[.int lo t,.int hi u,.int 1 v] },toks:=tk }:=by
 refine wpAny_pyIter_range (IsRange.new ..) (small_one h1 h2 h3 h4) ?_
 have I1:Inv X AB σ H { s with heap:=s.heap.push { cls:=.type "range",data:=.fields #[.int lo t,.int hi u,.int 1 v] },toks:=tk }:=I.kept λb o e=>θ _ e;refine⟨(s.heap.push { cls:=.type "range",data:=.fields #[.int lo t,.int hi u,.int 1 v] }).objs.size,[(s.heap.push { cls:=.type "range",data:=.fields #[.int lo t,.int hi u,.int 1 v] }).objs.size],_,_,H,rfl,
  I1.kept (t':=tk) λb o e=>θ _ e,Hw _ lo (hi - lo).toNat,?_,λb hb=> ?_,q⟩
 ·have e1:lo+((0:Nat):Int) * 1=lo:=by simp
  have e2:(((hi - lo).toNat:Nat):Int) - ((0:Nat):Int)=Il lo hi 1:=by rw[rangeSize_one];split<;>omega
  show IsRangeIter _ _ (lo+((0:Nat):Int) * 1) ((((hi - lo).toNat:Nat):Int) - ((0:Nat):Int)) 1;rw[e1,e2];exact ae _ rfl
 ·have e:b=(s.heap.push { cls:=.type "range",data:=.fields #[.int lo t,.int hi u,.int 1 v] }).objs.size:=by simpa using hb
  subst e;exact I1.fpOk (ξ _) (I1.hok.fresh (ξ _))
def RV(ta:TA):TI:=λσ H R=>ta σ H λvs H1=>∃ j:Int,vs=[.int j]/\ -(2 ^ 62)<=j/\j<2 ^ 62/\R (GE 0 j.toNat) H1
def O1(ta:TA):TI:=λσ H R=>ta σ H λvs H1=>∃ i j:Int,vs=[.int i,.int j]/\(-(2 ^ 62)<=i/\i<2 ^ 62/\ -(2 ^ 62)<=j/\j<2 ^ 62)/\R (GE i (j - i).toNat) H1
def GG{a:Expr}{ta:TA}{p pos:Pos}(hg:Gl X "range")(hm:X.mg "range"=none)(ha:PA X [a] ta)(hs:af [a] X.env=[(false,eval a X.env)]:=by rfl):PI X tg (.Call (.Name "range" p) [a] [] pos) (RV ta):=by
 intro AB s σ H R I h;refine Call_ (NK I hg hm boot_range (im (A1 (ha pos AB s σ H _ I h) λus s1 hzz=> ?_) hs rfl));obtain⟨vs,H1,I1,r1,q1⟩:=hzz;obtain⟨j,e,q1,q2,q⟩:=q1;subst e;cases r1 with
 | cons r rr =>
  cases rr;obtain⟨t,rfl⟩:=r;exact call_range_1 (i4 I1 (by decide) (by decide) q1 q2 (by simpa using q))
def i5{a b:Expr}{ta:TA}{p pos:Pos}(hg:Gl X "range")(hm:X.mg "range"=none)(ha:PA X [a,b] ta)(hs:af [a,b] X.env=[(false,eval a X.env),(false,eval b X.env)]:=by rfl)(hs2:af [b] X.env=[(false,eval b X.env)]:=by rfl) :
  PI X tg (.Call (.Name "range" p) [a,b] [] pos) (O1 ta):=by
 intro AB s σ H R I h;refine Call_ (NK I hg hm boot_range (im (A1 (ha pos AB s σ H _ I h) λus s1 hzz=> ?_) (by rw[hs,hs2]) (by rw[hs2];rfl)));obtain⟨vs,H1,I1,r1,q1⟩:=hzz;revert q1;apply u2;rintro i j ⟨e,⟨q1,q2,q3,q4⟩,q⟩;subst e;cases r1 with
 | cons r rr =>
  cases rr with
  | cons r' rr =>
   cases rr;obtain⟨t,rfl⟩:=r;obtain⟨t',rfl⟩:=r';exact call_range_2 (i4 I1 q1 q2 q3 q4 q)
def EO(wi:TI)(g:TG)(tb:TS):TS:=λD σ H=>wi σ H λJ H1=>∃ W:Nat->Nat->St->Hp->Prop,(∃ m,W 0 m σ H1)/\∀ i m σ H,W i m σ H ->
 (J.stop i H/\D.nx σ H)\/(J.go i H/\∃ N:St->Hp->Prop,(∀ σ' H',N σ' H'->∃ m',m'<m/\W (i+1) m' σ' H')/\∀ x H',J.yld i H x H'->g x σ H' λσ2 H2=>tb { D with nx:=N,ct:=N,bk:=D.nx } σ2 H2)
def O2(fp:List Addr)(h:Heap):List (Addr × Obj):=fp.filterMap λb=>(h.get? b).map λo=>(b,o)
def RW{fp:List Addr}{h:Heap}{b:Addr}{o:Obj}(hb:b∈fp)(e:h.get? b=some o):(b,o)∈O2 fp h:=zd.mpr ⟨b,hb,by rw[e];rfl⟩
def Hx{fp:List Addr}{h:Heap}{p:Addr × Obj}(hp:p∈O2 fp h):p.1∈fp/\h.get? p.1=some p.2:=by
 obtain⟨b,hb,e⟩:=zd.mp hp;cases q:h.get? b with
 | none=>rw[q]at e;cases e
 | some o =>
  rw[q]at e
  have e':(b,o)=p:=cm e;subst e';exact⟨hb,q⟩
def Inv.pinned{AB:List (Addr × Obj)}{σ:St}{H:Hp}{s:ε}{fp:List Addr}(I:Inv X AB σ H s)(hf:∀ b∈fp,FpOk X AB H b)(ho:∀ b∈fp,∃ o,s.heap.get? b=some o/\∀ v,o.data≠.cell v):Inv X (AB++O2 fp s.heap) σ H s :=
 I.pins_of λp hp=>(bh.mp hp).elim (λz=>I.pin p (bw _ z)) λz=>by
  obtain⟨hb,e⟩:=Hx z;obtain⟨f0,f1,f2,_⟩:=hf p.1 hb;obtain⟨o,e',d⟩:=ho p.1 hb;rw[e]at e';cases e';exact⟨e,f0,f1,f2,d⟩
def Inv.unpinned{AB pl:List (Addr × Obj)}{σ:St}{H:Hp}{s:ε}(I:Inv X (AB++pl) σ H s):Inv X AB σ H s:=I.pins_of λp hp=>I.pin p (bw _ (gr _ hp))
def FW{iter:Expr}{body:List Stmt}{wi:TI}{g:TG}{tb:TS}{pos:Pos}(hp:PassesOwn (model X.prog X.w) X.A X.env X.xe)(hc:X.calm=true)(hi:PI X tg iter wi)(hg:PG X tg g)(hb:G7 X body tb)
  (hs:∀ x,vh iter X.env x=pure x:=by intro _;rfl):PS X (.For tg iter body [] pos) (EO wi g tb):=by
 intro AB s σ H D I h;refine wpAny_For (A1 (hi AB s σ H _ I h) λv s1 h1=>A1 h1 λitv s2 h2=> ?_) hs;revert h2;apply u5;rintro it fp tn J H2 ⟨e,I2,T,st2,f2,W,⟨m0,w0⟩,turn⟩;subst e
 have stat:∀ {H':Hp},(∀ b∈fp,H' b=none)->∀ b∈fp,FpOk X AB H' b:=λhn b hb=>⟨hn b hb,(f2 b hb).2⟩
 refine codeAny_forLoop_any (λn s'=>∃ i σ' H',Inv X AB σ' H' s'/\tn i s'.heap/\(∀ b∈fp,H' b=none)/\W i n σ' H') ?_ m0 (x3 0 σ H2 ⟨I2,st2,λb hb=>(f2 b hb).1,w0⟩);rintro n s3 ⟨i,σ3,H3,I3,st3,fr3,w3⟩;rcases turn i n σ3 H3 w3 with⟨stop,qn⟩ | ⟨go,N,hN,step⟩
 ·refine m_ hp (A1 (T.done X rfl rfl rfl hc i AB s3 σ3 H3 X.xe I3 (stat fr3) st3 stop) λr s4 ⟨hr,I4⟩=> ?_);subst hr;exact tw (x2 σ3 H3 ⟨I4,qn⟩)
 ·refine m_ hp (A1 (T.item X rfl rfl rfl hc i AB s3 σ3 H3 X.xe I3 (stat fr3) st3 go) λr s4 hzz=> ?_);obtain⟨u,hr,h4⟩:=hzz;subst hr;refine m_ hp (A1 h4 λ_ s5 hzz=> ?_);obtain⟨x,H5,I5,r5,y5,st5,fr5⟩:=hzz
  have I5':=I5.pinned (stat fr5) (T.obj _ _ st5);refine m_ hp (A1 (hg _ s5 σ3 H5 x u _ I5' r5 (step x H5 y5)) λ_ s6 hzz=> ?_);obtain⟨σ6,H6,I6,q6⟩:=hzz;refine m_ hp (A1 (hb _ s6 σ6 H6 _ I6 q6) λf s7 q7=> ?_)
  have again:∀ {σ7:St} {H7:Hp},Inv X (AB++O2 fp s5.heap) σ7 H7 s7->N σ7 H7->∃ m,m<n/\∃ i σ' H',Inv X AB σ' H' s7/\tn i s7.heap/\(∀ b∈fp,H' b=none)/\W i m σ' H':=λ{σ7 H7} I7 n7=>by
   obtain⟨m',hm,w7⟩:=hN σ7 H7 n7;refine⟨m',hm,x3 (i+1) σ7 H7 ⟨I7.unpinned,T.keep _ _ _ st5 λb hb o e=>(I7.pin (b,o) (bw _ (bw _ (RW hb e)))).1,λb hb=> ?_,w7⟩⟩;obtain⟨o,e,d⟩:=T.obj _ _ st5 b hb;exact(I7.pin (b,o) (bw _ (bw _ (RW hb e)))).2.1
  cases f with
  | next=>revert q7;apply u2;rintro σ7 H7 ⟨I7,n7⟩;exact again I7 n7
  | cont=>revert q7;apply u2;rintro σ7 H7 ⟨I7,n7⟩;exact again I7 n7
  | brk=>revert q7;apply u2;rintro σ7 H7 ⟨I7,q7⟩;exact x2 σ7 H7 ⟨I7.unpinned,q7⟩
  | ret v=>revert q7;apply u3;rintro x7 σ7 H7 ⟨I7,r7,q7⟩;exact x3 x7 σ7 H7 ⟨I7.unpinned,r7,q7⟩
end
def Hy{K:PySem.W.Frag}{a:Addr}{xs:List V}{g:TG}{tb:TS}{D:Ends}{σ:St}{H:Hp}(Pv:Nat->St->Hp->Prop)(h0:Pv 0 σ H)(hl:∀ i σ H,i<=xs.length->Pv i σ H->SqL K H a xs)
  (hs:∀ i x σ H,xs[i]? =some x->Pv i σ H->g x σ H λσ2 H2=>tb { D with nx:=Pv (i+1),ct:=Pv (i+1),bk:=D.nx } σ2 H2) (hd:∀ σ H,Pv xs.length σ H->D.nx σ H) :
  ∃ W:Nat->Nat->St->Hp->Prop,(∃ m,W 0 m σ H)/\∀ i m σ H,W i m σ H ->
   ((IN K a).stop i H/\D.nx σ H)\/((IN K a).go i H/\∃ N:St->Hp->Prop,(∀ σ' H',N σ' H'->∃ m',m'<m/\W (i+1) m' σ' H')/\∀ x H',(IN K a).yld i H x H'->g x σ H' λσ2 H2=>tb { D with nx:=N,ct:=N,bk:=D.nx } σ2 H2):=by
 refine⟨λi m σ H=>m=xs.length - i/\i<=xs.length/\Pv i σ H,⟨xs.length,by simp,a_ _,h0⟩,?_⟩;rintro i m σ H ⟨rfl,hi,p⟩
 have q:=hl i σ H hi p;by_cases BH:i<xs.length
 ·refine .inr ⟨x2 xs (xs[i]) ⟨q,by simp[BH]⟩,Pv (i+1),λσ' H' p'=>⟨xs.length - (i+1),by omega,rfl,BH,p'⟩,λx H' y=> ?_⟩;obtain⟨e,y⟩:=y;subst e;exact hs i x σ _ (y xs q) p
 ·have e:i=xs.length:=by omega
  subst e;exact .inl ⟨⟨xs,q,ξ _⟩,hd σ H p⟩
def Hz{K:PySem.W.Frag}{a:Addr}{xs:List V}{g:TG}{tb:TS}{D:Ends}{σ:St}{H:Hp}(Pv:Nat->St->Hp->Prop)(h0:Pv 0 σ H)(hl:∀ i σ H,i<=xs.length->Pv i σ H->SqT K H a xs)
  (hs:∀ i x σ H,xs[i]? =some x->Pv i σ H->g x σ H λσ2 H2=>tb { D with nx:=Pv (i+1),ct:=Pv (i+1),bk:=D.nx } σ2 H2) (hd:∀ σ H,Pv xs.length σ H->D.nx σ H) :
  ∃ W:Nat->Nat->St->Hp->Prop,(∃ m,W 0 m σ H)/\∀ i m σ H,W i m σ H ->
   ((JK K a).stop i H/\D.nx σ H)\/((JK K a).go i H/\∃ N:St->Hp->Prop,(∀ σ' H',N σ' H'->∃ m',m'<m/\W (i+1) m' σ' H')/\∀ x H',(JK K a).yld i H x H'->g x σ H' λσ2 H2=>tb { D with nx:=N,ct:=N,bk:=D.nx } σ2 H2):=by
 refine⟨λi m σ H=>m=xs.length - i/\i<=xs.length/\Pv i σ H,⟨xs.length,by simp,a_ _,h0⟩,?_⟩;rintro i m σ H ⟨rfl,hi,p⟩
 have q:=hl i σ H hi p;by_cases BH:i<xs.length
 ·refine .inr ⟨x2 xs (xs[i]) ⟨q,by simp[BH]⟩,Pv (i+1),λσ' H' p'=>⟨xs.length - (i+1),by omega,rfl,BH,p'⟩,λx H' y=> ?_⟩;obtain⟨e,y⟩:=y;subst e;exact hs i x σ _ (y xs q) p
 ·have e:i=xs.length:=by omega
  subst e;exact .inl ⟨⟨xs,q,ξ _⟩,hd σ H p⟩
def Jb{lo:Int}{n:Nat}{g:TG}{tb:TS}{D:Ends}{σ:St}{H:Hp}(Pv:Nat->St->Hp->Prop)(h0:Pv 0 σ H)
  (hs:∀ i σ H,i<n->Pv i σ H->g (.int (lo+i)) σ H λσ2 H2=>tb { D with nx:=Pv (i+1),ct:=Pv (i+1),bk:=D.nx } σ2 H2) (hd:∀ σ H,Pv n σ H->D.nx σ H) :
  ∃ W:Nat->Nat->St->Hp->Prop,(∃ m,W 0 m σ H)/\∀ i m σ H,W i m σ H ->
   ((GE lo n).stop i H/\D.nx σ H)\/((GE lo n).go i H/\∃ N:St->Hp->Prop,(∀ σ' H',N σ' H'->∃ m',m'<m/\W (i+1) m' σ' H')/\∀ x H',(GE lo n).yld i H x H'->g x σ H' λσ2 H2=>tb { D with nx:=N,ct:=N,bk:=D.nx } σ2 H2):=by
 refine⟨λi m σ H=>m=n - i/\i<=n/\Pv i σ H,⟨n,by simp,a_ _,h0⟩,?_⟩;rintro i m σ H ⟨rfl,hi,p⟩;by_cases BH:i<n
 ·refine .inr ⟨BH,Pv (i+1),λσ' H' p'=>⟨n - (i+1),by omega,rfl,BH,p'⟩,λx H' y=> ?_⟩;obtain⟨e,y⟩:=y;subst e y;exact hs i σ _ BH p
 ·have e:i=n:=by omega
  subst e;exact .inl ⟨ξ _,hd σ H p⟩
end L2
namespace L2
abbrev R2:=V->V->Hp->VK->Prop
def CI(X:Cx)(f:Value->Value->Sem Value)(r:R2):Prop :=
 ∀ (AB:List (Addr × Obj)) (s:ε) (σ:St) (H:Hp) (x y:V) (v u:Value) (Q:VK),Inv X AB σ H s->RelV x v->RelV y u->r x y H Q ->
  wpAny (model X.prog X.w) X.A (f v u) (EP X AB σ Q) X.xe s
def RX(X:Cx)(f:Value->Sem Value)(r:V->Hp->VK->Prop):Prop :=
 ∀ (AB:List (Addr × Obj)) (s:ε) (σ:St) (H:Hp) (x:V) (v:Value) (Q:VK),Inv X AB σ H s->RelV x v->r x H Q ->
  wpAny (model X.prog X.w) X.A (f v) (EP X AB σ Q) X.xe s
def FX(X:Cx)(f:Value)(r:List V->Hp->VK->Prop):Prop :=
 ∀ (AB:List (Addr × Obj)) (s:ε) (σ:St) (H:Hp) (xs:List V) (us:List Value) (Q:VK),Inv X AB σ H s->Vals xs us->r xs H Q ->
  wpAny (model X.prog X.w) X.A (call f us) (EP X AB σ Q) X.xe s
def Jc(X:Cx)(r:V->Hp->(Bool->Hp->Prop)->Prop):Prop :=
 ∀ (AB:List (Addr × Obj)) (s:ε) (σ:St) (H:Hp) (x:V) (v:Value) (Q:Bool->Hp->Prop),Inv X AB σ H s->RelV x v->r x H Q ->
  wpAny (model X.prog X.w) X.A (truthy v) (TP X AB σ Q) X.xe s
def AG(r:R2)(ta tb:TE):TE:=λσ H Q=>ta σ H λx H1=>tb σ H1 λy H2=>r x y H2 Q
def NN(r:V->Hp->VK->Prop)(ta:TE):TE:=λσ H Q=>ta σ H λx H1=>r x H1 Q
def rI(C:Int->Int->Prop)(g:Int->Int->V):R2:=λx y H Q=>∃ i j,x=.int i/\y=.int j/\C i j/\Q (g i j) H
def KG(g:Int->Int->V):R2:=λx y H Q=>∃ i j,x=.int i/\y=.int j/\Q (g i j) H
def rU(g:Int->V):V->Hp->VK->Prop:=λx H Q=>∃ i,x=.int i/\Q (g i) H
section
variable{X:Cx}{a b c:Expr}{ta tb tc:TE}{pos:Pos}
def VZ(ha:PE X a ta)(hb:PE X b tb){AB:List (Addr × Obj)}{s:ε}{σ:St}{H:Hp}{R:V->V->Hp->Prop}(I:Inv X AB σ H s)
  (h:ta σ H λx H1=>tb σ H1 λy H2=>R x y H2) {Q:Value->ε->Prop} {f:Value->Value->Sem Value}
  (hf:∀ v u s2 x y H2,Inv X AB σ H2 s2->RelV x v->RelV y u->R x y H2->wpAny (model X.prog X.w) X.A (f v u) Q X.xe s2) :
  wpAny (model X.prog X.w) X.A (eval a X.env) (λv s₁=>wpAny (model X.prog X.w) X.A (eval b X.env) (λu s₂=>wpAny (model X.prog X.w) X.A (f v u) Q X.xe s₂) X.xe s₁) X.xe s:=by
 refine A1 (ha AB s σ H _ I h) λv s1 hzz=> ?_;obtain⟨x,H1,I1,r1,q1⟩:=hzz;refine A1 (hb AB s1 σ H1 _ I1 q1) λu s2 hzz=> ?_;obtain⟨y,H2,I2,r2,q2⟩:=hzz;exact hf v u s2 x y H2 I2 r1 r2 q2
def AZ{op:Operator}{r:R2}(ho:CI X (fv op) r)(ha:PE X a ta)(hb:PE X b tb):PE X (.BinOp a op b pos) (AG r ta tb):=by
 intro AB s σ H Q I h;exact wpAny_BinOp (VZ ha hb I h λv u s2 x y H2 I2 rx ry q=>ho AB s2 σ H2 x y v u Q I2 rx ry q)
def RY{op:UnaryOp}{r:V->Hp->VK->Prop}(ho:RX X (unaryOp op) r)(ha:PE X a ta):PE X (.UnaryOp op a pos) (NN r ta):=by
 intro AB s σ H Q I h;exact UnaryOp_ (A1 (ha AB s σ H _ I h) λv s1 ⟨x,H1,I1,r1,q1⟩=>ho AB s1 σ H1 x v Q I1 r1 q1)
def V0{f:Value->Value->Sem Value}{C:Int->Int->Prop}{g:Int->Int->Int}
  (rule:∀ (i j:Int) (t u:Tok) (s:ε) (Q:Value->ε->Prop) (E:Value->ε->Prop),C i j->Q (.int (g i j) s.toks) { s with toks:=s.toks+1 }->wpAny (model X.prog X.w) X.A (f (.int i t) (.int j u)) Q E s) :
  CI X f (rI C λi j=>.int (g i j)):=by
 intro AB s σ H x y v u Q I rx ry h;revert h;apply u2;rintro i j ⟨rfl,rfl,hc,q⟩;obtain⟨t,rfl⟩:=rx;obtain⟨t',rfl⟩:=ry;exact rule i j t t' s _ _ hc (x2 (.int (g i j)) H ⟨I.tok _,⟨_,rfl⟩,q⟩)
def i6{f:Value->Value->Sem Value}{g:Int->Int->Int}
  (rule:∀ (i j:Int) (t u:Tok) (s:ε) (Q:Value->ε->Prop) (E:Value->ε->Prop),Q (.int (g i j) s.toks) { s with toks:=s.toks+1 }->wpAny (model X.prog X.w) X.A (f (.int i t) (.int j u)) Q E s) :
  CI X f (KG λi j=>.int (g i j)):=by
 intro AB s σ H x y v u Q I rx ry h;revert h;apply u2;rintro i j ⟨rfl,rfl,q⟩;obtain⟨t,rfl⟩:=rx;obtain⟨t',rfl⟩:=ry;exact rule i j t t' s _ _ (x2 (.int (g i j)) H ⟨I.tok _,⟨_,rfl⟩,q⟩)
def V1{f:Value->Value->Sem Value}{g:Int->Int->Bool}
  (rule:∀ (i j:Int) (t u:Tok) (s:ε) (Q:Value->ε->Prop) (E:Value->ε->Prop),Q (.bool (g i j)) s->wpAny (model X.prog X.w) X.A (f (.int i t) (.int j u)) Q E s) :
  CI X f (KG λi j=>.bl (g i j)):=by
 intro AB s σ H x y v u Q I rx ry h;revert h;apply u2;rintro i j ⟨rfl,rfl,q⟩;obtain⟨t,rfl⟩:=rx;obtain⟨t',rfl⟩:=ry;exact rule i j t t' s _ _ (x2 (.bl (g i j)) H ⟨I,rfl,q⟩)
def i7(i j:Int):Prop:=0<j/\j<1073741824
def Jd(i j:Int):Prop:=0<=j/\j<=1000000/\i.natAbs<2 ^ 64
def CMul(i j:Int):Prop:=(-(2 ^ 64)<i/\i<2 ^ 64)\/(-(2 ^ 64)<j/\j<2 ^ 64)
def CMul.ok{i j:Int}(h:CMul i j):IntMulOk i j:=by
 rcases h with⟨h1,h2⟩ | ⟨h1,h2⟩
 ·exact .of_left (intBits_le_64 h1 h2)
 ·exact .of_right (intBits_le_64 h1 h2)
def Jg:CI X (fv .Add) (KG λi j=>.int (i+j)):=i6 λ_ _ _ _ _ _ _ q=>add_int q
def Jh:CI X (fv .Sub) (KG λi j=>.int (i - j)):=i6 λ_ _ _ _ _ _ _ q=>sub_int q
def Jj:CI X (fv .Mult) (rI CMul λi j=>.int (i * j)):=V0 λ_ _ _ _ _ _ _ hc q=>mul_int q hc.ok
def Jk:CI X (fv .FloorDiv) (rI i7 λi j=>.int (i / j)):=V0 λi j _ _ _ _ _ hc q=>by
 have h1:(0:Int)<j:=hc.1
 have h2:j<1073741824:=hc.2;exact floordiv_int (by omega) (by rw[Int.fdiv_eq_ediv_of_nonneg i (by omega)];exact q) (.inl (PyProof.noPylong_small (by omega)))
def Jl:CI X (fv .Mod) (rI (λ_ j=>0<j) λi j=>.int (i % j)):=V0 λi j _ _ _ _ _ hc q=>by
 have h1:(0:Int)<j:=hc;exact mod_int' (by omega) (by rw[Int.fmod_eq_emod_of_nonneg i (by omega)];exact q)
def Jm{f:Value->Sem Value}{g:Int->Int}
  (rule:∀ (i:Int) (t:Tok) (s:ε) (Q:Value->ε->Prop) (E:Value->ε->Prop),Q (.int (g i) s.toks) { s with toks:=s.toks+1 }->wpAny (model X.prog X.w) X.A (f (.int i t)) Q E s) :
  RX X f (rU λi=>.int (g i)):=by
 intro AB s σ H x v Q I rx h;obtain⟨i,rfl,q⟩:=h;obtain⟨t,rfl⟩:=rx;exact rule i t s _ _ (x2 (.int (g i)) H ⟨I.tok _,⟨_,rfl⟩,q⟩)
def Jp:RX X (unaryOp .USub) (rU λi=>.int (-i)):=Jm λ_ _ _ _ _ q=>neg_int q
end
def FO:V->V->Bool
 | .non,.non=>true | .non,.int _=>true | .int _,.non=>true | .non,.bl _=>true | .bl _,.non=>true | .non,.str _=>true | .str _,.non=>true
 | .int _,.int _=>true | .bl _,.bl _=>true | .str _,.str _=>true | .byt _,.byt _=>true
 | .int _,.str _=>true | .str _,.int _=>true | .bl _,.str _=>true | .str _,.bl _=>true
 | _,_=>false
def Jq:R2:=λx y H Q=>FO x y=true/\Q (.bl (decide (x=y))) H
def Jv:R2:=λx y H Q=>FO x y=true/\Q (.bl (!decide (x=y))) H
def i8{i j:Int}:decide (V.int i=V.int j)=(i == j):=by
 rw[je];simp
def i9{i j:Bool}:decide (V.bl i=V.bl j)=(i == j):=by
 rw[je];simp
def jA{i j:Str}:decide (V.str i=V.str j)=(i == j):=by
 rw[je];simp
def jB{i j:Array UInt8}:decide (V.byt i=V.byt j)=(i.toList == j.toList):=by
 rw[je];cases i;cases j;simp
section
variable{X:Cx}{a b c:Expr}{ta tb tc:TE}{pos:Pos}
def DK{AB:List (Addr × Obj)}{σ:St}{H:Hp}{s:ε}{Q:VK}{k k':Bool}(I:Inv X AB σ H s)(q:Q (.bl k) H)(e:k=k'):EP X AB σ Q (.bool k') s:=by
 subst e;exact x2 (.bl k) H ⟨I,rfl,q⟩
def Jw:CI X (cw .Eq) Jq:=by
 intro AB s σ H x y v u Q I rx ry h;obtain⟨hs,q⟩:=h;cases x with
 | non =>
  cases rx;cases y with
  | non=>cases ry;exact PySem.EqNone.eq_none_none (DK I q (by simp))
  | bl j=>cases ry;exact PySem.EqNone.eq_none_bool (DK I q (by simp))
  | int j=>obtain⟨t',rfl⟩:=ry;exact PySem.EqNone.eq_none_int (DK I q (by simp))
  | str j=>obtain⟨t',rfl⟩:=ry;exact PySem.EqNone.eq_none_str (DK I q (by simp))
  | _=>exact absurd (show false=true from hs) ψ
 | bl i =>
  cases rx;cases y with
  | non=>cases ry;exact PySem.EqNone.eq_bool_none (DK I q (by simp))
  | bl j=>cases ry;exact eq_bool (DK I q i9)
  | str j=>obtain⟨t',rfl⟩:=ry;exact PySem.EqMixed.eq_bool_str (DK I q (by simp))
  | _=>exact absurd (show false=true from hs) ψ
 | int i =>
  obtain⟨t,rfl⟩:=rx;cases y with
  | non=>cases ry;exact PySem.EqNone.eq_int_none (DK I q (by simp))
  | int j=>obtain⟨t',rfl⟩:=ry;exact eq_int (DK I q i8)
  | str j=>obtain⟨t',rfl⟩:=ry;exact PySem.EqMixed.eq_int_str (DK I q (by simp))
  | _=>exact absurd (show false=true from hs) ψ
 | str i =>
  obtain⟨t,rfl⟩:=rx;cases y with
  | non=>cases ry;exact PySem.EqNone.eq_str_none (DK I q (by simp))
  | bl j=>cases ry;exact PySem.EqMixed.eq_str_bool (DK I q (by simp))
  | int j=>obtain⟨t',rfl⟩:=ry;exact PySem.EqMixed.eq_str_int (DK I q (by simp))
  | str j=>obtain⟨t',rfl⟩:=ry;exact eq_str (DK I q jA)
  | _=>exact absurd (show false=true from hs) ψ
 | byt i =>
  obtain⟨t,rfl⟩:=rx;cases y with
  | byt j=>obtain⟨t',rfl⟩:=ry;exact W.eq_bytes (DK I q jB)
  | _=>exact absurd (show false=true from hs) ψ
 | _=>cases y<;>exact absurd (show false=true from hs) ψ
def Jx:CI X (cw .NotEq) Jv:=by
 intro AB s σ H x y v u Q I rx ry h;obtain⟨hs,q⟩:=h;cases x with
 | non =>
  cases rx;cases y with
  | non=>cases ry;exact PySem.EqNone.ne_none_none (DK I q (by simp))
  | bl j=>cases ry;exact PySem.EqNone.ne_none_bool (DK I q (by simp))
  | int j=>obtain⟨t',rfl⟩:=ry;exact PySem.EqNone.ne_none_int (DK I q (by simp))
  | str j=>obtain⟨t',rfl⟩:=ry;exact PySem.EqNone.ne_none_str (DK I q (by simp))
  | _=>exact absurd (show false=true from hs) ψ
 | bl i =>
  cases rx;cases y with
  | non=>cases ry;exact PySem.EqNone.ne_bool_none (DK I q (by simp))
  | bl j=>cases ry;exact ne_bool (DK I q (congrArg not i9))
  | str j=>obtain⟨t',rfl⟩:=ry;exact PySem.EqMixed.ne_bool_str (DK I q (by simp))
  | _=>exact absurd (show false=true from hs) ψ
 | int i =>
  obtain⟨t,rfl⟩:=rx;cases y with
  | non=>cases ry;exact PySem.EqNone.ne_int_none (DK I q (by simp))
  | int j=>obtain⟨t',rfl⟩:=ry;exact ne_int (DK I q (congrArg not i8))
  | str j=>obtain⟨t',rfl⟩:=ry;exact PySem.EqMixed.ne_int_str (DK I q (by simp))
  | _=>exact absurd (show false=true from hs) ψ
 | str i =>
  obtain⟨t,rfl⟩:=rx;cases y with
  | non=>cases ry;exact PySem.EqNone.ne_str_none (DK I q (by simp))
  | bl j=>cases ry;exact PySem.EqMixed.ne_str_bool (DK I q (by simp))
  | int j=>obtain⟨t',rfl⟩:=ry;exact PySem.EqMixed.ne_str_int (DK I q (by simp))
  | str j=>obtain⟨t',rfl⟩:=ry;exact ne_str (DK I q (congrArg not jA))
  | _=>exact absurd (show false=true from hs) ψ
 | byt i =>
  obtain⟨t,rfl⟩:=rx;cases y with
  | byt j=>obtain⟨t',rfl⟩:=ry;exact W.ne_bytes (DK I q (congrArg not jB))
  | _=>exact absurd (show false=true from hs) ψ
 | _=>cases y<;>exact absurd (show false=true from hs) ψ
def Jy:CI X (cw .Lt) (KG λi j=>.bl (decide (i<j))):=V1 λ_ _ _ _ _ _ _ q=>lt_int q
def Jz:CI X (cw .LtE) (KG λi j=>.bl (decide (i<=j))):=V1 λ_ _ _ _ _ _ _ q=>le_int q
def Kb:CI X (cw .Gt) (KG λi j=>.bl (decide (j<i))):=V1 λ_ _ _ _ _ _ _ q=>gt_int q
def Kc:CI X (cw .Is) (λx y H Q=>y=.non/\Q (.bl (decide (x=.non))) H):=by
 intro AB s σ H x y v u Q I rx ry h;obtain⟨rfl,q⟩:=h;cases ry;refine is_none_gen (DK I q ?_);cases x<;>first
  | (cases rx;rfl)
  | (obtain⟨t,rfl⟩:=rx;rfl)
def Kd:CI X (cw .IsNot) (λx y H Q=>y=.non/\Q (.bl (!decide (x=.non))) H):=by
 intro AB s σ H x y v u Q I rx ry h;obtain⟨rfl,q⟩:=h;cases ry;refine isnot_none_gen (DK I q ?_);cases x<;>first
  | (cases rx;rfl)
  | (obtain⟨t,rfl⟩:=rx;rfl)
def CP(b:Expr){op:CmpOp}(h:op≠.In:=by decide)(h2:op≠.NotIn:=by decide):ky op b=false:=by
 have e1:(op == CmpOp.In)=false:=by cases op<;>first | rfl | exact absurd rfl h
 have e2:(op == Ka)=false:=by cases op<;>first | rfl | exact absurd rfl h2
 cases b<;>simp[ky,e1,e2]
def jC{op:CmpOp}{r:R2}(ho:CI X (cw op) r)(ha:PE X a ta)(hb:PE X b tb)(hm:ky op b=false):PE X (.Compare a [op] [b] pos) (AG r ta tb):=by
 intro AB s σ H Q I h;exact wpAny_Compare1 (VZ ha hb I h λv u s2 x y H2 I2 rx ry q=>ho AB s2 σ H2 x y v u Q I2 rx ry q) hm
def NO(t:TE):TT:=λσ H Q=>t σ H λx H'=>∃ k,x=.bl k/\Q k H'
def CQ{op:CmpOp}{r:R2}(ho:CI X (cw op) r)(ha:PE X a ta)(hb:PE X b tb)(hm:ky op b=false):PT X (.Compare a [op] [b] pos) (NO (AG r ta tb)):=by
 intro AB s σ H Q I h;refine xp (A1 (ha AB s σ H _ I h) λv s1 ⟨x,H1,I1,r1,q1⟩=>A1 (hb AB s1 σ H1 _ I1 q1) λu s2 ⟨y,H2,I2,r2,q2⟩ =>
  A1 (ho AB s2 σ H2 x y v u _ I2 r1 r2 q2) λc s3 ⟨z,H3,I3,r3,k,e,q3⟩=> ?_) hm
 subst e;cases r3;exact g_ ⟨H3,I3,q3⟩
def NP(r r':R2)(ta tb tc:TE):TE:=λσ H Q=>ta σ H λx H1=>tb σ H1 λy H2=>r x y H2 λz H3=>∃ k,z=.bl k /\
 (if k=true then tc σ H3 λw' H4=>r' y w' H4 Q else Q (.bl false) H3)
def RZ{op op':CmpOp}{r r':R2}(ho:CI X (cw op) r)(ho':CI X (cw op') r')(ha:PE X a ta)(hb:PE X b tb)(hc:PE X c tc)
  (hm:lastMarks [op,op'] [b,c]=false:=by with_unfolding_all rfl):PE X (.Compare a [op,op'] [b,c] pos) (NP r r' ta tb tc):=by
 intro AB s σ H Q I h;refine Compare_chain (A1 (ha AB s σ H _ I h) λv s1 ⟨x,H1,I1,r1,q1⟩=>chain_link (A1 (hb AB s1 σ H1 _ I1 q1) λu s2 ⟨y,H2,I2,r2,q2⟩ =>
  A1 (ho AB s2 σ H2 x y v u _ I2 r1 r2 q2) λd s3 ⟨z,H3,I3,r3,k,e,q3⟩=> ?_)) hm
 subst e;cases r3;refine g_ ?_;cases k with
 | false=>exact ite_ff (x2 (.bl false) H3 ⟨I3,rfl,q3⟩)
 | true=>exact ite_tt (chain_last (A1 (hc AB s3 σ H3 _ I3 q3) λw' s4 ⟨z',H4,I4,r4,q4⟩=>ho' AB s4 σ H4 y z' u w' Q I4 r2 r4 q4))
def O3{op op':CmpOp}{r r':R2}(ho:CI X (cw op) r)(ho':CI X (cw op') r')(ha:PE X a ta)(hb:PE X b tb)(hc:PE X c tc)
  (hm:lastMarks [op,op'] [b,c]=false:=by with_unfolding_all rfl):PT X (.Compare a [op,op'] [b,c] pos) (NO (NP r r' ta tb tc)):=by
 intro AB s σ H Q I h;refine isTrue_chain (A1 (ha AB s σ H _ I h) λv s1 ⟨x,H1,I1,r1,q1⟩=>test_link (A1 (hb AB s1 σ H1 _ I1 q1) λu s2 ⟨y,H2,I2,r2,q2⟩ =>
  A1 (ho AB s2 σ H2 x y v u _ I2 r1 r2 q2) λd s3 ⟨z,H3,I3,r3,k,e,q3⟩=> ?_)) hm
 subst e;cases r3;refine g_ ?_;cases k with
 | false =>
  obtain⟨k',e',q'⟩:=q3;cases e';exact ite_ff ⟨H3,I3,q'⟩
 | true =>
  refine ite_tt (test_last (A1 (hc AB s3 σ H3 _ I3 q3) λw' s4 ⟨z',H4,I4,r4,q4⟩=>A1 (ho' AB s4 σ H4 y z' u w' _ I4 r2 r4 q4) λd' s5 hzz=> ?_));obtain⟨z2,H5,I5,r5,k2,e2,q5⟩:=hzz;subst e2;cases r5;exact g_ ⟨H5,I5,q5⟩
def LG(K:η)(x:V)(H:Hp)(k:Bool):Prop :=
 match x with
 | .non=>k=false
 | .bl b=>k=b
 | .int i=>k=(i != 0)
 | .str y=>y.length<=sizeLine/\k=((y.length:Int) != 0)
 | .byt y=>y.size<=sizeLine/\k=((y.size:Int) != 0)
 | .ref p=>(∃ xs,SqL K H p xs/\k= !xs.isEmpty)\/(∃ xs,SqT K H p xs/\k= !xs.isEmpty)\/∃ AE,H p=some (.dK AE)/\k= !AE.isEmpty
 | _=>False
def Kg{κ :Type}{AE:List (κ × V)}{vs:List (κ × Value)}(r:KV AE vs):(!vs.isEmpty)= !AE.isEmpty:=by
 cases r<;>rfl
def jD{xs:List V}{its:List Value}(r:Vals xs its):(!its.toArray.isEmpty)= !xs.isEmpty:=by
 cases r<;>simp
def NQ:(sizeLine:Nat)<2 ^ 63:=by rw[ka];decide
def Kh:Jc X (λx H Q=>∃ k,LG X.K x H k/\Q k H):=by
 intro AB s σ H x v Q I rx h;obtain⟨k,e,q⟩:=h
 have hl:=NQ
 have hs:sizeLine=16777216:=ka;cases x with
 | non =>
  cases rx
  have e':k=false:=e;subst e';exact truthy_none ⟨H,I,q⟩
 | bl b =>
  cases rx
  have e':k=b:=e;subst e';exact g_ ⟨H,I,q⟩
 | int i =>
  obtain⟨t,rfl⟩:=rx
  have e':k=(i != 0):=e;subst e';exact PySem.P.truthy_int ⟨H,I,q⟩
 | str y =>
  obtain⟨t,rfl⟩:=rx;obtain⟨hy,e'⟩:y.length<=sizeLine/\k=((y.length:Int) != 0):=e;subst e';exact PySem.P.truthy_str (by omega) ⟨H,I.tok _,q⟩
 | byt y =>
  obtain⟨t,rfl⟩:=rx;obtain⟨hy,e'⟩:y.size<=sizeLine/\k=((y.size:Int) != 0):=e;subst e';exact W.truthy_bytes (oA hy rfl) ⟨H,I.tok _,q⟩
 | ref p =>
  cases rx
  have e':(∃ xs,SqL X.K H p xs/\k= !xs.isEmpty)\/(∃ xs,SqT X.K H p xs/\k= !xs.isEmpty)\/∃ AE,H p=some (.dK AE)/\k= !AE.isEmpty:=e;rcases e' with⟨xs,hx,e'⟩ | ⟨xs,hx,e'⟩ | ⟨AE,hx,e'⟩
  ·subst e';obtain⟨its,r,pl,hz⟩:=I.list hx
   have B8:=r.length;exact wpAny_truthy_list pl.isList (by simp only[aa];omega) ⟨H,I.tok _,by rw[jD r];exact q⟩
  ·subst e';obtain⟨its,r,pl,hz⟩:=I.tuple hx
   have B8:=r.length;exact truthy_tuple pl (by simp only[aa];omega) ⟨H,I.tok _,by rw[jD r];exact q⟩
  ·subst e';obtain⟨hz,hS,vs,r,m⟩:AE.length<=sizeLine/\(p == iq)=false/\∃ vs,KV AE vs/\s.heap.DictOf (GB X.prog X.w) p vs:=I.hok p _ hx
   have B8:AE.length=vs.length:=Paired.length r;exact wpAny_truthy_dict hS m (by omega) ⟨H,I.tok _,by rw[Kg r];exact q⟩
 | _=>exact(show False from e).elim
def HN(ha:PE X a ta)(he:∀ whole,Iz a X.env whole=(do let v ← whole;wx a.pos;oy [v] (truthy v))) :
  PT X a (λσ H Q=>ta σ H λx H'=>∃ k,LG X.K x H' k/\Q k H'):=by
 intro AB s σ H Q I h;exact isTrue_plain (A1 (ha AB s σ H _ I h) λv s1 ⟨x,H1,I1,r1,q1⟩=>Kh AB s1 σ H1 x v Q I1 r1 q1) (he _)
def Kj:CI X (fv .Add) (λx y H Q=>∃ i j,x=.str i/\y=.str j/\i.length+j.length<=sizeLine/\Q (.str (i++j)) H):=by
 intro AB s σ H x y v u Q I rx ry h;revert h;apply u2;rintro i j ⟨rfl,rfl,hz,q⟩;obtain⟨t,rfl⟩:=rx;obtain⟨t',rfl⟩:=ry;exact add_str (λt' tk=>x2 (.str (i++j)) H ⟨I.tok _,⟨_,rfl⟩,q⟩) hz
def KH{x:V}{us:List Value}(r:Vals [x] us):∃ u,us=[u]/\RelV x u:=by
 cases r with
 | cons r1 r2=>cases r2;exact⟨_,rfl,r1⟩
def Kk:FX X (.builtin "ord") (λxs H Q=>∃ x,xs=[.str x]/\x.length=1/\Q (.int (x.cps.getD 0 0:Nat)) H):=by
 intro AB s σ H xs us Q I r h;obtain⟨x,rfl,hz,q⟩:=h;obtain⟨u,rfl,t,rfl⟩:=KH r;exact ord_of_one hz (x2 (.int _) H ⟨I.tok _,⟨_,rfl⟩,q⟩)
def R0(K:η)(x:V)(H:Hp)(n:Nat):Prop :=
 match x with
 | .str y=>y.length<=sizeLine/\n=y.length
 | .byt y=>y.size<=sizeLine/\n=y.size
 | .ref p=>(∃ xs,SqL K H p xs/\n=xs.length)\/∃ xs,SqT K H p xs/\n=xs.length
 | _=>False
def Kl:FX X (.builtin "len") (λxs H Q=>∃ x n,xs=[x]/\R0 X.K x H n/\Q (.int n) H):=by
 intro AB s σ H xs us Q I r h;revert h;apply u2;rintro x n ⟨rfl,e,q⟩;obtain⟨u,rfl,rx⟩:=KH r
 have hl:=NQ
 have hs:sizeLine=16777216:=ka;cases x with
 | str y =>
  obtain⟨t,rfl⟩:=rx;obtain⟨hy,e'⟩:y.length<=sizeLine/\n=y.length:=e;subst e';exact len_str (by omega) (x2 (.int _) H ⟨I.tok _,⟨_,rfl⟩,q⟩)
 | byt y =>
  obtain⟨t,rfl⟩:=rx;obtain⟨hy,e'⟩:y.size<=sizeLine/\n=y.size:=e;subst e';exact W.len_bytes (oA hy rfl) (x2 (.int _) H ⟨I.tok _,⟨_,rfl⟩,q⟩)
 | ref p =>
  cases rx
  have e':(∃ xs,SqL X.K H p xs/\n=xs.length)\/∃ xs,SqT X.K H p xs/\n=xs.length:=e;rcases e' with⟨xs,hx,e'⟩ | ⟨xs,hx,e'⟩
  ·subst e';obtain⟨its,r',pl,hz⟩:=I.list hx
   have B8:=r'.length;exact Calls.call_len_list pl.isList (by simp only[aa];omega) (x2 (.int xs.length) H ⟨I.tok _,⟨_,by simp only[aa];rw[B8]⟩,q⟩)
  ·subst e';obtain⟨its,r',pl,hz⟩:=I.tuple hx
   have B8:=r'.length;exact len_tuple pl (by simp only[aa];omega) (x2 (.int xs.length) H ⟨I.tok _,⟨_,by simp only[aa];rw[B8]⟩,q⟩)
 | _=>exact(show False from e).elim
end
end L2
namespace L2
structure ObjM(h:Heap)(x dx C:Addr)(mA:Str->Option Value):Prop where
 obj:h.get? x=some (rh C dx)
 ns:h.Ns1 dx mA
 ne:dx≠x
def Km{h:Heap}{dx:Addr}{mA:Str->Option Value}(n:h.Ns1 dx mA):∃ od,h.get? dx=some od/\∀ name,Go name od=some (mA name):=by
 revert n;apply u3;rintro o es ep ⟨ho,hd,hk,_,hm⟩;refine⟨o,ho,λname=> ?_⟩
 have e:=hm name;unfold nsFind findBy at e;rw[<-Array.find?_toList]at e;unfold Go;rw[hd];dsimp only;split
 ·rename_i y q;rw[q]at e;exact congrArg some e
 ·rename_i q;rw[q]at e
  have a:es.toList.any (·.refKey)=false:=by
   rw[zv];intro y hy;refine u2 ?_ (hk y (Array.mem_toList_iff.mp hy));rintro z t hkey;simp[DictEntry.refKey,hkey]
  have a':¬ es.toList.any (·.refKey)=true:=by rw[a];exact ψ
  rw[if_neg a'];exact congrArg some e
def ObjM.look{h:Heap}{x dx C:Addr}{mA:Str->Option Value}(I:ObjM h x dx C mA):∃ od,Gr h x (rh C dx) C (some od)/\∀ name,Go name od=some (mA name) :=
 let ⟨od,ho,hl⟩:=Km I.ns
 ⟨od,⟨I.obj,rfl,rfl,ho⟩,hl⟩
section
variable{prog:au}{w:World}{A:bg}{E:Value->ε->Prop}{s:ε}{K:η}{x dx C f:Addr}{mA:Str->Option Value}{name:Str}{v:Value}
def Kp{expr:Bool}{Q:Value->ε->Prop}(X:K.In s.heap)(I:ObjM s.heap x dx C mA)(hg:wy K C name=true)(hh:xu K C=true)
  (ha:b_ K (.ref C) name=some none) (hv:mA name=some v) (hv':W.handedIn v=true) (h:Q v { s with toks:=s.toks+1 }) :
  wpAny (model prog w) A (getAttr (.ref x) name expr) Q E s:=by
 obtain⟨od,J,hl⟩:=I.look;exact W.get_value X J (yw hg).1 (W.findObj_own hh ha rfl (by rw[hl,hv])) hv' h
def Kq{pl:Sem Bool}{Q:Value × List Value->ε->Prop}(X:K.In s.heap)(I:ObjM s.heap x dx C mA)(hg:wy K C name=true)
  (hf:b_ K (.ref C) name=some (some (.ref f))) (ht:Gs K (.ref f)=true) (hv:mA name=none) (h:Q (.ref f,[.ref x]) s) :
  wpAny (model prog w) A (rk (.ref x) name pl) Q E s:=by
 obtain⟨od,J,hl⟩:=I.look;exact W.method_fn X J (yw hg).1 (yw hg).2 hf (beq_iff_eq.mp ht) (by show(Go name od).map (·.isSome)=some false;rw[hl,hv];rfl) h
def Kv{ns:List Str}{Q:Unit->ε->Prop}(X:K.In s.heap)(I:ObjM s.heap x dx C mA)
  (hs:b_ K (.ref C) "__setattr__"=some (some (.builtin "object.__setattr__"))) (hp:Fa K C=true) (ht:Im K C name=some none) (hh:xu K C=true)
  (hw:PySem.Within mA ns) (hsz:ns.length<=sizeLine)
  (h:∀ h',ObjM h' x dx C (λy=>if y=name then some v else mA y)->jh dx s.heap h'->Q () { s with heap:=h',toks:=s.toks+2 }) :
  wpAny (model prog w) A (setAttr (.ref x) name v) Q E s:=by
 obtain⟨od,J,hl⟩:=I.look;refine W.set_plain X J hs (W.osa_open (s:={ s with toks:=s.toks+1 }) (r:=none) X J hp ht λb=> ?_);obtain⟨cd,hc,hd'⟩:=W.any_some hh
 have hx:s.heap.get? x=some ⟨.ref C,some dx,.plain,#[]⟩:=I.obj;refine δ (μ (δ (δ (wpAny_loadPart hx (δ (W.Looks.here (s:={ s with toks:=s.toks+1 }) (W.looks_clsIn X hc) ?_))))));rw[hd'];refine μ (a:=some dx) (δ (μ (δ ?_)));refine wpAny_nsSet1 (s:={ s with toks:=s.toks+1 }) I.ns λh' hn2 hs2=> ?_;refine u3 ?_ (hn2.count (PySem.Within.cons name v hw));rintro oD esD epD ⟨hoD,hdD,hcD⟩;refine δ (wpAny_lookBehind hoD (by rw[hdD];exact pastItsLine_dict (υ hcD (by rw[cf];exact oz hsz))) ?_);exact μ (h _ ⟨(hs2.2 _ (di I.ne)).trans I.obj,hn2,I.ne⟩ hs2)
def Kw{R:Gu->ε->Prop}{vs:List Value}{kw:List (Str × Value)}(X:K.In s.heap)(hm:De K C=true)
  (hi:b_ K (.ref C) "__init__"=some (some (.ref f))) (hf:W.typeIn K (.ref f)=some (.type "function"))
  (h:sr (model prog w) (A.under (.builtin "type.__call__" ⟨.ref C::vs,kw⟩)) (.call (.ref f) ⟨.ref (s.heap.objs.size+1)::vs,kw⟩) (W.InitBack (s.heap.objs.size+1) R)
   { s with heap:=(s.heap.push kd).push (rh C s.heap.objs.size) }) :
  sr (model prog w) A (.call (.ref C) ⟨vs,kw⟩) R s:=by
 obtain⟨hh,g,d,t,os⟩:=s;exact W.make_core (W.makes_of X hm) (xv X hi) (λself=>W.bind_fn X self hf) (.inl rfl) h
end
def BI(f:Str)(v:V):List (Str × V)->List (Str × V)
 | []=>[(f,v)]
 | (g,x)::r=>if g=f then(g,v)::r else(g,x)::BI f v r
def jE(f g:Str)(v:V):∀ fs:List (Str × V),(BI f v fs).lookup g=if g=f then some v else fs.lookup g
 | []=>by
  show dw g [(f,v)]=_;by_cases h:g=f
  ·have hb:(g == f)=true:=beq_iff_eq.mpr h;simp only[dw,hb,if_pos h]
  ·have hb:(g == f)=false:=beq_eq_false_iff_ne.mpr h;simp only[dw,hb,if_neg h]
 | (k,x)::r=>by
  have ih:=jE f g v r;rw[show BI f v ((k,x)::r)=(if k=f then(k,v)::r else(k,x)::BI f v r)from rfl];by_cases hk:k=f
  ·rw[if_pos hk];by_cases h:g=k
   ·have hb:(g == k)=true:=beq_iff_eq.mpr h;simp only[dw,hb,if_pos (h.trans hk)]
   ·have hb:(g == k)=false:=beq_eq_false_iff_ne.mpr h;simp only[dw,hb,if_neg (λe:g=f=>h (e.trans hk.symm))]
  ·rw[if_neg hk];by_cases h:g=k
   ·have hb:(g == k)=true:=beq_iff_eq.mpr h;simp only[dw,hb,if_neg (λe:g=f=>hk (h.symm.trans e))]
   ·have hb:(g == k)=false:=beq_eq_false_iff_ne.mpr h;simp only[dw,hb];exact ih
def V2(f:Str)(v:V):∀ fs:List (Str × V),f∈(BI f v fs).map (·.1)/\∀ g,g∈fs.map (·.1)->g∈(BI f v fs).map (·.1)
 | []=>⟨by simp[BI],λg h=>by simp at h⟩
 | (k,x)::r=>by
  obtain⟨i1,i2⟩:=V2 f v r;rw[show BI f v ((k,x)::r)=(if k=f then(k,v)::r else(k,x)::BI f v r)from rfl];by_cases hk:k=f
  ·rw[if_pos hk];subst hk;exact⟨by simp,λg h=>by simpa using h⟩
  ·rw[if_neg hk];refine⟨?_,λg h=> ?_⟩
   ·rw[cu];exact χ _ i1
   ·rw[cu]at h ⊢;rcases ak.mp h with e | e
    ·exact ak.mpr (.inl e)
    ·exact χ _ (i2 g e)
def O4(f:Str)(v:V):∀ fs:List (Str × V),(BI f v fs).length<=fs.length+1
 | []=>by simp[BI]
 | (k,x)::r=>by
  have ih:=O4 f v r;rw[show BI f v ((k,x)::r)=(if k=f then(k,v)::r else(k,x)::BI f v r)from rfl];by_cases hk:k=f
  ·rw[if_pos hk,cf,cf];exact dq _
  ·rw[if_neg hk,cf,cf];exact oz ih
def RelO.some_of{v:V}{o:Option Value}(r:RelO (some v) o):∃ u,o=some u/\RelV v u:=by
 cases o with
 | none=>exact(show False from r).elim
 | some u=>exact⟨u,rfl,r⟩
def RelO.none_of{o:Option Value}(r:RelO none o):o=none:=by
 cases o with
 | none=>rfl
 | some u=>exact(show False from r).elim
def Kx{v:V}{u:Value}(r:RelV v u):W.handedIn u=true:=by
 cases v with
 | non=>cases (show u=de from r);rfl
 | bl b=>cases (show u=um b from r);rfl
 | int i=>obtain⟨t,e⟩:=(show ∃ t,u=gg i t from r);cases e;rfl
 | str x=>obtain⟨t,e⟩:=(show ∃ t,u=we x t from r);cases e;rfl
 | byt b=>obtain⟨t,e⟩:=(show ∃ t,u=J_ b t from r);cases e;rfl
 | flt b=>obtain⟨t,e⟩:=(show ∃ t,u=Eu b t from r);cases e;rfl
 | ref a=>cases (show u=ba a from r);rfl
 | ty n=>cases (show u=jp n from r);rfl
section
variable{P:au}{w:World}{H H':Hp}{h h':Heap}{a C dx:Addr}{fs fs':List (Str × V)}
def R1(hok:HOk P w H h)(e:H a=some (.ins C dx fs)):∃ mA,ObjM h a dx C mA/\(∀ f,RelO (fs.lookup f) (mA f))/\PySem.Within mA (fs.map (·.1))/\fs.length<=1000/\H dx=some (.own a):=by
 obtain⟨d,z,ne,ob,mA,n,r,q⟩:=(show ObjOk P w H h a (.ins C dx fs)from hok a _ e)
 exact⟨mA,⟨ob,n,ne⟩,r,q,z,d⟩
end
structure Cls(K:η)(C:Addr):Prop where
 pg:wy K C Io=true
 hd:xu K C=true
 po:Fa K C=true
 sa:b_ K (.ref C) "__setattr__"=some (some (.builtin "object.__setattr__"))
def Cls.get{K:η}{C:Addr}(c:Cls K C)(f:Str):wy K C f=true:=c.pg
def NoAttr(K:η)(C:Addr)(f:Str):Prop:=b_ K (.ref C) f=some none
def NoAttr.taker{K:η}{C:Addr}{f:Str}(n:NoAttr K C f):Im K C f=some none:=by
 unfold Im;rw[show b_ K (.ref C) f=some none from n]
 rfl
structure Con(K:η)(C:Addr)(f:Str)(v:V)(u:Value):Prop where
 at_:b_ K (.ref C) f=some (some u)
 rel:RelV v u
 get:xw K u "__get__"=some none
 cp:W.copiedNames.contains f=false
structure R3(K:η)(C:Addr)(m:Str)(f:Addr):Prop where
 at_:b_ K (.ref C) m=some (some (.ref f))
 fn:Gs K (.ref f)=true
 kp:mq K (.ref f)=true
section
variable{X:Cx}{AB:List (Addr × Obj)}{σ:St}{H:Hp}{s:ε}{a C dx:Addr}{fs:List (Str × V)}{f:Str}{v:V}{A:bg}{E:Value->ε->Prop}
def jF{b:Bool}{Q:Value->ε->Prop}(I:Inv X AB σ H s)(e:H a=some (.ins C dx fs))(c:Cls X.K C)(n:NoAttr X.K C f)(l:fs.lookup f=some v)
  (h:∀ u s',Inv X AB σ H s'->RelV v u->Q u s'):wpAny (model X.prog X.w) A (getAttr (.ref a) f b) Q E s:=by
 obtain⟨mA,O,r,_,_,_⟩:=R1 I.hok e;obtain⟨u,hu,ru⟩:=RelO.some_of (v:=v) (o:=mA f) (by rw[<-l];exact r f);exact Kp I.kIn O (c.get f) c.hd n hu (Kx ru) (h u _ (I.tok _) ru)
def jG{m:Str}{g:Addr}{pl:Sem Bool}{Q:Value × List Value->ε->Prop}(I:Inv X AB σ H s)(e:H a=some (.ins C dx fs))(c:Cls X.K C)(k:R3 X.K C m g)(l:fs.lookup m=none)
  (h:Q (.ref g,[.ref a]) s):wpAny (model X.prog X.w) A (rk (.ref a) m pl) Q E s:=by
 obtain⟨mA,O,r,_,_,_⟩:=R1 I.hok e
 have hn:mA m=none:=RelO.none_of (by rw[<-l];exact r m);exact Kq I.kIn O (c.get m) k.at_ k.fn hn h
def jH{y:V}{u:Value}{Q:Unit->ε->Prop}(I:Inv X AB σ H s)(e:H a=some (.ins C dx fs))(c:Cls X.K C)(n:NoAttr X.K C f)(hl:fs.length<1000)(ry:RelV y u)
  (h:∀ s',Inv X AB σ (upd H a (.ins C dx (BI f y fs))) s'->Q () s'):wpAny (model X.prog X.w) A (setAttr (.ref a) f u) Q E s:=by
 obtain⟨mA,O,r,wi,_,ho⟩:=R1 I.hok e
 have hz:(fs.map (·.1)).length<=sizeLine:=by rw[ν,ka];exact oB hl rfl
 refine Kv I.kIn O c.sa c.po n.taker c.hd wi hz λh' O' sb=>h _ ?_
 have hd:∃ o,h'.get? dx=some o:=let ⟨o,_,_,e',_⟩:=O'.ns;⟨o,e'⟩
 refine I.write (x:=a) (e:=dx) (by rw[e];exact uu) (.inr ho) (λb q hb z=>(sb.2 b hb).trans z) hd ?_;refine⟨by rw[AO O.ne];exact ho,?_,O.ne,O'.obj,_,O'.ns,λg=> ?_,λg hg=> ?_⟩
 ·have:=O4 f y fs;exact υ this hl
 ·show RelO ((BI f y fs).lookup g) (if g=f then some u else mA g);rw[jE];by_cases q:g=f
  ·rw[if_pos q,if_pos q];exact ry
  ·rw[if_neg q,if_neg q];exact r g
 ·by_cases q:g=f
  ·rw[q];exact(V2 f y fs).1
  ·refine(V2 f y fs).2 g (wi g λz=>hg ?_)
   show(if g=f then some u else mA g)=none;rw[if_neg q];exact z
def Inv.made(I:Inv X AB σ H s):Inv X AB σ (upd (upd H s.heap.objs.size (.own (s.heap.objs.size+1))) (s.heap.objs.size+1) (.ins C s.heap.objs.size []))
  { s with heap:=(s.heap.push kd).push (rh C s.heap.objs.size) }:=by
 have e1:(s.heap.push kd).get? s.heap.objs.size=some kd:=ae s.heap rfl
 have e2:((s.heap.push kd).push (rh C s.heap.objs.size)).get? (s.heap.objs.size+1)=some (rh C s.heap.objs.size):=by
  have:=ae (s.heap.push kd) (o:=rh C s.heap.objs.size) rfl
  rwa [xx]at this
 have e3:(s.heap.push kd).Ns s.heap.objs.size (λ_=>none):=x3 kd (#[]) _ ⟨e1,rfl,(λe he=>absurd he (by simp)),λ_=>rfl⟩
 have I1:=I.laid (a:=s.heap.objs.size) (o:=.own (s.heap.objs.size+1)) (h':=s.heap.push kd) (t':=s.toks) (λb u q=>θ _ q) (ξ _) ⟨_,e1⟩;refine I1.laid (a:=s.heap.objs.size+1) (o:=.ins C s.heap.objs.size []) (t':=s.toks) (λb u q=>θ _ q) (bn (xx _ _)) ?_
 have ne:s.heap.objs.size≠s.heap.objs.size+1:=aw (ff _);refine⟨by rw[AO ne,AF],a_ _,ne,e2,λ_=>none,(Heap.Ns1.of_empty e3).at λo q=>θ _ q,λ_=>uu,λy hy=>absurd rfl hy⟩
def Ky{prog:au}{w:World}{env:Env}{e:Expr}{f:Str}{pos:Pos}{s:ε}{Q:Value->ε->Prop}(hb:mv e f env (eval e env)=eval e env)
  (h:wpAny (model prog w) A (eval e env) (λo s₁=>wpAny (model prog w) A (getAttr o f true) Q E s₁) E s):wpAny (model prog w) A (eval (.Attribute e f pos) env) Q E s :=
 Attribute_any_ h (by rw[arm_eval_Attribute,hb])
end
def R4(K:η)(ta:TE)(f:Str):TE:=λσ H Q=>ta σ H λx H1=>∃ a C dx fs v,x=.ref a/\H1 a=some (.ins C dx fs)/\Cls K C/\NoAttr K C f/\fs.lookup f=some v/\Q v H1
def R5(K:η)(ta tv:TE)(f:Str):TS:=λD σ H=>tv σ H λy H1=>ta σ H1 λx H2=>∃ a C dx fs,x=.ref a/\H2 a=some (.ins C dx fs)/\Cls K C/\NoAttr K C f/\fs.length<1000 /\
 D.nx σ (upd H2 a (.ins C dx (BI f y fs)))
def jI(X:Cx)(op:Operator)(rd:V->V->Hp->VK->Prop):Prop :=
 ∀ (AB:List (Addr × Obj)) (s:ε) (σ:St) (H:Hp) (x y:V) (u v:Value) (Q:VK),Inv X AB σ H s->RelV x u->RelV y v->rd x y H Q->wpAny (model X.prog X.w) X.A (inplaceOp op u v) (EP X AB σ Q) X.xe s
def V3(K:η)(ta tv:TE)(rd:V->V->Hp->VK->Prop)(f:Str):TS:=λD σ H=>ta σ H λx H1=>∃ a C dx fs v,x=.ref a/\H1 a=some (.ins C dx fs)/\Cls K C/\NoAttr K C f/\fs.lookup f=some v /\
 tv σ H1 λy H2=>rd v y H2 λz H3=>∃ dx' fs',H3 a=some (.ins C dx' fs')/\fs'.length<1000/\D.nx σ (upd H3 a (.ins C dx' (BI f z fs')))
section
variable{X:Cx}{o e value:Expr}{f:Str}{pos pos' tpos:Pos}{ta tv:TE}
def A8(he:PE X e ta)(hb:mv e f X.env (eval e X.env)=eval e X.env):PE X (.Attribute e f pos) (R4 X.K ta f):=by
 intro AB s σ H Q I h;refine Ky hb (A1 (he AB s σ H _ I h) λu s1 hzz=> ?_);obtain⟨x,H1,I1,rx,a,C,dx,fs,v,ex,ea,c,n,l,q⟩:=hzz;subst ex;obtain rfl:u=ba a:=rx;exact jF I1 ea c n l λu' s2 I2 ru=>x2 v H1 ⟨I2,ru,q⟩
def FY(ha:PE X o ta)(hv:PE X value tv)(hs:wg value (some (.Attribute o f pos')) pos.line X.env=pure false):PS X (.Assign [.Attribute o f pos'] value pos) (R5 X.K ta tv f):=by
 intro AB s σ H D I h;refine plainObj_wpAny_Assign_Attribute (A1 (hv AB s σ H _ I h) λu s1 ⟨y,H1,I1,ry,q⟩=>A1 (ha AB s1 σ H1 _ I1 q) λov s2 hzz=> ?_) hs;obtain⟨x,H2,I2,rx,a,C,dx,fs,ex,ea,c,n,l,q2⟩:=hzz;subst ex;obtain rfl:ov=ba a:=rx;exact jH I2 ea c n l ry λs3 I3=>x2 σ _ ⟨I3,q2⟩
def Kz{op:Operator}{rd:V->V->Hp->VK->Prop}(ha:PE X o ta)(hv:PE X value tv)(hop:jI X op rd):PS X (.AugAssign (.Attribute o f tpos) op value pos) (V3 X.K ta tv rd f):=by
 intro AB s σ H D I h;refine wpAny_AugAssign_AttributeAny (A1 (ha AB s σ H _ I h) λov s1 hzz=> ?_);obtain⟨x,H1,I1,rx,a,C,dx,fs,v,ex,ea,c,n,l,q⟩:=hzz;subst ex;obtain rfl:ov=ba a:=rx;refine jF I1 ea c n l λu s2 I2 ru=>A1 (hv AB s2 σ H1 _ I2 q) λw3 s3 ⟨y,H2,I3,ry,q3⟩=>A1 (hop AB s3 σ H2 v y u w3 _ I3 ru ry q3) λw4 s4 hzz=> ?_;obtain⟨z,H3,I4,rz,dx',fs',ea',l',q4⟩:=hzz;exact jH I4 ea' c n l' rz λs5 I5=>x2 σ _ ⟨I5,q4⟩
def R6:V->V->Hp->VK->Prop:=λx y H Q=>∃ i j,x=.int i/\y=.int j/\Q (.int (i+j)) H
def Lb:jI X .Add R6:=by
 rintro AB s σ H x y u v Q I rx ry ⟨i,j,rfl,rfl,q⟩;obtain⟨t,rfl⟩:=(show ∃ t,u=gg i t from rx)
 obtain⟨t',rfl⟩:=(show ∃ t',v=gg j t' from ry)
 exact PyProof.Rows.iadd_int (x2 (.int (i+j)) H ⟨I.tok _,⟨_,rfl⟩,q⟩)
end
section
variable{X:Cx}{AB:List (Addr × Obj)}{σ:St}{H:Hp}{s:ε}{A:bg}{E:Value->ε->Prop}{Q:Value->ε->Prop}{c:Value}{b:Bool}
inductive HP(K:η)(H:Hp):V->Value->Prop where
 | non:HP K H .non (.type "NoneType")
 | bl (x:Bool):HP K H (.bl x) (.type "bool")
 | int (i:Int):HP K H (.int i) (.type "int")
 | str (x:Str):HP K H (.str x) (.type "str")
 | flt (x:UInt64):HP K H (.flt x) (.type "float")
 | lst {a:Addr} {xs:List V} (e:H a=some (.lst xs)):HP K H (.ref a) (.type "list")
 | frz {a:Addr} {o:Obj} {xs:List V} (e:H a=some (.frz o (.lst xs))):HP K H (.ref a) (.type "list")
 | tup {a:Addr} {xs:List V} (e:H a=some (.tup xs)):HP K H (.ref a) (.type "tuple")
 | dK {a:Addr} {AE:List (AS × V)} (e:H a=some (.dK AE)):HP K H (.ref a) (.type "dict")
 | dT {a:Addr} {AE:List (List AS × V)} (e:H a=some (.dT AE)):HP K H (.ref a) (.type "dict")
 | ins {a C dx:Addr} {fs:List (Str × V)} (e:H a=some (.ins C dx fs)) (cl:Cls K C) (ha:b_ K (.ref C) "__class__"=some (some (.builtin "object.__class__")))
   (hn:xw K (.builtin "object.__class__") "__get__"=some (some (.builtin "getset_descriptor.__get__"))) (htk:Ip K (.builtin "object.__class__")=some true)
   (hm:W.mroIn K C (.type "object")=some true):HP K H (.ref a) (.ref C)
end
end L2
namespace L2
structure Room(k:Nat)(A:bg):Prop where
 hd:A.handled=none
 dp:A.depth+3 * k+5<recursionLimit
 un:A.units+16 * k+200<cLine
def Room.mono{j k:Nat}{A:bg}(r:Room k A)(h:j<=k):Room j A:=⟨r.hd,by have:=r.dp;omega,by have:=r.un;omega⟩
def Room.deeper{k:Nat}{A:bg}(r:Room (k+1) A)(env:Env):Room k (A.deeper env) :=
 ⟨r.hd,by have:=r.dp;show A.depth+1+3 * k+5<_;omega,by have:=r.un;show A.units+3+16 * k+200<_;omega⟩
def Lc{A:bg}{C:Addr}{us:List Value}{kw:List (Str × Value)}:(A.under (.builtin "type.__call__" ⟨.ref C::us,kw⟩)).depth=A.depth+1:=by
 first | rfl | simp[zw,Code.weight,Code.isCreation,Code.isGuard,Code.isCaller,Ke,zx,guardIds]
def Ld{A:bg}{C:Addr}{us:List Value}{kw:List (Str × Value)}:(A.under (.builtin "type.__call__" ⟨.ref C::us,kw⟩)).units=A.units+1:=by
 first | rfl | simp[zw,Code.cUnits,Ke,zx]
def Room.make{k:Nat}{A:bg}(r:Room (k+1) A)(C:Addr)(us:List Value)(kw:List (Str × Value)):Room k (A.under (.builtin "type.__call__" ⟨.ref C::us,kw⟩)) :=
 ⟨r.hd,by have:=r.dp;rw[Lc];omega,by have:=r.un;rw[Ld];omega⟩
def Room.depth{k:Nat}{A:bg}(r:Room k A):A.depth<recursionLimit:=by have:=r.dp;omega
def Room.units{k:Nat}{A:bg}(r:Room k A):A.units+64<cLine:=by have:=r.un;omega
def BV:TA:=λ_ H Q=>Q [] H
def BG(ta:TE)(tr:TA):TA:=λσ H Q=>ta σ H λx H1=>tr σ H1 λxs H2=>Q (x::xs) H2
section
variable{X:Cx}{e:Expr}{es:List Expr}{te:TE}{t:TA}{pos:Pos}
def D7:PA X [] BV:=λ_ _ _ _ H Q I h=>zy (x2 [] H ⟨I,.nil,h⟩)
def BO(ha:PE X e te)(hr:PA X es t)(hs:af (e::es) X.env=(false,eval e X.env)::af es X.env:=by rfl):PA X (e::es) (BG te t):=by
 intro pos AB s σ H Q I h;rw[hs]
 show wpAny _ _ (spliced ((false,eval e X.env)::gi pos (af es X.env))) _ _ s;refine ze (A1 (ha AB s σ H _ I h) λu s1 hzz=> ?_);obtain⟨x,H1,I1,r1,q1⟩:=hzz;exact A1 (hr pos AB s1 σ H1 _ I1 q1) λus s2 ⟨xs,H2,I2,r2,q2⟩=>x2 (x::xs) H2 ⟨I2,.cons r1 r2,q2⟩
def DP(t:TA):TE:=λσ H Q=>t σ H λxs H1=>xs.length<=sizeLine/\∀ p,H1 p=none->Q (.ref p) (upd H1 p (.tup xs))
def BW(t:TA):TE:=λσ H Q=>t σ H λxs H1=>xs.length<=sizeLine/\∀ p,H1 p=none->Q (.ref p) (upd H1 p (.lst xs))
def DT{x1}(h:PA X es t):PE X (.Tuple es x1 pos) (DP t):=by
 intro AB s σ H Q I hq;refine wpAny_Tuple_spliced (A1 (h pos AB s σ H _ I hq) λus s1 ⟨xs,H1,I1,r,z,q⟩=>⟨by rw[<-r.length];exact z,?_⟩)
 have hf:H1 s1.heap.objs.size=none:=I1.hok.fresh (ξ _);refine x2 (.ref s1.heap.objs.size) (upd H1 s1.heap.objs.size (.tup xs)) ⟨I1.laid (t':=s1.toks) (λb u e=>θ _ e) (ξ _) ?_,rfl,q _ hf⟩;exact⟨z,us,r,⟨_,ae _ rfl,rfl,_,rfl⟩⟩
def BZ(h:PA X es t):PE X (.List es pos) (BW t):=by
 intro AB s σ H Q I hq;refine wpAny_List_spliced (A1 (h pos AB s σ H _ I hq) λus s1 ⟨xs,H1,I1,r,z,q⟩=>⟨by rw[<-r.length];exact z,?_⟩)
 have hf:H1 s1.heap.objs.size=none:=I1.hok.fresh (ξ _);refine x2 (.ref s1.heap.objs.size) (upd H1 s1.heap.objs.size (.lst xs)) ⟨I1.laid (t':=s1.toks) (λb u e=>θ _ e) (ξ _) ?_,rfl,q _ hf⟩;exact⟨z,x2 us 0 ⟨r,ae _ rfl⟩⟩
end
abbrev Sp:=List V->Hp->VK->XK->Prop
abbrev HQ:=List Env->Hp->ε->XK->Value->ε->Prop
structure Env0(P:au)(w:World)(K:η)(mg:Str->Option Value)(base:Heap)(A:bg)(outer:List Env)(s:ε)(H:Hp):Prop where
 frames:A.frames=some outer
 mod:Mod K mg base
 bs:∀ b o,base.get? b=some o->s.heap.get? b=some o/\H b=none
 bsz:base.objs.size<=s.heap.objs.size
 funs:s.heap.FunFrames base outer
 frf:∀ b∈EX outer,H b=none
 hok:HOk P w H s.heap
 bare:oq s.gens
def CE(outer:List Env)(P:au)(w:World)(H:Hp)(s:ε)(Q:VK)(u:Value)(s':ε):Prop :=
 ∃ v H',s'.os=s.os/\oq s'.gens/\Un (EX outer) [] H H' s.heap s'.heap/\HOk P w H' s'.heap/\RelV v u/\Q v H'
def CR(CX:HQ)(outer:List Env)(P:au)(w:World)(H:Hp)(s:ε)(Q:VK)(E:XK)(r:Gu)(s':ε):Prop :=
 match r with
 | .ok (.ret u)=>CE outer P w H s Q u s'
 | .ok _=>False
 | .error e=>CX outer H s E e s'
structure FnOk(P:au)(w:World)(K:η)(mg:Str->Option Value)(base:Heap)(CX:HQ)(k:Nat)(f:Addr)(fd:dr)(ps:List Str)(sp:Sp):Prop where
 len:∀ vs H Q E,sp vs H Q E->vs.length=ps.length
 run:∀ (A:bg) (outer:List Env) (s:ε) (H:Hp) (args:Args) (us:List Value) (vs:List V) (Q:VK) (E:XK),Room k A->Env0 P w K mg base A outer s H->vi s fd args (ps.zip us)->Vals vs us->sp vs H Q E ->
  sr (model P w) A (.call (.ref f) args) (CR CX outer P w H s Q E) s
def FnOk.imp{P:au}{w:World}{K:η}{mg:Str->Option Value}{base:Heap}{CX:HQ}{k:Nat}{f:Addr}{fd:dr}{ps:List Str}{sp sp':Sp}(F:FnOk P w K mg base CX k f fd ps sp)
  (h:∀ vs H Q E,sp' vs H Q E->sp vs H Q E):FnOk P w K mg base CX k f fd ps sp' :=
 ⟨λvs H Q E q=>F.len vs H Q E (h _ _ _ _ q),λA outer s H args us vs Q E hr he hb hv hs=>F.run A outer s H args us vs Q E hr he hb hv (h _ _ _ _ hs)⟩
def Env0.make{P:au}{w:World}{K:η}{mg:Str->Option Value}{base:Heap}{A:bg}{outer:List Env}{s:ε}{H:Hp}(e:Env0 P w K mg base A outer s H)(C:Addr)(us:List Value)(kw:List (Str × Value)) :
  Env0 P w K mg base (A.under (.builtin "type.__call__" ⟨.ref C::us,kw⟩)) outer s H:=⟨by first | exact e.frames | (simpa [zw,Code.envs,zx,pushEnvs]using e.frames),e.mod,e.bs,e.bsz,e.funs,e.frf,e.hok,e.bare⟩
section
variable{X:Cx}{AB:List (Addr × Obj)}{σ:St}{H:Hp}{s s':ε}
def Inv.env0(I:Inv X AB σ H s):Env0 X.prog X.w X.K X.mg X.base X.A X.stack s H :=
 ⟨I.ok.frames,I.ok.mod,I.bs,υ I.ok.bsz I.sz,I.stack,I.stkFree,I.hok,I.bare⟩
def Inv.after{Q:VK}{u:Value}(I:Inv X AB σ H s)(h:CE X.stack X.prog X.w H s Q u s'):EP X AB σ Q u s':=by
 revert h;apply u2;rintro v H' ⟨os,bare,un,hok,r,q⟩;obtain⟨hh,g,d,t,os'⟩:=s';obtain rfl:os'=s.os:=os;exact x2 v H' ⟨I.call (h':=hh) (g':=g) (d':=d) (t':=t) (ch:=[]) un hok bare (λb z=>absurd z (by simp)),r,q⟩
end
def NR(sp:Sp)(E7:List V)(E:St->XK)(t:TA):TE:=λσ H Q=>t σ H λvs H1=>sp (vs++E7) H1 Q (E σ)
def KI(C:Addr)(m:Str)(sp:Sp)(E7:List V)(E:St->XK)(ta:TE)(t:TA):TE:=λσ H Q=>ta σ H λx H1=>∃ a dx fs,x=.ref a/\H1 a=some (.ins C dx fs)/\fs.lookup m=none /\
 t σ H1 λvs H2=>sp (x::(vs++E7)) H2 Q (E σ)
def O5(C:Addr)(sp:Sp)(E7:List V)(E:St->XK)(t:TA):TE:=λσ H Q=>t σ H λvs H1=>∀ x dx,H1 x=none->H1 dx=none->dx≠x ->
 sp (.ref x::(vs++E7)) (upd (upd H1 dx (.own x)) x (.ins C dx [])) (λv H2=>v=.non/\Q (.ref x) H2) (E σ)
def Binds(K:η)(fd:dr)(ps:List Str)(ds:List Value):Prop :=
 ∀ (s:ε) (us:List Value),K.In s.heap->(us++ds).length=ps.length->vi s fd ⟨us,[]⟩ (ps.zip (us++ds))
def Binds.all{K:η}{fd:dr}{ps:List Str}(h:∀ us:List Value,us.length=ps.length->bindArgs fd ⟨us,[]⟩=pure (ps.zip us)):Binds K fd ps []:=λs us _ hl=>by
 rw[t9]at hl ⊢;exact .of_eq (h us hl)
def HR(CX:HQ)(X:Cx)(E:St->XK):Prop:=∀ (AB:List (Addr × Obj)) (σ:St) (H:Hp) (s:ε) (e:Value) (s':ε),Inv X AB σ H s->CX X.stack H s (E σ) e s'->X.xe e s'
section
variable{X:Cx}{CX:HQ}{k:Nat}{f C:Addr}{fd:dr}{ps:List Str}{sp:Sp}{E7:List V}{ds:List Value}{E:St->XK}{x m:Str}{p pos DJ:Pos}{e o:Expr}{es:List Expr}{ta:TE}{t:TA}
def V4{AB:List (Addr × Obj)}{σ:St}{H:Hp}{s:ε}{Q:VK}{us:List Value}{vs:List V}(F:FnOk X.prog X.w X.K X.mg X.base CX k f fd ps sp)(hr:Room k X.A)(hb:Binds X.K fd ps ds)(hd:Vals E7 ds)(hx:HR CX X E)
  (I:Inv X AB σ H s) (r:Vals vs us) (h:sp (vs++E7) H Q (E σ)):wpAny (model X.prog X.w) X.A (call (.ref f) us) (EP X AB σ Q) X.xe s:=by
 have r2:Vals (vs++E7) (us++ds):=r.append hd
 have hl:(us++ds).length=ps.length:=by rw[<-r2.length];exact F.len _ _ _ _ h
 refine wz (kg (F.run X.A X.stack s H ⟨us,[]⟩ (us++ds) (vs++E7) Q (E σ) hr I.env0 (hb s us I.kIn hl) r2 h) λr s' hq=> ?_);cases r with
 | error e=>exact hx AB σ H s e s' I hq
 | ok fl =>
  cases fl with
  | ret u=>exact I.after hq
  | next=>exact iw hq
  | brk=>exact iw hq
  | cont=>exact iw hq
def Lg(F:FnOk X.prog X.w X.K X.mg X.base CX k f fd ps sp)(hr:Room k X.A)(hg:Gl X x)(hm:X.mg x=some (.ref f))(hk:mq X.K (.ref f)=true)(hb:Binds X.K fd ps ds)(hd:Vals E7 ds)(hx:HR CX X E)
  (ha:PA X (e::es) t) (hdb:(x ==("__debug__":Str))=false:=by decide) (he:af (e::es) X.env=(false,eval e X.env)::af es X.env:=by rfl) (CK:(gi pos (af es X.env)).any (·.1)=false:=by rfl) :
  PE X (.Call (.Name x p) (e::es) [] pos) (NR sp E7 E t):=by
 intro AB s σ H Q I h;refine nu (NJ I hg hm ?_ hdb);refine zz (h₀:=X.base) I.ok.mod.kin hk (A1 (ha pos AB s σ H _ I h) λus s1 ⟨vs,H1,I1,r,q⟩=>⟨I1.kIn,?_⟩) he CK;exact V4 F hr hb hd hx I1 r q
def Lh{pl:Sem Bool}(he:PE X o ta)(c:Cls X.K C)(hm:R3 X.K C m f)(F:FnOk X.prog X.w X.K X.mg X.base CX k f fd ps sp)(hr:Room k X.A)(hb:Binds X.K fd ps ds)(hd:Vals E7 ds)(hx:HR CX X E)(ha:PA X (e::es) t)
  (hst:af (e::es) X.env=(false,eval e X.env)::af es X.env:=by rfl) (CK:(gi pos (af es X.env)).any (·.1)=false:=by rfl)
  (ht:eval (.Call (.Attribute o m DJ) (e::es) [] pos) X.env=(do
   let ov ← eval o X.env
   wx DJ.atName
   let (f,first) ← oy [ov] (rk ov m pl)
   xy pos f first (gi pos (af (e::es) X.env)) (sy pos (ke [] X.env))):=by rfl) :
  PE X (.Call (.Attribute o m DJ) (e::es) [] pos) (KI C m sp E7 E ta t):=by
 intro AB s σ H Q I h;refine Fi (pl:=pl) (A1 (he AB s σ H _ I h) λu s1 hzz=> ?_) ht;obtain⟨x,H1,I1,rx,a,dx,fs,ex,ea,l,q⟩:=hzz;subst ex;obtain rfl:u=ba a:=rx;refine jG I1 ea c hm l ?_;refine zz (first:=[.ref a]) (h₀:=X.base) I.ok.mod.kin hm.kp (A1 (ha pos AB s1 σ H1 _ I1 q) λus s2 ⟨vs,H2,I2,r,q2⟩=>⟨I2.kIn,?_⟩) hst CK;exact V4 (us:=.ref a::us) (vs:=.ref a::vs) F hr hb hd hx I2 (.cons rfl r) q2
def Lj{pl:Sem Bool}(he:PE X o ta)(c:Cls X.K C)(hm:R3 X.K C m f)(F:FnOk X.prog X.w X.K X.mg X.base CX k f fd ps sp)(hr:Room k X.A)(hb:Binds X.K fd ps ds)(hd:Vals E7 ds)(hx:HR CX X E)
  (ht:eval (.Call (.Attribute o m DJ) [] [] pos) X.env=(do
   let ov ← eval o X.env
   wx DJ.atName
   let (f,first) ← oy [ov] (rk ov m pl)
   xy pos f first (gi pos (af [] X.env)) (sy pos (ke [] X.env))):=by rfl) :
  PE X (.Call (.Attribute o m DJ) [] [] pos) (KI C m sp E7 E ta BV):=by
 intro AB s σ H Q I h;refine Fi (pl:=pl) (A1 (he AB s σ H _ I h) λu s1 hzz=> ?_) ht;obtain⟨x,H1,I1,rx,a,dx,fs,ex,ea,l,q⟩:=hzz;subst ex;obtain rfl:u=ba a:=rx;refine jG I1 ea c hm l ?_;exact W.callWith_K0 (first:=[.ref a]) I1.kIn hm.kp (V4 (us:=[.ref a]) (vs:=[.ref a]) F hr hb hd hx I1 (.cons rfl .nil) q)
structure Mk(K:η)(C f:Addr):Prop where
 makes:De K C=true
 init:b_ K (.ref C) "__init__"=some (some (.ref f))
 fn:Gs K (.ref f)=true
 kp:mq K (.ref C)=true
def Lk{AB:List (Addr × Obj)}{σ:St}{H:Hp}{s:ε}{Q:VK}{us:List Value}{vs:List V}(M:Mk X.K C f)(F:FnOk X.prog X.w X.K X.mg X.base CX k f fd ps sp)(hr:Room (k+1) X.A)(hb:Binds X.K fd ps ds)(hd:Vals E7 ds)
  (hx:HR CX X E) (I:Inv X AB σ H s) (r:Vals vs us)
  (h:∀ x dx,H x=none->H dx=none->dx≠x->sp (.ref x::(vs++E7)) (upd (upd H dx (.own x)) x (.ins C dx [])) (λv H2=>v=.non/\Q (.ref x) H2) (E σ)) :
  wpAny (model X.prog X.w) X.A (call (.ref C) us) (EP X AB σ Q) X.xe s:=by
 have hq:=h (s.heap.objs.size+1) s.heap.objs.size (I.hok.fresh (dq _)) (I.hok.fresh (ξ _)) (aw (ff _))
 have I2:=Inv.made (C:=C) I
 have r2:Vals (V.ref (s.heap.objs.size+1)::(vs++E7)) (ba (s.heap.objs.size+1)::(us++ds)):=.cons rfl (r.append hd)
 have hl:(ba (s.heap.objs.size+1)::us++ds).length=ps.length:=by
  have e:=r2.length;rw[F.len _ _ _ _ hq]at e;exact e.symm
 refine wz (Kw (f:=f) I.kIn M.makes M.init (beq_iff_eq.mp M.fn) (kg (F.run _ X.stack _ _ ⟨ba (s.heap.objs.size+1)::us,[]⟩ (ba (s.heap.objs.size+1)::(us++ds)) _ _ (E σ) (hr.make C us [])
  (I2.env0.make C us []) (hb _ (ba (s.heap.objs.size+1)::us) I2.kIn hl) r2 hq) λr s' hq'=> ?_))
 cases r with
 | error e=>exact hx AB σ _ _ e s' I2 hq'
 | ok fl =>
  cases fl with
  | ret u =>
   refine u2 ?_ (I2.after hq');rintro v H' ⟨I3,rv,ev,q3⟩;subst ev;exact⟨rv,x2 (V.ref (s.heap.objs.size+1)) H' ⟨I3,rfl,q3⟩⟩
  | next=>exact iw hq'
  | brk=>exact iw hq'
  | cont=>exact iw hq'
def Ll(M:Mk X.K C f)(F:FnOk X.prog X.w X.K X.mg X.base CX k f fd ps sp)(hr:Room (k+1) X.A)(hg:Gl X x)(hm:X.mg x=some (.ref C))(hb:Binds X.K fd ps ds)(hd:Vals E7 ds)(hx:HR CX X E)
  (ha:PA X (e::es) t) (hdb:(x ==("__debug__":Str))=false:=by decide) (he:af (e::es) X.env=(false,eval e X.env)::af es X.env:=by rfl) (CK:(gi pos (af es X.env)).any (·.1)=false:=by rfl) :
  PE X (.Call (.Name x p) (e::es) [] pos) (O5 C sp E7 E t):=by
 intro AB s σ H Q I h;refine nu (NJ I hg hm ?_ hdb);refine zz (h₀:=X.base) I.ok.mod.kin M.kp (A1 (ha pos AB s σ H _ I h) λus s1 ⟨vs,H1,I1,r,q⟩=>⟨I1.kIn,?_⟩) he CK;exact Lk M F hr hb hd hx I1 r q
end
section
variable{X:Cx}{CX:HQ}{k:Nat}{f C:Addr}{fd:dr}{ps ks:List Str}{sp:Sp}{E:St->XK}{x m:Str}{p pos DJ kpos:Pos}{e o:Expr}{es:List Expr}{kws:List yn}{te ta:TE}{t tk:TA}{nm:Option Str}
structure zsk(K:η)(fd:dr)(ps ks:List Str)(g:List Value->List Value->List Value)(gV:List V->List V->List V):Prop where
 to:∀ (s:ε) (us ws:List Value),K.In s.heap->(g us ws).length=ps.length->vi s fd ⟨us,ks.zip ws⟩ (ps.zip (g us ws))
 rel:∀ {vs:List V} {us:List Value} {zs:List V} {ws:List Value},Vals vs us->Vals zs ws->Vals (gV vs zs) (g us ws)
variable{g:List Value->List Value->List Value}{gV:List V->List V->List V}
end
structure FnScope(N P:List Str)(sc:Scope):Prop where
 kind:sc.kind=.function
 co:sc.isCoroutine=false
 gen:sc.isGenerator=false
 nd:N.Nodup
 pre:N.take P.length=P
 par:∀ x∈P,sc.names.lookup x=some .local\/sc.names.lookup x=some .cell
 nofree:∀ y∈sc.names,y.2≠.free
def jJ{kindOf:Str->Option wj}{x:Str}:∀ {binds:List (Str × Value)} {m:Str->Option Value},(∀ v,(x,v)∉binds)->bindL kindOf binds m x=m x
 | [],_,_=>rfl
 | (n,v)::r,m,h=>by
  unfold bindL;rw[jJ λw hw=>h w (χ _ hw)];split
  ·have:x≠n:=by rintro rfl;exact h v aq
   simp[this]
  ·rfl
def jK{kindOf:Str->Option wj}{x:Str}:∀ {binds:List (Str × Value)} {m:Str->Option Value},(∀ v,(x,v)∉binds)->bindC kindOf binds m x=m x
 | [],_,_=>rfl
 | (n,v)::r,m,h=>by
  unfold bindC;rw[jK λw hw=>h w (χ _ hw)];split
  ·rfl
  ·have:x≠n:=by rintro rfl;exact h v aq
   simp[this]
def jL{kindOf:Str->Option wj}{x:Str}{v:Value}:∀ {P:List Str} {vs:List Value} {i:Nat} {m:Str->Option Value},P.Nodup->P[i]? =some x->vs[i]? =some v->kindOf x=some .local ->
  bindL kindOf (P.zip vs) m x=some v
 | [],_,_,_,_,h,_,_=>by simp at h
 | _::_,[],_,_,_,_,h,_=>by simp at h
 | p::P,w::vs,0,m,nd,h1,h2,hk=>by
  simp at h1 h2;subst h1;subst h2
  show bindL kindOf ((p,w)::P.zip vs) m p=_;unfold bindL;rw[jJ λv hv=>(jf.mp nd).1 (xo hv).1,if_pos hk];simp
 | p::P,w::vs,i+1,m,nd,h1,h2,hk=>by
  show bindL kindOf ((p,w)::P.zip vs) m x=_;unfold bindL;exact jL (i:=i) (jf.mp nd).2 (by simpa using h1) (by simpa using h2) hk
def jM{kindOf:Str->Option wj}{x:Str}{v:Value}:∀ {P:List Str} {vs:List Value} {i:Nat} {m:Str->Option Value},P.Nodup->P[i]? =some x->vs[i]? =some v->kindOf x≠some .local ->
  bindC kindOf (P.zip vs) m x=some v
 | [],_,_,_,_,h,_,_=>by simp at h
 | _::_,[],_,_,_,_,h,_=>by simp at h
 | p::P,w::vs,0,m,nd,h1,h2,hk=>by
  simp at h1 h2;subst h1;subst h2
  show bindC kindOf ((p,w)::P.zip vs) m p=_;unfold bindC;rw[jK λv hv=>(jf.mp nd).1 (xo hv).1,if_neg hk];simp
 | p::P,w::vs,i+1,m,nd,h1,h2,hk=>by
  show bindC kindOf ((p,w)::P.zip vs) m x=_;unfold bindC;exact jM (i:=i) (jf.mp nd).2 (by simpa using h1) (by simpa using h2) hk
def start(N:List Str)(vs:List V):St:=vs.map some++ah (N.length - vs.length) none
def IP(CX:HQ)(P:au)(w:World)(K:η)(mg:Str->Option Value)(base:Heap)(N:List Str)(qual:Str)(scope:Scope)(f:Addr)(cd:Value)(A:bg)(outer:List Env)(s:ε)(H:Hp)(E:XK):Cx where
 prog:=P
 w:=w
 K:=K
 mg:=mg
 base:=base
 A:=A.deeper (t_ qual scope s.heap.objs.size f cd)
 N:=N
 s₀:=s
 H₀:=H
 env:=t_ qual scope s.heap.objs.size f cd
 outer:=outer
 stack:=t_ qual scope s.heap.objs.size f cd::outer
 ex:=[]
 calm:=true
 fn:=λ_=>true
 pn:=[]
 xe:=λe s'=>wpAny (model P w) (A.deeper (t_ qual scope s.heap.objs.size f cd)) (leaving (t_ qual scope s.heap.objs.size f cd) e) (λ_ s''=>CX outer H s E e s'') (λe' s''=>CX outer H s E e' s'') s'
def jN{sc:Scope}{n:Nat}{x:Str}(h:sc.names.lookup x=some .cell):∃ c,(Iq n sc.names []).lookup x=some c:=by
 have q:=Df sc.names n [] (.inl h);exact ee.mp q
def Lm{CX:HQ}{P:au}{w:World}{K:η}{mg:Str->Option Value}{base:Heap}{N ps:List Str}{qual:Str}{scope:Scope}{f:Addr}{cd:Value}{A:bg}{outer:List Env}{s s1:ε}{H:Hp}{E:XK}{us:List Value}{vs:List V}
  (S:FnScope N ps scope) (hd:A.handled=none) (e0:Env0 P w K mg base A outer s H) (hl:vs.length=ps.length) (r:Vals vs us)
  (x:InCallC s s.heap.objs.size (bindL (t_ qual scope s.heap.objs.size f cd).kindOf (ps.zip us) λ_=>none) (Iq (s.heap.objs.size+1) scope.names []) (bindC (t_ qual scope s.heap.objs.size f cd).kindOf (ps.zip us) λ_=>none) s1) :
  Inv (IP CX P w K mg base N qual scope f cd A outer s H E) [] (start N vs) H s1:=by
 have CK:ps.length<=N.length:=by have:=congrArg vj S.pre;rw[dk]at this;omega
 refine u2 ?_ x.done;rintro h1 tk ⟨rfl,hk⟩
 have noA:∀ b:Addr,b∉(IP CX P w K mg base N qual scope f cd A outer s H E).ex:=λb z=>absurd (show b∈([]:List Addr)from z) (by simp);refine⟨⟨e0.mod,S.kind,rfl,rfl,ξ _,λy z c h1 h2=> ?_,λy hy=> ?_,λy c _ h=> ?_,λ_=>hd,Around.frames_deeper e0.frames,.inr ⟨rfl,rfl⟩,λb z=>absurd z (noA b),e0.bs,e0.bsz,λb _ _=>noA b,λb z=>absurd z (noA b),e0.funs,e0.frf⟩,
  rfl,e0.bare,Un.kept hk,⟨_,x.toInCall.ns,λi y v h1 h2 h3=> ?_⟩,λy c h=>⟨_,x.cell y c h⟩,e0.hok.fresh (ξ _),λy c h=> ?_,λp hp=>absurd (show p∈([]:List (Addr × Obj))from hp) (by simp),e0.hok.kept hk,?_⟩
 ·exact name_of_addr x.apart (PySem.mem_of_lookup h1) (PySem.mem_of_lookup h2)
 ·have hy:scope.names.lookup y=some .cell\/scope.names.lookup y=some .free:=hy;rcases hy with hy | hy
  ·exact jN hy
  ·exact absurd rfl (S.nofree _ (PySem.mem_of_lookup hy))
 ·exact fg (x.above y c (PySem.mem_of_lookup h))
 ·have hi:i<vs.length:=by
   unfold start at h2;by_cases hi:i<vs.length
   ·exact hi
   ·rw[ao (by simpa using hi)]at h2;rw[wk]at h2;split at h2<;>cases h2
  have ha:vs[i]? =some v:=by
   unfold start at h2;rw[am (by simpa using hi),ρ]at h2;cases e:vs[i]? with
   | none=>rw[e]at h2;cases h2
   | some a=>rw[e]at h2;cases h2;rfl
  obtain⟨u,hu,rv⟩:=r.get ha
  have hp:ps[i]? =some y:=by
   rw[<-S.pre,List.getElem?_take_of_lt (by exact hl ▸ hi)];exact h1
  have ndP:ps.Nodup:=by rw[<-S.pre];exact S.nd.sublist (z_ _ _)
  refine⟨u,rv,?_⟩;rcases S.par y (π hp)with k | k
  ·exact .inl ⟨k,jL ndP hp hu k⟩
  ·obtain⟨c,e⟩:=jN (n:=s.heap.objs.size+1) k;refine .inr ⟨.inl k,c,e,?_⟩
   have q:=x.cell y c e;rw[jM ndP hp hu (by show scope.names.lookup y≠_;rw[k];decide)]at q;exact q
 ·exact e0.hok.fresh (fg (x.above y c (PySem.mem_of_lookup h)))
 ·unfold start
  show _=N.length;rw[aj,ν,pz];omega
def Lp{CX:HQ}{P:au}{w:World}{K:η}{mg:Str->Option Value}{base:Heap}{k:Nat}{f:Addr}{name qual:Str}{params:Arguments}{body:List Stmt}{scope:Scope}{dV kV doc pm CH ct oc:Value}{an od:Option Addr}
  {osl:Array (Option Value)} {N ps:List Str} {sp:Sp} (lk:K.lookup f=some ⟨oc,od,.func (vt name qual params body scope dV kV doc pm an CH ct),osl⟩) (KC:xz K CH qual=true) (S:FnScope N ps scope)
  (len:∀ vs H Q E,sp vs H Q E->vs.length=ps.length)
  (iN:∀ (A:bg) (outer:List Env) (s:ε) (H:Hp) (vs:List V) (Q:VK) (E:XK),Room k (A.deeper (t_ qual scope s.heap.objs.size f CH))->sp vs H Q E ->
   ∃ t,G7 (IP CX P w K mg base N qual scope f CH A outer s H E) body t/\t { nx:=λ_ H'=>Q .non H',rt:=Q } (start N vs) H) :
  FnOk P w K mg base CX (k+1) f (vt name qual params body scope dV kV doc pm an CH ct) ps sp:=by
 refine⟨len,λA outer s H args us vs Q E hr e0 hb r hsp=> ?_⟩
 have hl:=len _ _ _ _ hsp
 have KX:K.In s.heap:=e0.mod.kin.keeps λb o e=>(e0.bs b o e).1
 have lim:s.heap.NoLimit:=e0.mod.nolimit.keeps λb o e=>(e0.bs b o e).1
 have hkind:∀ y∈ps.zip us,scope.names.lookup y.1=some .local\/(scope.names.lookup y.1=some .cell/\((Iq (s.heap.objs.size+1) scope.names []).lookup y.1).isSome=true):=λ⟨n,v⟩ hy=>by
  rcases S.par n (xo hy).1 with q | q
  ·exact .inl q
  ·exact .inr ⟨q,Df _ _ _ (.inl q)⟩
 refine codeAny_call_function hr.depth (KX _ _ lk) rfl S.co S.gen rfl (W.codeRec_of KX KC) (hb _ _ _ _ ?_);refine wpAny_newFunctionEnv_cells S.kind hkind λenv he s1 x=> ?_;subst he;refine⟨lim.keeps x.toInCall.keep,codeAny_func ?_⟩;obtain⟨t,ht,hq⟩:=iN A outer s H vs Q E (hr.deeper _) hsp
 have I:Inv (IP CX P w K mg base N qual scope f CH A outer s H E) [] (start N vs) H s1:=Lm S hr.hd e0 hl r x;refine ln (ht [] s1 (start N vs) H _ I hq) (λfl s' hs=> ?_) λe s' hs=>hs
 have fin:∀ {σ':St} {H':Hp} {v:V} {u:Value},Inv (IP CX P w K mg base N qual scope f CH A outer s H E) [] σ' H' s'->RelV v u->Q v H'->CE outer P w H s Q u s' :=
  λ{σ' H' v u} J rv q=>x2 v H' ⟨J.os,J.bare,J.base,J.hok,rv,q⟩
 cases fl with
 | ret u =>
  revert hs;apply u3;rintro v σ' H' ⟨J,rv,q⟩;exact fin J rv q
 | next =>
  revert hs;apply u2;rintro σ' H' ⟨J,q⟩;exact fin (v:=V.non) (u:=de) J rfl q
 | brk =>
  revert hs;apply u2;rintro _ _ ⟨_,q⟩;exact iw q
 | cont =>
  revert hs;apply u2;rintro _ _ ⟨_,q⟩;exact iw q
end L2
namespace L2
section
variable{X:Cx}{x:Str}{p pos:Pos}{e:Expr}{es:List Expr}{t:TA}{id T:String}{r:List V->Hp->VK->Prop}
def C0(r:List V->Hp->VK->Prop)(t:TA):TE:=λσ H Q=>t σ H λvs H1=>r vs H1 Q
def DU(hc:FX X (.builtin id) r)(hg:Gl X x)(hm:X.mg x=none)(hv:oo x=some (.builtin id))(ha:PA X (e::es) t)(hn:x≠"__name__":=by decide)(hdb:(x ==("__debug__":Str))=false:=by decide)
  (he:af (e::es) X.env=(false,eval e X.env)::af es X.env:=by rfl) (CK:(gi pos (af es X.env)).any (·.1)=false:=by rfl):PE X (.Call (.Name x p) (e::es) [] pos) (C0 r t):=by
 intro AB s σ H Q I h;refine nu (NK I hg hm hv ?_ hn hdb);exact PyProof.Rows.callWith_builtin1 (A1 (ha pos AB s σ H _ I h) λus s1 ⟨vs,H1,I1,r1,q1⟩=>hc AB s1 σ H1 vs us Q I1 r1 q1) he CK
def JL(hc:FX X (.type T) r)(hg:Gl X x)(hm:X.mg x=none)(hv:oo x=some (.type T))(ha:PA X (e::es) t)(hn:x≠"__name__":=by decide)(hdb:(x ==("__debug__":Str))=false:=by decide)
  (he:af (e::es) X.env=(false,eval e X.env)::af es X.env:=by rfl) (CK:(gi pos (af es X.env)).any (·.1)=false:=by rfl):PE X (.Call (.Name x p) (e::es) [] pos) (C0 r t):=by
 intro AB s σ H Q I h;refine nu (NK I hg hm hv ?_ hn hdb);exact im (A1 (ha pos AB s σ H _ I h) λus s1 ⟨vs,H1,I1,r1,q1⟩=>hc AB s1 σ H1 vs us Q I1 r1 q1) he CK
end
end L2
namespace HT
open PySem PyProof.Rows
section
open PySem.SeqAt
open PySem.AutoSeq1 (wpAny_loadPart')
open PySem.MeetsSeq PySem.MeetsSeq2 PySem.MeetsSeq3
end
section
variable{prog:au}{w:World}{A:bg}{E:Value->ε->Prop}{s:ε}
def cat_tup{t b:Addr}{vs ws:List Value}{Q:Value->ε->Prop}(ht:IsTup s.heap t vs.toArray)(hb:IsTup s.heap b ws.toArray)(hv:vs≠[])
  (h1:ws=[]->Q (.ref t) s) (h2:ws≠[]->Q (.ref s.heap.objs.size) { s with heap:=s.heap.push { cls:=.type "tuple",data:=.seq (vs++ws).toArray } })
  (hsz:vs.length+ws.length<=sizeLine):wpAny (model prog w) A (fv .Add (.ref t) (.ref b)) Q E s:=by
 obtain⟨⟨cls,dd,data,sl⟩,ho,hc,n,hd⟩:=id ht;obtain⟨⟨cls2,dd2,data2,sl2⟩,ho2,hc2,n2,hd2⟩:=id hb;simp only at hc hd hc2 hd2;subst hc hd hc2 hd2
 have e:vs.toArray++ws.toArray=(vs++ws).toArray:=by simp
 by_cases hw:ws=[]
 ·exact Aa ⟨_,ho,rfl⟩ ⟨_,ho2,rfl⟩ wl yx PySem.F.slot_tuple_add PySem.F.entry_tuple_add (PySem.F.args_tuple_add_2 _ _)
   (tuple_addW1 t b vs.toArray ws.toArray n n2 dd dd2 sl sl2 (by simpa using hv) (by simp[hw])) ⟨ho,ho2,h1 hw⟩
 ·refine Aa ⟨_,ho,rfl⟩ ⟨_,ho2,rfl⟩ wl yx PySem.F.slot_tuple_add PySem.F.entry_tuple_add (PySem.F.args_tuple_add_2 _ _)
   (tuple_addW2 t b vs.toArray ws.toArray n n2 dd dd2 sl sl2 (by simpa using hv) (by simpa using hw) (by rw[aa,aa];exact hsz)) ⟨ho,ho2,?_⟩
  rw[e];exact h2 hw
def sIx(n d:Nat):Option Int->Nat
 | none=>d
 | some v=>if v<0 then(v+(n:Int)).toNat else min v.toNat n
def sIx_none(n d:Nat):sIx n d none=d:=rfl
def Lq(n d:Nat)(hd:d<=n)(o:Option Int):sIx n d o<=n:=by
 cases o with
 | none=>exact hd
 | some v =>
  show(if v<0 then(v+(n:Int)).toNat else min v.toNat n)<=n;by_cases hv:v<0
  ·rw[if_pos hv];omega
  ·rw[if_neg hv];exact Di _ _
def jO(v:Int)(n d:Nat):(if v<0 then max (v+(n:Int)) 0 else min v (n:Int))=((sIx n d (some v):Nat):Int):=by
 show(if v<0 then max (v+(n:Int)) 0 else min v (n:Int))=(((if v<0 then(v+(n:Int)).toNat else min v.toNat n):Nat):Int);by_cases hv:v<0
 ·simp only[if_pos hv];omega
 ·simp only[if_neg hv];omega
def Lv(lo hi:Option Int)(n:Nat):ma lo hi 1 (n:Int)=(((sIx n 0 lo:Nat):Int),((sIx n n hi:Nat):Int)):=by
 have h1:¬ ((1:Int)<0):=by decide
 unfold ma;simp only[h1,if_false];refine Prod.ext ?_ ?_
 ·cases lo with
  | none=>rfl
  | some v=>exact jO v n 0
 ·cases hi with
  | none=>rfl
  | some v=>exact jO v n n
def Lw(i j:Nat):jd (i:Int) (j:Int) 1=j - i:=by
 unfold jd
 have h1:(1:Int) > 0:=by decide
 simp only[h1,if_true,Int.ediv_one];split<;>omega
def jP{v:Value}{o:Option Int}{Q:Option Int->ε->Prop}(p:x_ v o)(h:Q o s):wpAny (model prog w) A (Fn v) Q E s:=by
 cases p with
 | none=>exact slicePart_none h
 | int i t=>exact slicePart_int h
def Lx{sl:Addr}{vl vu:Value}{lo hi:Option Int}{n:Nat}{Q:Int × Int × Nat->ε->Prop}(hs:s.heap.IsSliceOf sl vl vu .none)(pl:x_ vl lo)(pu:x_ vu hi)
  (h:Q (((sIx n 0 lo:Nat):Int),1,sIx n n hi - sIx n 0 lo) s):wpAny (model prog w) A (uv (.ref sl) (pure (n:Int))) Q E s:=by
 obtain⟨os,hos,hcs,hds⟩:=id hs;unfold uv Ig;refine δ (δ (gy hos hds (x:=vl) rfl (δ (gy hos hds (x:=vu) rfl (δ (gy hos hds (x:=.none) rfl (μ ?_)))))));refine δ (slicePart_none ?_)
 show wpAny _ _ (if((1:Int) == 0)=true then _ else _) _ _ s;rw[if_neg (by decide)];refine δ (jP pl (δ (jP pu (δ (μ ?_)))))
 show wpAny _ _ (match ma lo hi 1 (n:Int)with | (lo,hi)=>pure (lo,(1:Int),jd lo hi 1)) _ _ s;rw[Lv lo hi n]
 show wpAny _ _ (pure (((sIx n 0 lo:Nat):Int),(1:Int),jd ((sIx n 0 lo:Nat):Int) ((sIx n n hi:Nat):Int) 1)) _ _ s;rw[Lw];exact μ h
def Ly(xs:Array Value)(i k:Nat):((ag k).filterMap λ(m:Nat)=>xs[((i:Int)+(m:Int) * 1).toNat]?).toArray=((xs.toList.drop i).take k).toArray:=by
 have e:(λ(m:Nat)=>xs[((i:Int)+(m:Int) * 1).toNat]?)=λm=>xs[i+m]? :=by
  funext m
  have:((i:Int)+(m:Int) * 1).toNat=i+m:=by omega
  rw[this]
 rw[e]
 have:=pick_run xs i k;rw[List.filterMap_map]at this
 have e2:((λx=>xs[x]?) ∘ λx=>i+x)=λm=>xs[i+m]? :=rfl;rw[e2]at this;rw[this]
def getItem_tuple_cut{t sl:Addr}{items:Array Value}{vl vu:Value}{lo hi:Option Int}{Q:Value->ε->Prop}(ht:IsTup s.heap t items)(hs:s.heap.IsSliceOf sl vl vu .none)(pl:x_ vl lo)(pu:x_ vu hi)
  (hw:¬ (sIx items.size 0 lo=0/\sIx items.size items.size hi=items.size))
  (h:Q (.ref s.heap.objs.size) { s with heap:=s.heap.push { cls:=.type "tuple",data:=.seq ((items.toList.drop (sIx items.size 0 lo)).take (sIx items.size items.size hi - sIx items.size 0 lo)).toArray } })
  (hsz:items.size<=sizeLine):wpAny (model prog w) A (w_ (.ref t) (.ref sl)) Q E s:=by
 have htake:sizeOk (.seq ((items.toList.drop (sIx items.size 0 lo)).take (sIx items.size items.size hi - sIx items.size 0 lo)).toArray):=by
  show((items.toList.drop (sIx items.size 0 lo)).take (sIx items.size items.size hi - sIx items.size 0 lo)).toArray.size<=sizeLine;rw[aa,dk,io,br];omega
 have hj:sIx items.size items.size hi<=items.size:=Lq _ _ (ξ _) hi;obtain⟨os,hos,hcs,hds⟩:=id hs
 have hTs:s.TypeIs (.ref sl) "slice":=⟨os,hos,hcs⟩
 unfold w_
 try with_reducible refine d_ ?_
 first | refine δ (μ ?_) | skip
 refine δ (wpAny_sequenceKey ht.typeIs (by decide) ?_);refine δ (df (name:=bd "__getitem__") ht.typeIs ie
  (dm ie ht.typeIs entry_tuple_getitem ?_ (args_tuple_getitem _ _)))
 show wpAny _ _ (G_ (.ref t) >>= _) _ _ s;refine δ (tupleItemsOf_ ht ?_);refine δ (Ae hTs ?_);rw[if_pos (by decide)];refine δ (Lx hs pl pu ?_)
 have hno:¬ ((((sIx items.size 0 lo:Nat):Int) == 0 && (1:Int) == 1 && (sIx items.size items.size hi - sIx items.size 0 lo) == items.size)=true):=by
  intro q;rw[dg,dg]at q
  have q1:((sIx items.size 0 lo:Nat):Int)=0:=eq_of_beq q.1.1
  have q2:sIx items.size items.size hi - sIx items.size 0 lo=items.size:=eq_of_beq q.2;exact hw ⟨bc q1,by omega⟩
 show wpAny _ _ (if(((sIx items.size 0 lo:Nat):Int) == 0 && (1:Int) == 1 && (sIx items.size items.size hi - sIx items.size 0 lo) == items.size)=true then _ else _) _ _ s;rw[if_neg hno,Ly]
 first
  | exact δ (m:=jq _) (ce (μ ⟨_,rfl,μ h⟩) htake)
  | exact δ (m:=jq _) (ce (δ (μ (μ ⟨_,rfl,μ h⟩))) htake)
  | exact δ (δ (m:=jq _) (ce (μ (μ ⟨_,rfl,μ h⟩)) htake))
  | exact δ (δ (m:=jq _) (ce (μ ⟨_,rfl,μ h⟩) htake))
end
end HT
namespace L2
abbrev TO:=St->Hp->(Option Int->Hp->Prop)->Prop
def PO(X:Cx)(e:Option Expr)(t:TO):Prop :=
 ∀ (AB:List (Addr × Obj)) (s:ε) (σ:St) (H:Hp) (Q:Option Int->Hp->Prop),Inv X AB σ H s->t σ H Q ->
  wpAny (model X.prog X.w) X.A (evalPart e X.env) (λu s'=>∃ o H',Inv X AB σ H' s'/\x_ u o/\Q o H') X.xe s
def JM:TO:=λ_ H Q=>Q none H
def R7(t:TE):TO:=λσ H Q=>t σ H λx H1=>∃ i,x=.int i/\Q (some i) H1
section
variable{X:Cx}{e:Expr}{te:TE}{lo hi:Option Expr}{tl th:TO}{pos p2:Pos}
def LH:PO X none JM:=by
 intro AB s σ H Q I h;rw[evalPart_none];exact μ (x2 none H ⟨I,.none,h⟩)
def LI(h:PE X e te):PO X (some e) (R7 te):=by
 intro AB s σ H Q I hw;rw[evalPart_some];refine A1 (h AB s σ H _ I hw) λu s1 hzz=> ?_;obtain⟨x,H1,I1,r1,q1⟩:=hzz;obtain⟨i,rfl,q⟩:=q1;obtain⟨t,rfl⟩:=r1;exact x2 (some i) H1 ⟨I1,.int i t,q⟩
def SlR(X:Cx)(r:V->Option Int->Option Int->Hp->VK->Prop):Prop :=
 ∀ (AB:List (Addr × Obj)) (s:ε) (σ:St) (H:Hp) (x:V) (v vl vu:Value) (lo hi:Option Int) (sl:Addr) (Q:VK),Inv X AB σ H s->RelV x v->s.heap.IsSliceOf sl vl vu .none->x_ vl lo->x_ vu hi->r x lo hi H Q ->
  ∃ T id,Ha (.type T) "__getitem__"=pure (some (.builtin id))/\s.TypeIs v T/\wpAny (model X.prog X.w) X.A (w_ v (.ref sl)) (EP X AB σ Q) X.xe s
def SlR.or{r r':V->Option Int->Option Int->Hp->VK->Prop}(h:SlR X r)(h':SlR X r'):SlR X (λx lo hi H Q=>r x lo hi H Q\/r' x lo hi H Q):=by
 intro AB s σ H x v vl vu lo hi sl Q I rx hs pl pu q;rcases q with q | q
 ·exact h AB s σ H x v vl vu lo hi sl Q I rx hs pl pu q
 ·exact h' AB s σ H x v vl vu lo hi sl Q I rx hs pl pu q
def JN(r:V->Option Int->Option Int->Hp->VK->Prop)(te:TE)(tl th:TO):TE:=λσ H Q=>te σ H λx H1=>tl σ H1 λl H2=>th σ H2 λu H3=>r x l u H3 Q
def LJ{r:V->Option Int->Option Int->Hp->VK->Prop}(hr:SlR X r)(he:PE X e te)(hl:PO X lo tl)(hu:PO X hi th):PE X (.Subscript e (.Slice lo hi none p2) pos) (JN r te tl th):=by
 intro AB s σ H Q I h;refine He (A1 (he AB s σ H _ I h) λv s1 hzz=> ?_);obtain⟨x,H1,I1,r1,q1⟩:=hzz;refine wpAny_Slice (A1 (hl AB s1 σ H1 _ I1 q1) λvl s2 ⟨l,H2,I2,pl,q2⟩=>A1 (hu AB s2 σ H2 _ I2 q2) λvu s3 hzz=> ?_);obtain⟨u,H3,I3,pu,q3⟩:=hzz;rw[evalPart_none];refine μ ?_
 have I4:Inv X AB σ H3 { s3 with heap:=s3.heap.push { cls:=.type "slice",data:=.fields #[vl,vu,.none] } }:=I3.kept (t':=s3.toks) λb ob q=>θ _ q;refine u2 ?_ (hr AB { s3 with heap:=s3.heap.push { cls:=.type "slice",data:=.fields #[vl,vu,.none] } } σ H3 x v vl vu l u s3.heap.objs.size Q I4 r1 (Kf ..) pl pu q3);rintro T id ⟨hT,ht,hg⟩
 show wpAny (model X.prog X.w) X.A (yy e (.Slice lo hi none p2) v (.ref s3.heap.objs.size)) (EP X AB σ Q) X.xe { s3 with heap:=s3.heap.push { cls:=.type "slice",data:=.fields #[vl,vu,.none] } };exact tail_any (ops:=[.ref s3.heap.objs.size,v]) ht hT hg (by with_unfolding_all rfl)
def EY(xs:List V)(lo hi:Option Int):List V:=(xs.drop (HT.sIx xs.length 0 lo)).take (HT.sIx xs.length xs.length hi - HT.sIx xs.length 0 lo)
def jQ(xs:List V)(lo hi:Option Int):(EY xs lo hi).length<=xs.length:=by
 unfold EY;rw[dk,io];omega
def jR(K:η):V->Option Int->Option Int->Hp->VK->Prop:=λx lo hi H Q=>∃ a xs,x=.ref a/\SqT K H a xs /\
 ¬ (HT.sIx xs.length 0 lo=0/\HT.sIx xs.length xs.length hi=xs.length)/\∀ p,H p=none->Q (.ref p) (upd H p (.tup (EY xs lo hi)))
def Lz:SlR X (jR X.K):=by
 intro AB s σ H x v vl vu lo hi sl Q I rx hs pl pu h;revert h;apply u2;rintro a xs ⟨rfl,hx,hw,q⟩;cases rx;obtain⟨its,r,ht,hz⟩:=I.tuple hx
 have B8:its.toArray.size=xs.length:=by rw[aa];exact r.length.symm
 refine x2 "tuple" _ ⟨ie.lookup,ht.typeIs,?_⟩;refine HT.getItem_tuple_cut ht hs pl pu (by rw[B8];exact hw) ?_ (by rw[B8];exact hz);rw[B8];refine x2 (.ref s.heap.objs.size) _ ⟨I.laid (t':=s.toks) (o:=.tup (EY xs lo hi)) (λb ob q=>θ _ q) (ξ _) ?_,rfl,q _ (I.hok.fresh (ξ _))⟩;exact⟨υ (jQ xs lo hi) hz,_,(r.drop (HT.sIx xs.length 0 lo)).take (HT.sIx xs.length xs.length hi - HT.sIx xs.length 0 lo),Cu _ _⟩
def V5(K:η):R2:=λx y H Q=>∃ a b xs ys,x=.ref a/\y=.ref b/\SqT K H a xs/\SqT K H b ys/\xs≠[]/\xs.length+ys.length<=sizeLine /\
 (ys=[]->Q (.ref a) H)/\(ys≠[]->∀ p,H p=none->Q (.ref p) (upd H p (.tup (xs++ys))))
def Vals.nil_iff{xs:List V}{us:List Value}(r:Vals xs us):us=[]↔xs=[]:=by
 cases r with
 | nil=>simp
 | cons _ _=>simp
def Mb:CI X (fv .Add) (V5 X.K):=by
 intro AB s σ H x y v u Q I rx ry h;revert h;apply u4;rintro a b xs ys ⟨rfl,rfl,ha,hb,hx,hz,q1,q2⟩;cases rx;cases ry;obtain⟨its,r1,p1,_⟩:=I.tuple ha;obtain⟨RC,r2,p2,_⟩:=I.tuple hb;refine HT.cat_tup p1 p2 (λz=>hx (r1.nil_iff.mp z)) (λz=>x2 (.ref a) H ⟨I,rfl,q1 (r2.nil_iff.mp z)⟩) (λz=> ?_) (by rw[<-r1.length,<-r2.length];exact hz);refine x2 (.ref s.heap.objs.size) _ ⟨I.laid (t':=s.toks) (o:=.tup (xs++ys)) (λb ob q=>θ _ q) (ξ _) ?_,rfl,q2 (λw=>z (r2.nil_iff.mpr w)) _ (I.hok.fresh (ξ _))⟩;exact⟨by rw[aj];exact hz,_,r1.append r2,Cu _ _⟩
end
end L2
namespace L2
def JO(n:Nat)(i:Int):Option Nat:=if 0<=i then(if i<n then some i.toNat else none)else if -(n:Int)<=i then some (i+n).toNat else none
def MI{α :Type}(xs:List α)(i:Int):Option α :=(JO xs.length i).bind λj=>xs[j]?
def jS{n:Nat}{i:Int}{j:Nat}(h:JO n i=some j):seqIndex? i n=some j/\j<n/\ -(n:Int)<=i/\i<n:=by
 unfold JO at h;by_cases h0:0<=i
 ·rw[if_pos h0]at h;by_cases h1:i<n
  ·rw[if_pos h1]at h
   have e:i.toNat=j:=cm h;exact⟨by rw[Fe h0 h1,e],by omega,by omega,h1⟩
  ·rw[if_neg h1]at h;cases h
 ·rw[if_neg h0]at h;by_cases h1: -(n:Int)<=i
  ·rw[if_pos h1]at h
   have e:(i+n).toNat=j:=cm h;exact⟨by rw[Af (by omega) h1,e],by omega,h1,by omega⟩
  ·rw[if_neg h1]at h;cases h
def V6{α :Type}{xs:List α}{i:Int}{v: α}(h:MI xs i=some v):∃ j,seqIndex? i xs.length=some j/\xs[j]? =some v/\j<xs.length/\ -(xs.length:Int)<=i/\i<xs.length:=by
 unfold MI at h;cases e:JO xs.length i with
 | none=>rw[e]at h;cases h
 | some j =>
  rw[e]at h;obtain⟨h1,h2,h3,h4⟩:=jS e;exact⟨j,h1,h,h2,h3,h4⟩
def R8{α :Type}{xs:List α}{j:Nat}{v: α}(h:xs[j]? =some v):MI xs (j:Int)=some v:=by
 have hj:j<xs.length:=(ι.mp h).1
 have e:JO xs.length (j:Int)=some j:=by
  unfold JO;rw[if_pos (by exact i0),if_pos (by exact bv.mpr hj)];simp
 unfold MI;rw[e];exact h
def Mc(b:Expr):Prop:=∀ o i,ya b false o i=operate [o,i] (w_ o i)
def IxR(X:Cx)(r:R2):Prop :=
 ∀ (value slice:Expr) (AB:List (Addr × Obj)) (s:ε) (σ:St) (H:Hp) (x y:V) (v u:Value) (Q:VK),Inv X AB σ H s->RelV x v->RelV y u->r x y H Q ->
  ya slice false v u=operate [v,u] (w_ v u)->wpAny (model X.prog X.w) X.A (yy value slice v u) (EP X AB σ Q) X.xe s
def R9(X:Cx)(id:String)(r:V->List V->Hp->VK->Prop):Prop :=
 ∀ (AB:List (Addr × Obj)) (s:ε) (σ:St) (H:Hp) (x:V) (xs:List V) (v:Value) (us:List Value) (Q:VK),Inv X AB σ H s->RelV x v->Vals xs us->r x xs H Q ->
  wpAny (model X.prog X.w) X.A (call (.builtin id) (v::us)) (EP X AB σ Q) X.xe s
section
variable{X:Cx}{a b:Expr}{ta tb:TE}{pos:Pos}
def IxR.or{r r':R2}(h:IxR X r)(h':IxR X r'):IxR X (λx y H Q=>r x y H Q\/r' x y H Q):=by
 intro value slice AB s σ H x y v u Q I rx ry q hs;rcases q with q | q
 ·exact h value slice AB s σ H x y v u Q I rx ry q hs
 ·exact h' value slice AB s σ H x y v u Q I rx ry q hs
def BP{r:R2}(hr:IxR X r)(ha:PE X a ta)(hb:PE X b tb)(hs:Mc b):PE X (.Subscript a b pos) (AG r ta tb):=by
 intro AB s σ H Q I h;exact He (VZ ha hb I h λv u s2 x y H2 I2 rx ry q=>hr a b AB s2 σ H2 x y v u Q I2 rx ry q (hs _ _))
def jT(K:η):R2:=λx y H Q=>∃ p xs i v,x=.ref p/\y=.int i/\SqL K H p xs/\MI xs i=some v/\Q v H
def jU(K:η):R2:=λx y H Q=>∃ p xs i v,x=.ref p/\y=.int i/\SqT K H p xs/\MI xs i=some v/\Q v H
def jV:R2:=λx y H Q=>∃ z i c,x=.str z/\y=.int i/\z.length<=sizeLine/\MI z.cps.toList i=some c/\Q (.str ⟨#[c]⟩) H
def Mg:IxR X (jT X.K):=by
 intro value slice AB s σ H x y v u Q I rx ry h hs;revert h;apply u4;rintro p xs i z ⟨rfl,rfl,hq,he,q⟩;cases rx;obtain⟨t,rfl⟩:=ry;obtain⟨its,r,pl,hz⟩:=I.list hq;obtain⟨j,h1,h2,h3,h4,h5⟩:=V6 he;obtain⟨w,ew,rw'⟩:=r.get h2
 have hl:=r.length
 have hn:=NQ
 have fin:EP X AB σ Q w s:=x2 z H ⟨I,rw',q⟩;by_cases h0:0<=i
 ·have hj:i.toNat=j:=by
   rw[Fe h0 h5]at h1;exact cm h1
  exact item_listR pl.isList h0 (by omega) (by rw[hj];simpa using ew) fin hs
 ·have hj:(i+(its.toArray.size:Int)).toNat=j:=by
   rw[Af (by omega) h4]at h1;rw[aa,<-hl];exact cm h1
  exact xa (x:=w) pl.isList.typeIs Ai.lookup
   (wpAny_getItem_list_neg (Q:=λr s'=>r=w/\EP X AB σ Q r s') pl.isList (by omega) (by rw[aa]<;>exact hl ▸ h4) (by omega) (by rw[hj];simpa using ew) ⟨rfl,fin⟩) hs
def Mh:IxR X (jU X.K):=by
 intro value slice AB s σ H x y v u Q I rx ry h hs;revert h;apply u4;rintro p xs i z ⟨rfl,rfl,hq,he,q⟩;cases rx;obtain⟨t,rfl⟩:=ry;obtain⟨its,r,pl,hz⟩:=I.tuple hq;obtain⟨j,h1,h2,h3,h4,h5⟩:=V6 he;obtain⟨w,ew,rw'⟩:=r.get h2
 have hl:=r.length
 have hn:=NQ
 have fin:EP X AB σ Q w s:=x2 z H ⟨I,rw',q⟩;exact xa (x:=w) pl.typeIs ie.lookup
  (getItem_tuple (j:=j) (Q:=λr s'=>r=w/\EP X AB σ Q r s') pl (by omega) (by omega) (by rw[aa,<-hl];exact h1) (by simpa using ew) ⟨rfl,fin⟩) hs
def Mj:IxR X jV:=by
 intro value slice AB s σ H x y v u Q I rx ry h hs;revert h;apply u3;rintro z i c ⟨rfl,rfl,hz,he,q⟩;obtain⟨t,rfl⟩:=rx;obtain⟨t',rfl⟩:=ry;obtain⟨j,h1,h2,h3,h4,h5⟩:=V6 he
 have hl:z.cps.toList.length=z.length:=by simp[xb]
 rw[hl]at h1 h4 h5
 have hn:=NQ;exact tail_any (Hf s z t) slot_str_getitem.lookup (getItem_str (c:=c) (by
  have e1:decide (i< -(2 ^ 63:Int))=false:=decide_eq_false (by omega)
  have e2:decide (i ≥ 2 ^ 63)=false:=decide_eq_false (by omega);rw[e1,e2,dt]) (by rw[h1];simpa using h2) (x2 (.str ⟨#[c]⟩) H ⟨I.tok _,⟨_,rfl⟩,q⟩)) hs
def jW(K:η):R2:=λx y H Q=>jT K x y H Q\/jU K x y H Q\/jV x y H Q
def Ml:IxR X (jW X.K):=Mg.or (Mh.or Mj)
def Mm(its:List Value)(n j:Nat)(u:Value):jr (·.setIfInBounds j u) { cls:=.type "list",data:=.seq its.toArray n }={ cls:=.type "list",data:=.seq (its.set j u).toArray n }:=by
 simp[jr]
def Inv.lst{AB:List (Addr × Obj)}{σ:St}{H:Hp}{s:ε}{p:Addr}{xs:List V}(I:Inv X AB σ H s)(h:H p=some (.lst xs)) :
  ∃ (its:List Value) (n:Nat),Vals xs its/\s.heap.get? p=some { cls:=.type "list",data:=.seq its.toArray n }/\xs.length<=sizeLine:=by
 obtain⟨z,its,n,r,e⟩:=I.hok p _ h;exact x2 its n ⟨r,e,z⟩
def Inv.lstUpd{AB:List (Addr × Obj)}{σ:St}{H:Hp}{s:ε}{p:Addr}{xs ys:List V}{its its':List Value}{n n':Nat}{f:Obj->Obj}(I:Inv X AB σ H s)(h:H p=some (.lst xs))
  (ho:s.heap.get? p=some { cls:=.type "list",data:=.seq its.toArray n }) (hf:f { cls:=.type "list",data:=.seq its.toArray n }={ cls:=.type "list",data:=.seq its'.toArray n' }) (r:Vals ys its') (hz:ys.length<=sizeLine) (t:Nat) :
  Inv X AB σ (upd H p (.lst ys)) { s with heap:=s.heap.update p f,toks:=t }:=by
 have e:(s.heap.update p f).get? p=some { cls:=.type "list",data:=.seq its'.toArray n' }:=by
  rw[fz f ho (by rw[hf]<;>rfl),hf]
 refine I.write (x:=p) (e:=p) (by rw[h];trivial) (.inl rfl) (λb u hb q=>(ca _ _ (di hb)).trans q) ⟨_,e⟩ ?_;exact⟨hz,x2 its' n' ⟨r,e⟩⟩
def jX:V->V->V->Hp->(Hp->Prop)->Prop:=λo i v H Q=>∃ p xs k j,o=.ref p/\i=.int k/\H p=some (.lst xs)/\JO xs.length k=some j/\Q (upd H p (.lst (xs.set j v)))
def Mp:VW X jX:=by
 intro AB s σ H o i v ov iv u Q I ro ri rv h;revert h;apply u4;rintro p xs k j ⟨rfl,rfl,hp,hj,q⟩;cases ro;obtain⟨t,rfl⟩:=ri;refine u2 ?_ (I.lst hp);rintro its n ⟨r,ho,hz⟩;obtain⟨h1,h2,h3,h4⟩:=jS hj
 have hl:=r.length
 have hn:=NQ
 have I':Inv X AB σ (upd H p (.lst (xs.set j v))) { s with heap:=s.heap.update p (jr (·.setIfInBounds j u)) } :=
  I.lstUpd hp ho (Mm its n j u) (r.set rv j) (by rw[fq];exact hz) s.toks
 by_cases h0:0<=k
 ·have hk:k.toNat=j:=by
   rw[Fe h0 h4]at h1;exact cm h1
  exact W.ki_setAt ho h0 (by omega) (by rw[aa,<-hl];exact h4) (by rw[hk];exact⟨_,I',q⟩)
 ·have hk:(k+(its.toArray.size:Int)).toNat=j:=by
   rw[Af (by omega) h3]at h1;rw[aa,<-hl];exact cm h1
  exact W.ki_setBack ho (by omega) (by rw[aa,<-hl];exact h3) (by omega) (by rw[hk];exact⟨_,I',q⟩)
def Mq(lo hi:Option Int)(n:Nat):(oa lo hi none n).1=((HT.sIx n 0 lo:Nat):Int)/\(oa lo hi none n).2.1=((HT.sIx n n hi:Nat):Int)/\(oa lo hi none n).2.2=1:=by
 refine⟨?_,?_,rfl⟩
 ·cases lo with
  | none=>simp[oa,HT.sIx]
  | some i =>
   simp only[oa,HT.sIx,Do,show(1:Int) > 0 by decide,if_true];by_cases h:i<0
   ·simp only[h,if_true]<;>omega
   ·simp only[h,if_false]<;>omega
 ·cases hi with
  | none=>simp[oa,HT.sIx]
  | some i =>
   simp only[oa,HT.sIx,Do,show(1:Int) > 0 by decide,if_true];by_cases h:i<0
   ·simp only[h,if_true]<;>omega
   ·simp only[h,if_false]<;>omega
def Mv(its:List Value)(lo hi:Option Int):slicePick its.toArray lo hi none=((its.drop (HT.sIx its.length 0 lo)).take (HT.sIx its.length its.length hi - HT.sIx its.length 0 lo)).toArray:=by
 obtain⟨h1,h2,h3⟩:=Mq lo hi its.toArray.size;unfold slicePick;rw[h1,h2,h3];simp only[sliceRange_one,pick_run,aa]<;>rfl
def jY(K:η):V->Option Int->Option Int->Hp->VK->Prop:=λx lo hi H Q=>∃ a xs,x=.ref a/\SqL K H a xs/\∀ p,H p=none->Q (.ref p) (upd H p (.lst (EY xs lo hi)))
def Mw:SlR X (jY X.K):=by
 intro AB s σ H x v vl vu lo hi sl Q I rx hs pl pu h;revert h;apply u2;rintro a xs ⟨rfl,hx,q⟩;cases rx;obtain⟨its,r,ht,hz⟩:=I.list hx
 have B8:=r.length;refine x2 "list" _ ⟨Ai.lookup,ht.isList.typeIs,?_⟩;refine wpAny_getItem_list_slice ht.isList hs pl pu .none (by simp) ?_ (by rw[aa]<;>exact B8 ▸ hz);rw[Mv,<-B8];refine x2 (.ref s.heap.objs.size) _ ⟨I.laid (t':=s.toks) (o:=.lst (EY xs lo hi)) (λb ob q=>θ _ q) (ξ _) ?_,rfl,q _ (I.hok.fresh (ξ _))⟩;exact⟨υ (jQ xs lo hi) hz,x2 _ 0 ⟨(r.drop (HT.sIx xs.length 0 lo)).take (HT.sIx xs.length xs.length hi - HT.sIx xs.length 0 lo),ae _ rfl⟩⟩
def HS:V->Bool
 | .non=>true
 | .bl _=>true
 | .int _=>true
 | .str _=>true
 | _=>false
def IQ:V->V->Bool
 | .non,.non=>true
 | .bl a,.bl b=>a == b
 | .bl a,.int b=>(if a then 1 else 0) == b
 | .int a,.bl b=>a ==(if b then 1 else 0)
 | .int a,.int b=>a == b
 | .str a,.str b=>a == b
 | _,_=>false
def Mx{A:bg}{s:ε}{y x:V}{u v:Value}(ry:RelV y u)(rx:RelV x v)(fy:HS y=true)(fx:HS x=true):Ki A s u v (IQ y x):=by
 cases y with
 | non =>
  cases ry;cases x with
  | non=>cases rx;exact SeqAt.EqAt.same _
  | bl b=>cases rx;exact SeqAt.EqAt.none_bool b
  | int b=>obtain⟨t,rfl⟩:=rx;exact SeqAt.EqAt.none_int b t
  | str b=>obtain⟨t,rfl⟩:=rx;exact SeqAt.EqAt.none_str b t
  | _=>exact absurd (show false=true from fx) ψ
 | bl a =>
  cases ry;cases x with
  | non=>cases rx;exact SeqAt.EqAt.bool_none a
  | bl b=>cases rx;exact SeqAt.EqAt.bool_bool a b
  | int b=>obtain⟨t,rfl⟩:=rx;exact SeqAt.EqAt.bool_int a b t
  | str b=>obtain⟨t,rfl⟩:=rx;exact SeqAt.EqAt.bool_str a b t
  | _=>exact absurd (show false=true from fx) ψ
 | int a =>
  obtain⟨t',rfl⟩:=ry;cases x with
  | non=>cases rx;exact SeqAt.EqAt.int_none a t'
  | bl b=>cases rx;exact SeqAt.EqAt.int_bool a t' b
  | int b=>obtain⟨t,rfl⟩:=rx;exact SeqAt.EqAt.int_int a t' b t
  | str b=>obtain⟨t,rfl⟩:=rx;exact y_ a t' b t
  | _=>exact absurd (show false=true from fx) ψ
 | str a =>
  obtain⟨t',rfl⟩:=ry;cases x with
  | non=>cases rx;exact SeqAt.EqAt.str_none a t'
  | bl b=>cases rx;exact SeqAt.EqAt.str_bool a t' b
  | int b=>obtain⟨t,rfl⟩:=rx;exact za a t' b t
  | str b=>obtain⟨t,rfl⟩:=rx;exact SeqAt.EqAt.str_str a t' b t
  | _=>exact absurd (show false=true from fx) ψ
 | _=>exact absurd (show false=true from fy) ψ
def KJ(x:V)(u:Value):Bool:=match u with
 | .none=>IQ .non x
 | .bool b=>IQ (.bl b) x
 | .int i _=>IQ (.int i) x
 | .str z _=>IQ (.str z) x
 | _=>false
def jZ{x y:V}{u:Value}(r:RelV y u)(f:HS y=true):KJ x u=IQ y x:=by
 cases y with
 | non=>cases r;rfl
 | bl b=>cases r;rfl
 | int i=>obtain⟨t,rfl⟩:=r;rfl
 | str z=>obtain⟨t,rfl⟩:=r;rfl
 | _=>exact absurd (show false=true from f) ψ
def V7{x:V}:∀ {xs:List V} {us:List Value},Vals xs us->xs.all HS=true->us.any (KJ x)=xs.any λy=>IQ y x
 | _,_,.nil,_=>rfl
 | y::xs,u::us,.cons r t,f=>by
  rw[vw,dg]at f;rw[jt,jt,jZ r f.1,V7 t f.2]
def V8{A:bg}{s:ε}{x:V}{v:Value}(rx:RelV x v)(fx:HS x=true):∀ {xs:List V} {us:List Value},Vals xs us->xs.all HS=true->∀ u∈us,Ki A s u v (KJ x u)
 | _,_,.nil,_=>λu hu=>by cases hu
 | y::xs,u::us,.cons r t,f=>λu' hu=>by
  rw[vw,dg]at f;rcases ak.mp hu with rfl | hu
  ·rw[jZ r f.1];exact Mx r rx f.1 fx
  ·exact V8 rx fx t f.2 u' hu
def MJ(x:V)(xs:List V):Bool:=xs.any λy=>IQ y x
def j2(K:η)(neg:Bool):R2:=λx y H Q=>∃ p xs,y=.ref p/\(SqL K H p xs\/SqT K H p xs)/\HS x=true/\xs.all HS=true/\Q (.bl (if neg then !MJ x xs else MJ x xs)) H
def My:CI X (cw .In) (j2 X.K false):=by
 intro AB s σ H x y v u Q I rx ry h;revert h;apply u2;rintro p xs ⟨rfl,hq,fx,fs,q⟩;cases ry;rcases hq with hq | hq
 ·obtain⟨its,r,pl,hz⟩:=I.list hq;refine SeqAt.in_listAt (KJ x) pl.isList (λw hw=>V8 rx fx r fs w (by simpa using hw)) (x2 (.bl _) H ⟨I,rfl,?_⟩);rw[show its.toArray.any (KJ x)=its.any (KJ x) by simp,V7 r fs];exact q
 ·obtain⟨its,r,pl,hz⟩:=I.tuple hq;refine Dr (KJ x) pl (λw hw=>V8 rx fx r fs w (by simpa using hw)) (x2 (.bl _) H ⟨I,rfl,?_⟩);rw[show its.toArray.any (KJ x)=its.any (KJ x) by simp,V7 r fs];exact q
def Mz:FX X (.type "list") (λxs H Q=>∃ p ys,xs=[.ref p]/\(SqL X.K H p ys\/SqT X.K H p ys)/\∀ l,H l=none->Q (.ref l) (upd H l (.lst ys))):=by
 intro AB s σ H xs us Q I r h;revert h;apply u2;rintro p ys ⟨rfl,hq,q⟩;obtain⟨u,rfl,rx⟩:=KH r;cases rx
 have fin:∀ (its:List Value),Vals ys its->ys.length<=sizeLine->∀ (h':Heap) (c':Nat),(∀ b o',s.heap.get? b=some o'->h'.get? b=some o') ->
   h'.get? s.heap.objs.size=some { cls:=.type "list",dict:=none,data:=.seq its.toArray c',slots:= #[] }->EP X AB σ Q (.ref s.heap.objs.size) { s with heap:=h' }:=λits r' hz h' c' kp e =>
  ⟨.ref s.heap.objs.size,_,I.laid (t':=s.toks) kp (ξ _) (show ObjOk X.prog X.w _ h' _ (.lst ys)from⟨hz,x2 its c' ⟨r',e⟩⟩),rfl,q _ (I.hok.fresh (ξ _))⟩
 rcases hq with hq | hq
 ·obtain⟨its,r',pl,hz⟩:=I.list hq
  have B8:=r'.length;obtain⟨o,ho,hc,n,hd⟩:=pl.isList;exact call_list_seq p (.inl rfl) ho hc hd (λh' c' kp e=>fin its r' hz h' c' kp e) (by simp only[aa]<;>exact B8 ▸ hz)
 ·obtain⟨its,r',pl,hz⟩:=I.tuple hq
  have B8:=r'.length;obtain⟨o,ho,hc,n,hd⟩:=pl;exact call_list_seq p (.inr rfl) ho hc hd (λh' c' kp e=>fin its r' hz h' c' kp e) (by simp only[aa]<;>exact B8 ▸ hz)
def Nb:FX X (.type "tuple") (λxs H Q=>∃ p ys,xs=[.ref p]/\((SqL X.K H p ys/\∀ l,H l=none->Q (.ref l) (upd H l (.tup ys)))\/(SqT X.K H p ys/\Q (.ref p) H))):=by
 intro AB s σ H xs us Q I r h;revert h;apply u2;rintro p ys ⟨rfl,h⟩;obtain⟨u,rfl,rx⟩:=KH r;cases rx;rcases h with⟨hq,q⟩ | ⟨hq,q⟩
 ·obtain⟨its,r',pl,hz⟩:=I.list hq
  have B8:=r'.length;refine call_tuple_list pl.isList (λh' kp=> ?_) (by simp only[aa]<;>exact B8 ▸ hz)
  have I1:Inv X AB σ H { s with heap:=h' }:=I.kept (t':=s.toks) kp
  have I2:Inv X AB σ (upd H h'.objs.size (.tup ys)) { s with heap:=h'.push { cls:=.type "tuple",data:=.seq its.toArray } } :=
   I1.laid (t':=s.toks) (λb o e=>θ _ e) (ξ _) (show ObjOk X.prog X.w _ _ _ (.tup ys)from⟨hz,its,r',Cu _ _⟩)
  exact x2 (.ref h'.objs.size) _ ⟨I2,rfl,q _ (I1.hok.fresh (ξ _))⟩
 ·obtain⟨its,r',pl,hz⟩:=I.tuple hq;exact call_tuple_same pl (x2 (.ref p) H ⟨I,rfl,q⟩)
def O6(K:η)(T:String)(x:V)(H:Hp):Prop:=match x with
 | .str _=>T="str"
 | .int _=>T="int"
 | .ref p=>(T="list"/\∃ xs,SqL K H p xs)\/(T="tuple"/\∃ o,K.lookup p=some o/\o.cls=.type "tuple"/\o.dict=none) ∨
   (T="dict"/\((∃ AE,H p=some (.dK AE))\/∃ AE,H p=some (.dT AE)))\/(T="set"/\∃ S n,H p=some (.set S n))
 | _=>False
def j3{AB:List (Addr × Obj)}{σ:St}{H:Hp}{s:ε}{T:String}{x:V}{v:Value}(I:Inv X AB σ H s)(r:RelV x v)(ty:O6 X.K T x H) :
  s.TypeIs v T/\∀ a,v=.ref a->∃ ob,s.heap.get? a=some ob/\ob.dict=none:=by
 cases x with
 | str z =>
  obtain⟨t,rfl⟩:=r;cases (show T="str" from ty);exact⟨Hf s z t,λ_ e=>nomatch e⟩
 | int i =>
  obtain⟨t,rfl⟩:=r;cases (show T="int" from ty);exact⟨xc s i t,λ_ e=>nomatch e⟩
 | ref p =>
  cases r;rcases ty with⟨rfl,xs,hq⟩ | ⟨rfl,o,hk,hc,hd⟩ | ⟨rfl,hk⟩ | ⟨rfl,S,n,hk⟩
  ·obtain⟨its,_,pl,_⟩:=I.list hq;refine⟨pl.isList.typeIs,λa e=> ?_⟩;cases e;revert pl;apply u2;rintro o n ⟨e,c,hd,_⟩;exact⟨o,e,hd⟩
  ·refine⟨⟨o,I.kIn p o hk,hc⟩,λa e=> ?_⟩;cases e;exact⟨o,I.kIn _ o hk,hd⟩
  ·have z:∃ o,s.heap.get? p=some o/\o.ExactDict:=by
    rcases hk with⟨AE,hk⟩ | ⟨AE,hk⟩
    ·obtain⟨_,_,_,_,o,_,_,e,ex,_⟩:=I.hok p _ hk;exact⟨o,e,ex⟩
    ·obtain⟨_,_,_,_,o,_,_,e,ex,_⟩:=I.hok p _ hk;exact⟨o,e,ex⟩
   obtain⟨o,e,ex⟩:=z;refine⟨⟨o,e,ex.1⟩,λa e2=> ?_⟩;cases e2;exact⟨o,e,ex.2.1⟩
  ·refine u4 ?_ (I.hok p _ hk);rintro o _ _ _ ⟨e,ex,_⟩;refine⟨⟨o,e,ex.1⟩,λa e2=> ?_⟩;cases e2;exact⟨o,e,ex.2.1⟩
 | _=>exact iw ty
def V9(K:η)(T:String)(r:V->List V->Hp->VK->Prop)(to:TE):TE:=λσ H Q=>to σ H λx H1=>O6 K T x H1/\r x [] H1 Q
def GH(K:η)(T:String)(r:V->List V->Hp->VK->Prop)(to:TE)(t:TA):TE:=λσ H Q=>to σ H λx H1=>O6 K T x H1/\t σ H1 λxs H2=>r x xs H2 Q
variable{o e:Expr}{es:List Expr}{to:TE}{t:TA}{name:Str}{DJ D4:Pos}{T id:String}{r:V->List V->Hp->VK->Prop}
def Nd(pa:PlainAttrs T)(slot:Slot T name id)(hty:typeOf (.builtin id)=pure (.type "method_descriptor"))(hm:R9 X id r)(ho:PE X o to)
  (hbase:mv o name X.env (eval o X.env)=eval o X.env:=by rfl) (hline:(DJ.endLine == D4.line)=true:=by rfl):PE X (.Call (.Attribute o name DJ) [] [] D4) (V9 X.K T r to):=by
 intro AB s σ H Q I h;refine wpAny_Call_method0_late hbase hline (A1 (ho AB s σ H _ I h) λv s1 hzz=> ?_);obtain⟨x,H1,I1,r1,ty,q1⟩:=hzz;obtain⟨h1,h2⟩:=j3 I1 r1 ty;exact x2 T id ⟨pa,slot,hty,h1,h2,o_ rfl (PySem.evalArgs_none (hm AB s1 σ H1 x [] v [] Q I1 r1 .nil q1))⟩
def G0(pa:PlainAttrs T)(slot:Slot T name id)(hty:typeOf (.builtin id)=pure (.type "method_descriptor"))(hm:R9 X id r)(ho:PE X o to)(ha:PA X (e::es) t)
  (hbase:mv o name X.env (eval o X.env)=eval o X.env:=by rfl)
  (hfew:((gi D4 (af (e::es) X.env)).all (λx=> !x.1) && (sy D4 (ke [] X.env)).all (λx=>x.1.isSome)
   && decide ((e::es).length+([]:List yn).length+(if([]:List yn).isEmpty then 0 else 1)<30))=true:=by rfl)
  (hline:(DJ.endLine == D4.line)=true:=by rfl) (hs:af (e::es) X.env=(false,eval e X.env)::af es X.env:=by rfl) (hplain:(gi D4 (af es X.env)).any (·.1)=false:=by rfl) :
  PE X (.Call (.Attribute o name DJ) (e::es) [] D4) (GH X.K T r to t):=by
 intro AB s σ H Q I h;refine wpAny_Call_method_late hbase hfew hline rfl (A1 (ho AB s σ H _ I h) λv s1 hzz=> ?_);obtain⟨x,H1,I1,r1,ty,q1⟩:=hzz;obtain⟨h1,h2⟩:=j3 I1 r1 ty;refine x2 T id ⟨pa,slot,hty,h1,h2,?_⟩
 have hA:=ha D4 AB s1 σ H1 _ I1 q1;rw[hs]at hA ⊢;refine o_ (by show(false || (gi D4 (af es X.env)).any (·.1))=false;rw[hplain]<;>rfl) (s_ ?_);exact A1 hA λus s2 ⟨vs,H2,I2,r2,q2⟩=>hm AB s2 σ H2 x vs v us Q I2 r1 r2 q2
end
end L2
namespace L2
def WA(X:Cx)(id:String)(r:V->List V->Hp->VK->Prop):Prop :=
 ∀ (AB:List (Addr × Obj)) (s:ε) (σ:St) (H:Hp) (x:V) (xs:List V) (v:Value) (us:List Value) (Q:VK),Inv X AB σ H s->RelV x v->Vals xs us->r x xs H Q ->
  wpAny (model X.prog X.w) X.A (call (.builtin id) (v::us)) (EP X AB σ Q) X.xe s
def Vals.one:∀ {x:V} {us:List Value},Vals [x] us->∃ u,us=[u]/\RelV x u
 | _,_,.cons r .nil=>⟨_,rfl,r⟩
def Vals.two:∀ {x y:V} {us:List Value},Vals [x,y] us->∃ u v,us=[u,v]/\RelV x u/\RelV y v
 | _,_,_,.cons r (.cons q .nil)=>y2 ⟨rfl,r,q⟩
def Vals.zero:∀ {us:List Value},Vals [] us->us=[]
 | _,.nil=>rfl
def Vals.eraseIdx:∀ {xs:List V} {us:List Value} (i:Nat),Vals xs us->Vals (xs.eraseIdx i) (us.eraseIdx i)
 | _,_,_,.nil=>.nil
 | _,_,0,.cons _ t=>t
 | _,_,i+1,.cons r t=>.cons r (Vals.eraseIdx i t)
def Vals.rep{xs:List V}{us:List Value}(h:Vals xs us):∀ k:Nat,Vals (ah k xs).flatten (ah k us).flatten
 | 0=>.nil
 | k+1=>by
  rw[fo,fo,lg,lg];exact Vals.append h (Vals.rep h k)
def SB(its:List Value):∀ (k:Nat) (CY:List Value),
  xf (λx1 x2=>x1++x2) CY.toArray (ah k its.toArray)=(CY++(ah k its).flatten).toArray
 | 0,CY=>by simp
 | k+1,CY=>by
  have e:CY.toArray++its.toArray=(CY++its).toArray:=by simp
  have e2:(CY++its)++(ah k its).flatten=CY++(ah (k+1) its).flatten:=by
   rw[fo,lg,fi]
  rw[<-e2,<-SB its k (CY++its),<-e,fo,fe]
section
variable{X:Cx}{AB:List (Addr × Obj)}{σ:St}{H:Hp}{s:ε}{l b:Addr}{xs ys zs:List V}
def Inv.lset{its its':List Value}{n:Nat}{f:Array Value->Array Value}{t':Nat}(I:Inv X AB σ H s)(hH:H l=some (.lst xs))
  (e:s.heap.get? l=some { cls:=.type "list",data:=.seq its.toArray n }) (hf:f its.toArray=its'.toArray) (hv:Vals ys its') (hz:ys.length<=sizeLine) :
  Inv X AB σ (upd H l (.lst ys)) { s with heap:=s.heap.update l (jr f),toks:=t' }:=by
 have q:=PySem.IsL.update e f;rw[hf]at q;refine I.write (x:=l) (e:=l) (by rw[hH];exact trivial) (.inl rfl) (λb' u hb hu=>(ca s.heap (jr f) (di hb)).trans hu) ⟨_,q⟩ ?_;exact⟨hz,x2 its' _ ⟨hv,q⟩⟩
def Inv.lnew{its:List Value}{t':Nat}(I:Inv X AB σ H s)(hv:Vals ys its)(hz:ys.length<=sizeLine) :
  Inv X AB σ (upd H s.heap.objs.size (.lst ys)) { s with heap:=s.heap.push { cls:=.type "list",data:=.seq its.toArray },toks:=t' } :=
 I.laid (λ_ _ q=>θ _ q) (ξ _) ⟨hz,x2 its 0 ⟨hv,ae _ rfl⟩⟩
def Inv.fresh(I:Inv X AB σ H s):H s.heap.objs.size=none:=I.hok.fresh (ξ _)
def Inv.lstM(I:Inv X AB σ H s)(hH:H l=some (.lst xs)):xs.length<=sizeLine/\∃ (its:List Value) (n:Nat),Vals xs its/\xs.length=its.length/\s.heap.get? l=some { cls:=.type "list",data:=.seq its.toArray n }:=by
 obtain⟨z,its,n,r,e⟩:=I.hok l _ hH;exact⟨z,x2 its n ⟨r,r.length,e⟩⟩
def Ng{n:Nat}(h:n<=sizeLine):mw n=false:=by
 unfold mw;exact decide_eq_false (Nat.not_lt.mpr h)
end
section
variable{X:Cx}
def WB:V->List V->Hp->VK->Prop:=λx vs H Q=>∃ l xs y,x=.ref l/\vs=[y]/\H l=some (.lst xs)/\xs.length<sizeLine/\Q .non (upd H l (.lst (xs++[y])))
def Nh:WA X "list.append" WB:=by
 intro AB s σ H x vs v us Q I rx rv h;revert h;apply u3;rintro l xs y ⟨rfl,rfl,hH,hz,q⟩;cases rx;obtain⟨u,rfl,ru⟩:=rv.one;obtain⟨z,its,n,r,hl,e⟩:=I.lstM hH;refine nv zf ⟨_,e,rfl⟩ yr (yb _ _) (PySem.list_append l its.toArray n u (by rw[aa];exact oB (cz (bn hl.symm) hz) rfl)) ⟨e,?_⟩;refine x2 (.non) _ ⟨I.lset (its':=its++[u]) hH e (by simp) (r.append (.cons ru .nil)) ?_,rfl,q⟩;rw[aj,f_];exact hz
def j4:V->List V->Hp->VK->Prop:=λx vs H Q=>∃ l xs,x=.ref l/\vs=[]/\H l=some (.lst xs)/\Q .non (upd H l (.lst []))
def Nj:WA X "list.clear" j4:=by
 intro AB s σ H x vs v us Q I rx rv h;revert h;apply u2;rintro l xs ⟨rfl,rfl,hH,q⟩;cases rx
 have hus:=rv.zero;subst hus;obtain⟨z,its,n,r,hl,e⟩:=I.lstM hH;refine nv F.slot_list_clear ⟨_,e,rfl⟩ F.entry_list_clear (F.args_list_clear_1 _) (AutoSeq1.list_clear_list_0 l its.toArray n (by rw[aa];exact hl ▸ z)) ⟨e,?_⟩;exact x2 (.non) _ ⟨I.lset (its':=[]) (ys:=[]) hH e rfl .nil (a_ _),rfl,q⟩
def WC:R2:=λx y H Q=>∃ l b xs zs,x=.ref l/\y=.ref b/\H l=some (.lst xs)/\H b=some (.lst zs)/\xs.length+zs.length<=sizeLine/\∀ p,H p=none->Q (.ref p) (upd H p (.lst (xs++zs)))
def Nk:CI X (fv .Add) WC:=by
 intro AB s σ H x y v u Q I rx ry h;revert h;apply u4;rintro l b xs zs ⟨rfl,rfl,hH,hB,hz,q⟩;cases rx;cases ry;obtain⟨z,its,n,r,hl,e⟩:=I.lstM hH;obtain⟨z2,RC,n2,r2,K9,e2⟩:=I.lstM hB;refine PySem.P.add_list e e2 ?_ (by rw[aa,aa];exact hl ▸ K9 ▸ hz)
 have ea:its.toArray++RC.toArray=(its++RC).toArray:=by simp
 rw[ea];exact x2 (.ref _) _ ⟨I.lnew (t':=s.toks) (r.append r2) (by rw[aj];exact hz),rfl,q _ I.fresh⟩
def WD:R2:=λx y H Q=>∃ l k xs,x=.ref l/\y=.int k/\H l=some (.lst xs)/\ -(2 ^ 63)<=k/\k<2 ^ 63/\xs.length * k.toNat<=sizeLine /\
 ∀ p,H p=none->Q (.ref p) (upd H p (.lst (ah k.toNat xs).flatten))
def j5{α :Type}(xs:List α)(k:Nat):(ah k xs).flatten.length=k * xs.length:=by
 induction k with
 | zero=>simp
 | succ k ih=>rw[fo,lg,aj,ih,Ja,An]
def Nl:CI X (fv .Mult) WD:=by
 intro AB s σ H x y v u Q I rx ry h;revert h;apply u3;rintro l k xs ⟨rfl,rfl,hH,h1,h2,hz,q⟩;cases rx;obtain⟨t,rfl⟩:=ry;obtain⟨z,its,n,r,hl,e⟩:=I.lstM hH
 have B8:its.toArray.size * k.toNat<=sizeLine:=by rw[aa,<-hl];exact hz
 have hcap:¬ its.toArray.size * k.toNat >(2 ^ 63 - 1) / 8:=by
  have:(sizeLine:Nat)<=(2 ^ 63 - 1) / 8:=by decide
  omega
 have hfit:¬ (!Builtin.List.listFitsIndex k)=true:=by
  rw[fitsIndex_both h1 h2];exact ψ
 have hlong:¬ mw (its.toArray.size * k.toNat)=true:=by
  rw[Ng B8];exact ψ
 have hnew:xf (λx1 x2=>x1++x2) #[] (ah (if its.toArray.isEmpty=true then 0 else k.toNat) its.toArray)=(ah k.toNat its).flatten.toArray:=by
  have f0:∀ m:Nat,xf (λx1 x2=>x1++x2) #[] (ah m its.toArray)=(ah m its).flatten.toArray:=λm=>by
   have:=SB its m [];rw[ua]at this;exact this
  rw[f0];cases its with
  | nil=>simp
  | cons a r'=>rw[if_neg (by simp)]
 refine ve (T:="list") (U:="int") (by decide) ⟨_,e,rfl⟩ (λs'=>xc s' k t) noFill_list_mul Fo ub repeat_list Ds.lookup
  (nv ub (xc s k t) Dt (Ao _ _) (int___rmul___int_list k t l its.toArray n)
   ⟨e,rfl,⟨_,e,rfl⟩,nv F.slot_list_mul ⟨_,e,rfl⟩ F.entry_list_mul (F.args_list_mul_2 _ _) (AutoListH.list___mul___list_int_3 l its.toArray n k t hfit hcap hlong) ⟨e,?_⟩⟩)
 rw[hnew];exact x2 (.ref _) _ ⟨I.lnew (t':=s.toks) (r.rep k.toNat) (by rw[j5,ji];exact hz),rfl,q _ I.fresh⟩
end
section
variable{prog:au}{w:World}{A:bg}{E:Value->ε->Prop}{s:ε}
set_option maxRecDepth 100000 in
end
section
variable{X:Cx}
end
end L2
namespace L2
section
variable{κ :Type}[DecidableEq κ]
def BT(AE:List (κ × V))(k: κ):Option V:=(AE.find? λkv=>decide (kv.1=k)).map (·.2)
def BY(AE:List (κ × V))(k: κ)(v:V):List (κ × V) :=
 if(AE.any λkv=>decide (kv.1=k))=true then AE.map (λkv=>if kv.1=k then(kv.1,v)else kv)else AE++[(k,v)]
def IR{p: κ × V}{r:List (κ × V)}{k: κ}(e:p.1=k):BT (p::r) k=some p.2:=by simp[BT,ia,e]
def IS{p: κ × V}{r:List (κ × V)}{k: κ}(e:¬ p.1=k):BT (p::r) k=BT r k:=by simp[BT,ia,e]
def MK(k: κ):∀ AE:List (κ × V),(AE.any λkv=>decide (kv.1=k))=(BT AE k).isSome
 | []=>rfl
 | p::r=>by
  rw[jt];by_cases e:p.1=k
  ·simp only[IR e,decide_eq_true e,uh,Option.isSome_some]
  ·rw[IS e,decide_eq_false e,vx];exact MK k r
def j6(k j: κ)(y:V):∀ AE:List (κ × V),BT (AE.map λkv=>if kv.1=k then(kv.1,y)else kv) j=(BT AE j).map λx=>if j=k then y else x
 | []=>rfl
 | p::r=>by
  have ih:=j6 k j y r;rw[cu];by_cases h:p.1=k
  ·rw[if_pos h];by_cases e:p.1=j
   ·rw[IR (p:=(p.1,y)) e,IR e,jg,if_pos (e.symm.trans h)]
   ·rw[IS (p:=(p.1,y)) e,IS e,ih]
  ·rw[if_neg h];by_cases e:p.1=j
   ·rw[IR (p:=p) e,IR e,jg,if_neg (λz=>h (e.trans z))]
   ·rw[IS (p:=p) e,IS e,ih]
def j7(k j: κ)(y:V):∀ AE:List (κ × V),BT AE k=none->BT (AE++[(k,y)]) j=if j=k then some y else BT AE j
 | [],_=>by
  by_cases e:k=j
  ·rw[if_pos e.symm];exact IR (p:=(k,y)) e
  ·rw[if_neg (λz=>e z.symm)];exact IS (p:=(k,y)) e
 | p::r,hn=>by
  rw[jy]
  have hk:¬ p.1=k:=λz=>by rw[IR z]at hn;cases hn
  rw[IS hk]at hn
  have ih:=j7 k j y r hn;by_cases e:p.1=j
  ·rw[IR e,IR e,if_neg (λz=>hk (e.trans z))]
  ·rw[IS e,IS e,ih]
def KK(AE:List (κ × V))(k j: κ)(y:V):BT (BY AE k y) j=if j=k then some y else BT AE j:=by
 unfold BY;by_cases a:(AE.any λkv=>decide (kv.1=k))=true
 ·rw[if_pos a,j6];rw[MK]at a;by_cases e:j=k
  ·obtain⟨x,hx⟩:=ee.mp a;rw[if_pos e,e,hx,jg,if_pos rfl]
  ·rw[if_neg e];cases BT AE j with
   | none=>rfl
   | some x=>rw[jg,if_neg e]
 ·rw[if_neg a];refine j7 k j y AE ?_;rw[MK]at a;cases q:BT AE k with
  | none=>rfl
  | some x=>rw[q]at a;exact(a rfl).elim
def KL(AE:List (κ × V))(k: κ)(v:V):(BY AE k v).length<=AE.length+1:=by
 unfold BY;split
 ·rw[ν];exact dq _
 ·rw[aj,cf,na];exact ff _
def j8{AE:List (κ × V)}{k: κ}(v:V)(h:BT AE k=none):BY AE k v=AE++[(k,v)]:=by
 unfold BY;rw[MK,h];exact if_neg (by decide)
def RelO.isSome_eq{o:Option V}{u:Option Value}(r:RelO o u):o.isSome=u.isSome:=by
 cases o with
 | none=>cases u with
  | none=>rfl
  | some _=>exact(show False from r).elim
 | some _=>cases u with
  | none=>exact(show False from r).elim
  | some _=>rfl
def RelO.getD{o:Option V}{u:Option Value}{d:V}{d':Value}(r:RelO o u)(rd:RelV d d'):RelV (o.getD d) (u.getD d'):=by
 cases o with
 | none=>cases u with
  | none=>exact rd
  | some _=>exact(show False from r).elim
 | some _=>cases u with
  | none=>exact(show False from r).elim
  | some _=>exact r
def KV.val{AE:List (κ × V)}{vs:List (κ × Value)}(r:KV AE vs)(k: κ):RelO (BT AE k) (yo vs k):=by
 unfold KV at r
 induction r with
 | nil=>exact uu
 | @cons p q ps qs h t ih =>
  obtain⟨h1,h2⟩:=h;by_cases e:p.1=k
  ·have e':q.1=k:=h1.symm.trans e
   have b:yo (q::qs) k=some q.2:=by simp[yo,ia,e']
   rw[IR e,b];exact h2
  ·have e':¬ q.1=k:=λz=>e (h1.trans z)
   have b:yo (q::qs) k=yo qs k:=by simp[yo,ia,e']
   rw[IS e,b];exact ih
def KV.any{AE:List (κ × V)}{vs:List (κ × Value)}(r:KV AE vs)(k: κ):(AE.any λkv=>decide (kv.1=k))=vs.any λkv=>decide (kv.1=k):=by
 unfold KV at r
 induction r with
 | nil=>rfl
 | cons h t ih=>rw[jt,jt,ih,h.1]
def KV.repl{AE:List (κ × V)}{vs:List (κ × Value)}(r:KV AE vs)(k: κ){y:V}{u:Value}(ry:RelV y u) :
  KV (AE.map λkv=>if kv.1=k then(kv.1,y)else kv) (vs.map λkv=>if kv.1=k then(kv.1,u)else kv):=by
 unfold KV at r ⊢
 induction r with
 | nil=>exact .nil
 | @cons p q ps qs h t ih =>
  rw[cu,cu];refine .cons ?_ ih;obtain⟨h1,h2⟩:=h;by_cases e:p.1=k
  ·rw[if_pos e,if_pos (h1.symm.trans e)];exact⟨h1,ry⟩
  ·rw[if_neg e,if_neg (λz=>e (h1.trans z))];exact⟨h1,h2⟩
def KV.put{AE:List (κ × V)}{vs:List (κ × Value)}(r:KV AE vs)(k: κ){y:V}{u:Value}(ry:RelV y u):KV (BY AE k y) (stored vs k u):=by
 unfold BY stored;rw[r.any k];by_cases e:(vs.any λkv=>decide (kv.1=k))=true
 ·rw[if_pos e,if_pos e];exact r.repl k ry
 ·rw[if_neg e,if_neg e];exact Paired.snoc r ⟨rfl,ry⟩
def KV.length{AE:List (κ × V)}{vs:List (κ × Value)}(r:KV AE vs):AE.length=vs.length:=Paired.length r
end
def NS{P:au}{w:World}{k:AS}{u:Value}(r:RelV (kV k) u):(GB P w).is k u=true:=by
 cases k with
 | inl i=>obtain⟨t,e⟩:=(show ∃ t,u=gg i t from r);subst e;exact Gv P w i t
 | inr x=>obtain⟨t,e⟩:=(show ∃ t,u=we x t from r);subst e;exact Gw P w x t
def j9{P:au}{w:World}:∀ {ks:List AS} {us:List Value},Vals (ks.map kV) us->ItemsAre (GB P w) ks us
 | [],_,r=>by rw[Ar]at r;cases r;exact .nil
 | k::ks,_,r=>by
  rw[cu]at r;cases r with
  | cons h t=>exact .cons (NS h) (j9 t)
abbrev KT(H:Hp):List (List AS × V)->List (List AS × Addr × Value)->Prop:=Paired λp q=>p.1=q.1/\H q.2.1=some (.tup (p.1.map kV))/\RelV p.2 q.2.2
def KT.val{H:Hp}{AE:List (List AS × V)}{xs:List (List AS × Addr × Value)}(r:KT H AE xs)(k:List AS):RelO (BT AE k) ((atKey xs k).map (·.2)):=by
 induction r with
 | nil=>exact uu
 | @cons p q ps qs h t ih =>
  obtain⟨h1,_,h2⟩:=h;by_cases e:p.1=k
  ·have e':q.1=k:=h1.symm.trans e
   have b:atKey (q::qs) k=some q.2:=by simp[atKey,ia,e']
   rw[IR e,b];exact h2
  ·have e':¬ q.1=k:=λz=>e (h1.trans z)
   have b:atKey (q::qs) k=atKey qs k:=by simp[atKey,ia,e']
   rw[IS e,b];exact ih
def KT.repl{H:Hp}{AE:List (List AS × V)}{xs:List (List AS × Addr × Value)}(r:KT H AE xs)(k:List AS){y:V}{u:Value}(ry:RelV y u) :
  KT H (AE.map λkv=>if kv.1=k then(kv.1,y)else kv) (xs.map (putAt k u)):=by
 induction r with
 | nil=>exact .nil
 | @cons p q ps qs h t ih =>
  rw[cu,cu];refine .cons ?_ ih;obtain⟨h1,h2,h3⟩:=h;unfold putAt;by_cases e:p.1=k
  ·rw[if_pos e,if_pos (h1.symm.trans e)];exact⟨h1,h2,ry⟩
  ·rw[if_neg e,if_neg (λz=>e (h1.trans z))];exact⟨h1,h2,h3⟩
def KT.put{H:Hp}{AE:List (List AS × V)}{xs:List (List AS × Addr × Value)}(r:KT H AE xs)(k:List AS){b:Addr}{y:V}{u:Value}(hb:H b=some (.tup (k.map kV)))(ry:RelV y u) :
  KT H (BY AE k y) (storedH xs k b u):=by
 have e:(AE.any λkv=>decide (kv.1=k))=(atKey xs k).isSome:=by
  rw[MK,(r.val k).isSome_eq,vk]
 unfold BY storedH;rw[e];by_cases q:(atKey xs k).isSome=true
 ·rw[if_pos q,if_pos q];exact r.repl k ry
 ·rw[if_neg q,if_neg q];exact Paired.snoc r ⟨rfl,hb,ry⟩
def KT.keeps{H H':Hp}{AE:List (List AS × V)}{xs:List (List AS × Addr × Value)}(r:KT H AE xs)(ht:∀ b ys,H b=some (.tup ys)->H' b=some (.tup ys)):KT H' AE xs :=
 Paired.mapP r λ_ _ z=>⟨z.1,ht _ _ z.2.1,z.2.2⟩
section
variable{P:au}{w:World}{H:Hp}{h:Heap}{a:Addr}
def kA{u:HO}(ok:HOk P w H h)(e:Rd H a u):ObjOk P w H h a u:=e.ok ok
def LK{AE:List (AS × V)}(ok:HOk P w H h)(e:Rd H a (.dK AE)):AE.length<=sizeLine/\(a == iq)=false/\∃ vs,KV AE vs/\h.DictOf (GB P w) a vs :=
 show ObjOk P w H h a (.dK AE)from kA ok e
def Nm{AE:List (AS × V)}(ok:HOk P w H h)(e:H a=some (.dK AE)):AE.length<=sizeLine/\(a == iq)=false/\∃ vs,KV AE vs/\h.DictOf (GB P w) a vs:=LK ok (.inl e)
def NT{ks:List AS}(ok:HOk P w H h)(e:H a=some (.tup (ks.map kV))):(wf (GB P w)).is h ks a:=by
 obtain⟨_,its,r,o,h1,h2,n,h3⟩:=(show ObjOk P w H h a (.tup (ks.map kV))from ok a _ e)
 exact x3 o its.toArray n ⟨h1,h2,h3,by simpa using j9 r⟩
def ML{AE:List (List AS × V)}(ok:HOk P w H h)(e:Rd H a (.dT AE)):AE.length<=sizeLine/\(a == iq)=false /\
  ∃ xs,KT H AE xs/\h.DictOfH (wf (GB P w)) a xs:=by
 obtain⟨z,y,xs,r,o,es,ep,h1,h2,h3,h4,h5⟩:=(show ObjOk P w H h a (.dT AE)from kA ok e)
 refine⟨z,y,xs,r,x3 o es ep ⟨h1,h2,h3,h4,λx hx=> ?_,h5⟩⟩
 have all:∀ {l:List (List AS × V)} {m:List (List AS × Addr × Value)},KT H l m->∀ x∈m,(wf (GB P w)).is h x.1 x.2.1:=by
  intro l m q
  induction q with
  | nil=>intro x hx;exact nomatch hx
  | @cons p q ps qs hq t ih =>
   intro x hx;rcases ak.mp hx with e | hx
   ·subst e;exact NT ok (by rw[<-hq.1];exact hq.2.1)
   ·exact ih x hx
 exact all r x hx
def Np{AE:List (List AS × V)}(ok:HOk P w H h)(e:H a=some (.dT AE)):AE.length<=sizeLine/\(a == iq)=false /\
  ∃ xs,KT H AE xs/\h.DictOfH (wf (GB P w)) a xs:=ML ok (.inl e)
end
def DGet(H:Hp)(a:Addr)(y:V)(r:Option V):Prop :=
 (∃ AE k,Rd H a (.dK AE)/\y=kV k/\r=BT AE k)\/∃ AE k b,Rd H a (.dT AE)/\y=.ref b/\H b=some (.tup (k.map kV))/\r=BT AE k
def DPut(H:Hp)(a:Addr)(y v:V)(H':Hp):Prop :=
 (∃ AE k,H a=some (.dK AE)/\y=kV k/\AE.length<sizeLine/\H'=upd H a (.dK (BY AE k v))) ∨
 ∃ AE k b,H a=some (.dT AE)/\y=.ref b/\H b=some (.tup (k.map kV))/\AE.length<sizeLine/\H'=upd H a (.dT (BY AE k v))
def DGet.k{H:Hp}{a:Addr}{AE:List (AS × V)}{k:AS}(e:H a=some (.dK AE)):DGet H a (kV k) (BT AE k):=.inl (x2 AE k ⟨.inl e,rfl,rfl⟩)
def DGet.t{H:Hp}{a b:Addr}{AE:List (List AS × V)}{k:List AS}(e:H a=some (.dT AE))(eb:H b=some (.tup (k.map kV))):DGet H a (.ref b) (BT AE k):=.inr (x3 AE k b ⟨.inl e,rfl,eb,rfl⟩)
def DPut.k{H:Hp}{a:Addr}{AE:List (AS × V)}{k:AS}{v:V}(e:H a=some (.dK AE))(hl:AE.length<sizeLine):DPut H a (kV k) v (upd H a (.dK (BY AE k v))):=.inl (x2 AE k ⟨e,rfl,hl,rfl⟩)
def DPut.t{H:Hp}{a b:Addr}{AE:List (List AS × V)}{k:List AS}{v:V}(e:H a=some (.dT AE))(eb:H b=some (.tup (k.map kV)))(hl:AE.length<sizeLine) :
  DPut H a (.ref b) v (upd H a (.dT (BY AE k v))):=.inr (x3 AE k b ⟨e,rfl,eb,hl,rfl⟩)
section
variable{X:Cx}{AB:List (Addr × Obj)}{σ:St}{H:Hp}{s:ε}{a:Addr}{y v:V}{u r:Value}{o:Option V}{A:bg}{E:Value->ε->Prop}
def Inv.big(I:Inv X AB σ H s):iq<s.heap.objs.size:=by
 have h:az<s.heap.objs.size:=(I.mod.glob.keeps I.bk).lt;exact As (by decide) h
def Nq{Q:Value->ε->Prop}(hu:A.units+1<cLine)(I:Inv X AB σ H s)(g:DGet H a y (some v))(ry:RelV y u)(h:∀ w' s',Inv X AB σ H s'->RelV v w'->Q w' s') :
  wpAny (model X.prog X.w) A (w_ (.ref a) u) Q E s:=by
 rcases g with⟨AE,k,e,ey,l⟩ | ⟨AE,k,b,e,ey,eb,l⟩
 ·subst ey;obtain⟨z,hd,vs,rel,dd⟩:=LK I.hok e;obtain⟨w',hw,rw'⟩:=RelO.some_of (v:=v) (o:=yo vs k) (by rw[l];exact rel.val k);exact wpAny_getItem_of (NS ry) dd.mapOf hw (h w' _ (I.tok _) rw')
 ·subst ey;cases (show u=ba b from ry);obtain⟨z,hd,xs,rel,dd⟩:=ML I.hok e;obtain⟨w',hw,rw'⟩:=RelO.some_of (v:=v) (o:=(atKey xs k).map (·.2)) (by rw[l];exact rel.val k);obtain⟨p,hp,FL⟩:=bq.mp hw;refine wpAny_getItem_heap (ki hu) (NT I.hok eb) dd hp ?_;rw[FL];exact h w' _ (I.tok _) rw'
def Nv{Q:Value->ε->Prop}(hu:A.units+1<cLine)(I:Inv X AB σ H s)(g:DGet H a y o)(ry:RelV y u)(h:∀ s',Inv X AB σ H s'->Q (.bool o.isSome) s') :
  wpAny (model X.prog X.w) A (cw .In u (.ref a)) Q E s:=by
 rcases g with⟨AE,k,e,ey,l⟩ | ⟨AE,k,b,e,ey,eb,l⟩
 ·subst ey;obtain⟨z,hd,vs,rel,dd⟩:=LK I.hok e;refine wpAny_in_of (NS ry) hd dd.mapOf ?_;rw[<-(rel.val k).isSome_eq,<-l];exact h _ (I.tok _)
 ·subst ey;cases (show u=ba b from ry);obtain⟨z,hd,xs,rel,dd⟩:=ML I.hok e;refine wpAny_in_heap (ki hu) (NT I.hok eb) hd dd ?_
  have q:=(rel.val k).isSome_eq;rw[vk]at q;rw[<-q,<-l];exact h _ (I.tok _)
def Nx{Q:Value->ε->Prop}(hu:A.units+1<cLine)(I:Inv X AB σ H s)(g:DGet H a y o)(ry:RelV y u)(h:∀ s',Inv X AB σ H s'->Q (.bool (!o.isSome)) s') :
  wpAny (model X.prog X.w) A (cw .NotIn u (.ref a)) Q E s:=by
 rcases g with⟨AE,k,e,ey,l⟩ | ⟨AE,k,b,e,ey,eb,l⟩
 ·subst ey;obtain⟨z,hd,vs,rel,dd⟩:=LK I.hok e;refine wpAny_notIn_of (NS ry) hd dd.mapOf ?_;rw[<-(rel.val k).isSome_eq,<-l];exact h _ (I.tok _)
 ·subst ey;cases (show u=ba b from ry);obtain⟨z,hd,xs,rel,dd⟩:=ML I.hok e;refine wpAny_notIn_heap (ki hu) (NT I.hok eb) hd dd ?_
  have q:=(rel.val k).isSome_eq;rw[vk]at q;rw[<-q,<-l];exact h _ (I.tok _)
def kC{h':Heap}{t':Nat}{ob:HO}(I:Inv X AB σ H s)(mu:OW (H a))(hs:jh a s.heap h')(he:∃ q,h'.get? a=some q)(new:ObjOk X.prog X.w (upd H a ob) h' a ob) :
  Inv X AB σ (upd H a ob) { s with heap:=h',toks:=t' } :=
 I.write (x:=a) (e:=a) mu (.inl rfl) (λb q hb z=>(hs.2 b hb).trans z) he new
def kD{P:au}{w:World}{H':Hp}{h':Heap}{AE:List (AS × V)}{vs:List (AS × Value)}(z:AE.length<=sizeLine)(hd:(a == iq)=false)(rel:KV AE vs)(dd:h'.DictOf (GB P w) a vs) :
  ObjOk P w H' h' a (.dK AE):=⟨z,hd,vs,rel,dd⟩
def Ny{H':Hp}{Q:Unit->ε->Prop}(hu:A.units+1<cLine)(I:Inv X AB σ H s)(g:DPut H a y v H')(ry:RelV y u)(rv:RelV v r)(h:∀ s',Inv X AB σ H' s'->Q () s') :
  wpAny (model X.prog X.w) A (setItem (.ref a) u r) Q E s:=by
 rcases g with⟨AE,k,e,ey,l,eH⟩ | ⟨AE,k,b,e,ey,eb,l,eH⟩
 ·subst ey eH;obtain⟨z,hd,vs,rel,dd⟩:=Nm I.hok e
  have hz:vs.length<=sizeLine:=by rw[<-rel.length];exact z
  have hl:(BY AE k v).length<=sizeLine:=by have:=KL AE k v;exact υ this l
  refine wpAny_setItem_pairs (hsz:=hz) (NS ry) dd λh' dd' hs=>h _ ?_
  have he:∃ q,h'.get? a=some q:=let ⟨q,_,_,hq,_⟩:=dd';⟨q,hq⟩
  exact kC I (by rw[e];exact uu) hs he (kD hl hd (rel.put k rv) dd')
 ·subst ey eH;cases (show u=ba b from ry);obtain⟨z,hd,xs,rel,dd⟩:=Np I.hok e
  have hz:xs.length<=sizeLine:=by rw[<-Paired.length rel];exact z
  have hl:(BY AE k v).length<=sizeLine:=by have:=KL AE k v;exact υ this l
  refine wpAny_setItem_heap (hsz:=hz) (ki hu) (NT I.hok eb) dd λh' dd' hs=>h _ ?_;revert dd';apply u3;rintro q es ep ⟨hq,h2,h3,h4,_,h5⟩;refine kC I (by rw[e];exact uu) hs ⟨q,hq⟩ ⟨hl,hd,_,(rel.put k eb rv).keeps λc ys ec=> ?_,x3 q es ep ⟨hq,h2,h3,h4,h5⟩⟩;rw[AO (A0 ec e (λz=>nomatch z))];exact ec
end
section
variable{X:Cx}{AB:List (Addr × Obj)}{σ:St}{H:Hp}{s:ε}{a:Addr}{AE:List (AS × V)}{k:AS}{u:Value}{A:bg}{E:Value->ε->Prop}
end
def kE(i:Expr):Prop:=∀ ov iv,ya i false ov iv=operate [ov,iv] (w_ ov iv)
def Nz{prog:au}{w:World}{A:bg}{E:Value->ε->Prop}{s:ε}{env:Env}{value slice:Expr}{pos:Pos}{T id:String}{Q:Value->ε->Prop}
  (hl:Ha (.type T) "__getitem__"=pure (some (.builtin id))) (hs:kE slice)
  (h:wpAny (model prog w) A (eval value env) (λo s₁=>wpAny (model prog w) A (eval slice env) (λi s₂=>s₂.TypeIs o T/\wpAny (model prog w) A (w_ o i) Q E s₂) E s₁) E s) :
  wpAny (model prog w) A (eval (.Subscript value slice pos) env) Q E s:=by
 refine He (ln h (λo s₁ h₁=>ln h₁ (λi s₂ h₂=> ?_) λ_ _ x=>x) λ_ _ x=>x);obtain⟨hT,h₂⟩:=h₂;unfold yy;refine δ ?_;rw[getitemInPython_of_ne hT.not_modules];refine δ (wpAny_specialOf hT hl ?_)
 have fin:wpAny (model prog w) A (ya slice false o i) (λr s₃=>wpAny (model prog w) A (letTemporaryGo value o r >>= λ_=>pure r) Q E s₃) E s₂:=by
  rw[hs o i];exact wpAny_operating (ln h₂ (λr s₃ h₃=>δ (wpAny_letTemporaryGo (μ h₃))) λ_ _ x=>x)
 first
  | exact μ (δ fin)
  | exact δ (μ (δ fin))
  | exact δ fin
def Pb{X:Cx}{AB:List (Addr × Obj)}{σ:St}{H:Hp}{s:ε}{a:Addr}{y:V}{o:Option V}(I:Inv X AB σ H s)(g:DGet H a y o):s.TypeIs (.ref a) "dict":=by
 rcases g with⟨AE,k,e,_,_⟩ | ⟨AE,k,b,e,_,_,_⟩
 ·obtain⟨_,_,vs,_,dd⟩:=LK I.hok e;exact dd.typeIs
 ·obtain⟨_,_,xs,_,dd⟩:=ML I.hok e;exact dd.typeIs
def SD(td ty:TE):TE:=λσ H Q=>td σ H λx H1=>ty σ H1 λy H2=>∃ a v,x=.ref a/\DGet H2 a y (some v)/\Q v H2
def SE(ty td:TE):TE:=λσ H Q=>ty σ H λy H1=>td σ H1 λx H2=>∃ a o,x=.ref a/\DGet H2 a y o/\Q (.bl o.isSome) H2
def SF(ty td:TE):TE:=λσ H Q=>ty σ H λy H1=>td σ H1 λx H2=>∃ a o,x=.ref a/\DGet H2 a y o/\Q (.bl (!o.isSome)) H2
def SG(td ty tv:TE):TS:=λD σ H=>tv σ H λv H1=>td σ H1 λx H2=>ty σ H2 λy H3=>∃ a H4,x=.ref a/\DPut H3 a y v H4/\D.nx σ H4
section
variable{X:Cx}{o i e value:Expr}{pos pos' tpos:Pos}{td ty tv:TE}
def G9(hu:X.A.units+1<cLine)(ho:PE X o td)(hi:PE X i ty)(hs:kE i):PE X (.Subscript o i pos) (SD td ty):=by
 intro AB s σ H Q I h;refine Nz PySem.F.slot_dict_getitem.lookup hs (A1 (ho AB s σ H _ I h) λu s1 ⟨x,H1,I1,rx,q1⟩=>A1 (hi AB s1 σ H1 _ I1 q1) λiv s2 hzz=> ?_);obtain⟨y,H2,I2,ry,a,v,ex,g,q2⟩:=hzz;subst ex;obtain rfl:u=ba a:=rx;exact⟨Pb I2 g,Nq hu I2 g ry λw' s3 I3 rw'=>x2 v H2 ⟨I3,rw',q2⟩⟩
def SH(hu:X.A.units+1<cLine)(hi:PE X i ty)(ho:PE X o td):PC X .In i o (SE ty td):=by
 intro AB s σ H Q I h;refine A1 (hi AB s σ H _ I h) λiv s1 ⟨y,H1,I1,ry,q1⟩=>A1 (ho AB s1 σ H1 _ I1 q1) λu s2 hzz=> ?_;obtain⟨x,H2,I2,rx,a,ov,ex,g,q2⟩:=hzz;subst ex;obtain rfl:u=ba a:=rx;exact Nv hu I2 g ry λs3 I3=>x2 (.bl ov.isSome) H2 ⟨I3,rfl,q2⟩
def SI(hu:X.A.units+1<cLine)(hi:PE X i ty)(ho:PE X o td):PC X .NotIn i o (SF ty td):=by
 intro AB s σ H Q I h;refine A1 (hi AB s σ H _ I h) λiv s1 ⟨y,H1,I1,ry,q1⟩=>A1 (ho AB s1 σ H1 _ I1 q1) λu s2 hzz=> ?_;obtain⟨x,H2,I2,rx,a,ov,ex,g,q2⟩:=hzz;subst ex;obtain rfl:u=ba a:=rx;exact Nx hu I2 g ry λs3 I3=>x2 (.bl (!ov.isSome)) H2 ⟨I3,rfl,q2⟩
def KM(hu:X.A.units+1<cLine)(ho:PE X o td)(hi:PE X i ty)(hv:PE X value tv)(hs:wg value (some (.Subscript o i pos')) pos.line X.env=pure false) :
  PS X (.Assign [.Subscript o i pos'] value pos) (SG td ty tv):=by
 intro AB s σ H D I h;refine wpAny_Assign_Subscript (A1 (hv AB s σ H _ I h) λr s1 ⟨v,H1,I1,rv,q1⟩=>A1 (ho AB s1 σ H1 _ I1 q1) λu s2 ⟨x,H2,I2,rx,q2⟩=>A1 (hi AB s2 σ H2 _ I2 q2) λiv s3 hzz=> ?_) hs;obtain⟨y,H3,I3,ry,a,H4,ex,g,q3⟩:=hzz;subst ex;obtain rfl:u=ba a:=rx;exact Ny hu I3 g ry rv λs4 I4=>x2 σ H4 ⟨I4,q3⟩
end
def Pc{P:au}{w:World}{H:Hp}(h:Heap)(hb:iq<h.objs.size):ObjOk P w H (h.push { cls:=.type "dict",data:=.dict #[] }) h.objs.size (.dK []) :=
 ⟨a_ _,beq_eq_false_iff_ne.mpr (di (aw hb)),[],.nil,Heap.DictOf.new h⟩
def Pd{P:au}{w:World}{H:Hp}(h:Heap)(hb:iq<h.objs.size):ObjOk P w H (h.push { cls:=.type "dict",data:=.dict #[] }) h.objs.size (.dT []) :=
 ⟨a_ _,beq_eq_false_iff_ne.mpr (di (aw hb)),[],.nil,_,#[],0,ae _ rfl,⟨rfl,rfl,rfl⟩,rfl,rfl,pb⟩
def NU:TE:=λ_ H Q=>∀ p,H p=none->Q (.ref p) (upd H p (.dK []))
def NV:TE:=λ_ H Q=>∀ p,H p=none->Q (.ref p) (upd H p (.dT []))
section
variable{X:Cx}{pos:Pos}
def SJ:PE X (.Dict [] [] pos) NU:=λAB s σ H Q I h =>
 Du (x2 (.ref s.heap.objs.size) _ ⟨I.laid (a:=s.heap.objs.size) (o:=.dK []) (t':=s.toks) (λ_ _ q=>θ _ q) (ξ _) (Pc s.heap I.big),rfl,h _ (I.hok.fresh (ξ _))⟩)
def SK:PE X (.Dict [] [] pos) NV:=λAB s σ H Q I h =>
 Du (x2 (.ref s.heap.objs.size) _ ⟨I.laid (a:=s.heap.objs.size) (o:=.dT []) (t':=s.toks) (λ_ _ q=>θ _ q) (ξ _) (Pd s.heap I.big),rfl,h _ (I.hok.fresh (ξ _))⟩)
end
structure M1(X:Cx)(o:Expr)(m:Str)(DJ:Pos)(e:Expr)(D4:Pos):Prop where
 base:mv o m X.env (eval o X.env)=eval o X.env
 few:((gi D4 (af [e] X.env)).all (λx=> !x.1) && (sy D4 (ke [] X.env)).all (λx=>x.1.isSome)
  && decide (([e]:List Expr).length+([]:List yn).length+(if([]:List yn).isEmpty then 0 else 1)<30))=true
 line:(DJ.endLine == D4.line)=true
 trees:gi D4 (af [e] X.env)=[(false,eval e X.env)]
structure M2(X:Cx)(o:Expr)(m:Str)(DJ:Pos)(e f:Expr)(D4:Pos):Prop where
 base:mv o m X.env (eval o X.env)=eval o X.env
 few:((gi D4 (af [e,f] X.env)).all (λx=> !x.1) && (sy D4 (ke [] X.env)).all (λx=>x.1.isSome)
  && decide (([e,f]:List Expr).length+([]:List yn).length+(if([]:List yn).isEmpty then 0 else 1)<30))=true
 line:(DJ.endLine == D4.line)=true
 trees:gi D4 (af [e,f] X.env)=[(false,eval e X.env),(false,eval f X.env)]
def SL(H:Hp)(a:Addr):Prop:=(∃ AE,Rd H a (.dK AE))\/∃ AE,Rd H a (.dT AE)
def Pg{X:Cx}{AB:List (Addr × Obj)}{σ:St}{H:Hp}{s:ε}{a:Addr}(I:Inv X AB σ H s)(d:SL H a) :
  s.TypeIs (.ref a) "dict"/\(∀ b,ba a=.ref b->∃ ob,s.heap.get? b=some ob/\ob.dict=none)/\(a == iq)=false:=by
 rcases d with⟨AE,e⟩ | ⟨AE,e⟩
 ·obtain⟨_,hd,vs,_,dd⟩:=LK I.hok e;refine⟨dd.typeIs,λb q=> ?_,hd⟩;cases q;revert dd;apply u3;rintro ob _ _ ⟨h1,h2,_⟩;exact⟨ob,h1,h2.2.1⟩
 ·obtain⟨_,hd,xs,_,dd⟩:=ML I.hok e;refine⟨dd.typeIs,λb q=> ?_,hd⟩;cases q;revert dd;apply u3;rintro ob _ _ ⟨h1,h2,_⟩;exact⟨ob,h1,h2.2.1⟩
section
variable{X:Cx}{AB:List (Addr × Obj)}{σ:St}{H:Hp}{s:ε}{a:Addr}{y d:V}{u r:Value}{o:Option V}{A:bg}{E:Value->ε->Prop}
def Ph{Q:Value->ε->Prop}(hu:A.units+1<cLine)(I:Inv X AB σ H s)(g:DGet H a y o)(ry:RelV y u)(h:∀ w' s',Inv X AB σ H s'->RelV (o.getD .non) w'->Q w' s') :
  wpAny (model X.prog X.w) A (call (.builtin "dict.get") [.ref a,u]) Q E s:=by
 rcases g with⟨AE,k,e,ey,l⟩ | ⟨AE,k,b,e,ey,eb,l⟩
 ·subst ey;obtain⟨z,hd,vs,rel,dd⟩:=LK I.hok e;refine call_meetsIn PySem.F.slot_dict_get dd.typeIs PySem.F.entry_dict_get (PySem.F.args_dict_get_2 _ _) (meets_dict_get (GB X.prog X.w) a (NS ry) hd) ⟨_,dd.mapOf,h _ _ (I.tok _) ?_⟩;rw[l];exact(rel.val k).getD rfl
 ·subst ey;cases (show u=ba b from ry);obtain⟨z,hd,xs,rel,dd⟩:=ML I.hok e;refine call_meetsIn PySem.F.slot_dict_get dd.typeIs PySem.F.entry_dict_get (PySem.F.args_dict_get_2 _ _) (meetsH_dict_get (wf (GB X.prog X.w)) a b hd) ⟨ki hu,x2 k xs ⟨NT I.hok eb,dd,h _ _ (I.tok _) ?_⟩⟩;rw[l];exact(rel.val k).getD rfl
end
def SN(td ty:TE):TE:=λσ H Q=>td σ H λx H1=>∃ a,x=.ref a/\SL H1 a/\ty σ H1 λy H2=>∃ o,DGet H2 a y o/\Q (o.getD .non) H2
section
variable{X:Cx}{o e f:Expr}{DJ D4:Pos}{td ty tx:TE}
def O7(hu:X.A.units+1<cLine)(ho:PE X o td)(he:PE X e ty)(m:M1 X o "get" DJ e D4):PE X (.Call (.Attribute o "get" DJ) [e] [] D4) (SN td ty):=by
 intro AB s σ H Q I h;refine wpAny_Call_method m.base m.few m.line PySem.F.plainAttrs_dict PySem.F.slot_dict_get PySem.F.type_dict_get (A1 (ho AB s σ H _ I h) λu s1 hzz=> ?_);obtain⟨x,H1,I1,rx,a,ex,d,q1⟩:=hzz;subst ex;obtain rfl:u=ba a:=rx;obtain⟨t1,t2,_⟩:=Pg I1 d;refine⟨t1,t2,?_⟩;rw[m.trees];refine o_ rfl (s_ (ze (A1 (he AB s1 σ H1 _ I1 q1) λiv s2 ⟨y,H2,I2,ry,ov,g,q2⟩=>zy ?_)));exact Ph hu I2 g ry λw' s3 I3 rw'=>x2 _ H2 ⟨I3,rw',q2⟩
end
section
variable{X:Cx}{AB:List (Addr × Obj)}{σ:St}{H:Hp}{s:ε}{a:Addr}{AE:List (AS × V)}{A:bg}{E:Value->ε->Prop}
def Pj{Q:Value->ε->Prop}(I:Inv X AB σ H s)(e:Rd H a (.dK AE))(h:∀ p s',H p=none->Inv X AB σ (upd H p (.dK AE)) s'->Q (.ref p) s'):wpAny (model X.prog X.w) A (call (.type "dict") [.ref a]) Q E s:=by
 obtain⟨z,hd,vs,rel,dd⟩:=LK I.hok e;refine kt_call_dict hd dd (by rw[<-rel.length];exact z) λh' dd' hs=> ?_;refine h _ _ (I.hok.fresh (ξ _)) (I.laid (a:=s.heap.objs.size) (o:=.dK AE) (t':=s.toks) (λb q hq=> ?_) (ξ _) (kD z (beq_eq_false_iff_ne.mpr (di (aw I.big))) rel dd'));exact(hs.2 b (aw (ω hq))).trans (θ _ hq)
end
section
variable{X:Cx}{AB:List (Addr × Obj)}{σ:St}{H:Hp}{s:ε}{a:Addr}{y:V}{u:Value}{A:bg}{E:Value->ε->Prop}
end
end L2
namespace Att
open PySem PySem.W PySem.Calls PyProof.Rows
def Pk{P:Params}{h:Heap}:∀ (ns:List Int) (vs:List Value),WellAll P h vs (ns.map WData.int)->nc vs ns:=by
 intro ns
 induction ns with
 | nil =>
  intro vs w;rw[Ar]at w;cases w;exact .nil
 | cons n ns ih =>
  intro vs w;rw[cu]at w;cases w with
  | cons a b =>
   cases a;exact .cons _ _ (ih _ b)
def Pl{l:OpenLaw}{n:Nat}(hn:l.most=some n){P:Params}{h:Heap}{args:List WData}{vals:List Value}
  (hpre:l.row.toRowW.claim.pre args=true) (hwl:WellAll P h vals args) :
  ∃ a vs ns,vals=[ba a]/\args=[WData.list (ns.map WData.int)]/\h.get? a=some { cls:=.type "list",data:=.seq vs.toArray }/\nc vs ns/\ns.length<=n:=by
 have hsh:WShape.hasAll [] args [.list .int]=true:=(pre_splitW hpre).1
 have hc:l.pre.holds [] { args:=args }=true:=(pre_splitW hpre).2;obtain⟨d,r,rfl,h1,h2⟩:=hasAllW_cons hsh;obtain rfl:=hasAllW_nil h2;obtain⟨xs,rfl,h3⟩:=hasW_list h1;obtain⟨ns,rfl⟩:=items_int h3
 have B8:ns.length<=n:=by
  unfold OpenLaw.pre at hc
  have h4:(WTm.not (.lt (.lit (.int (n:Int))) (.len (.arg 0)))).holds [] { args:=[.list (ns.map .int)] }=true:=by
   have h4:=(holds_andW hc).1;rw[hn]at h4;exact h4
  have h5:=condW_of h4 (w_not (w_lt w_lit (w_len_list (w_arg rfl))));rw[ν]at h5;refine bu λq=> ?_
  have q':(n:Int)<((ns.length:Nat):Int):=bv.mpr q
  first
   | (rw[decide_eq_true q']at h5;exact absurd h5 (by decide))
   | (simp at h5;omega)
 cases hwl with
 | cons w1 w2 =>
  cases w2;cases w1 with
  | list ho hall=>exact⟨_,_,ns,rfl,rfl,ho,Pk ns _ hall,B8⟩
def Pm(l:OpenLaw)(args:List WData):l.row.toRowW.claim.post args (.bool true) args=true :=
 postW_of (r:=l.row.toRowW) (X:=(true == true))
  (show WShape.has [] (.bool true) .bool=true by first | rfl | decide | simp[WShape.has,WShape.arms,WShape.armsAll])
  (show(WTm.eq .res (.lit (.bool true))).value [] { args:=args,res:=some (.bool true),after:=args }=some (.bool (true == true))from w_eq_bool (w_res rfl) w_lit) rfl
def attach_call{l:OpenLaw}{n:Nat}{q:au}{loose:List Str}{XP:(Str->Option Value)->Heap->Prop}{YP:World->Heap->Prop}{d:DefRec}
  (hn:l.most=some n) (hdf:d.params.defaults=[])
  (call:∀ (w:World) (s₀ s₁:ε) (mg mb:Str->Option Value) (fa:Addr) (o:Obj) (pm cd doc:Value) (a:Addr) (vs:List Value) (ns:List Int),
   Ground q loose [] XP w s₀ mg mb s₁.heap->YP w s₁.heap ->
   s₁.heap.get? fa=some o->o.data=.func (docDef d.name d.params d.body d.scope pm cd doc)->s₁.heap.CodeRec cd d.name->mg d.name=some (.ref fa) ->
   s₁.heap.get? a=some { cls:=.type "list",data:=.seq vs.toArray }->nc vs ns->ns.length<=n->s₁.gens= #[] →
   sr (model l.prog w) yp (.call (.ref fa) ⟨[.ref a],[]⟩) (λr s'=>r=.ok (.ret (.bool true))/\OldK s₁.heap s'.heap/\s'.os=s₁.os/\oq s'.gens) s₁) :
  WalkO q loose XP YP l.row.toRowW d [] (λf vs=>PySem.call f vs):=by
 intro w s₀ s₁ mg mb G Y fa o pm cd doc dV kV ho hd KC hD hmg hg args vals as hpre hlay hrd hwl hlo;obtain rfl:dV=.none:=Dflts.none hD hdf;obtain rfl:kV=.none:=Dflts.noKw hD;obtain⟨a,vs,ns,rfl,rfl,hobj,hints,B8⟩:=Pl hn hpre hwl;refine enter_call (kg (call w s₀ s₁ mg mb fa o pm cd doc a vs ns G Y ho (fd_plain hd) KC hmg hobj hints B8 hg) λr s' hq=> ?_);obtain⟨rfl,h2,h3,h4⟩:=hq;exact⟨.inl ⟨.bool true,.bool true,[],rfl,λ_=>rfl,.bool true,Pm l _,λ_=>⟨At,λ_ hm=>(nomatch hm)⟩⟩,h2,h3,h4⟩
section
variable{prog:au}{w:World}{A:bg}{E:Value->ε->Prop}{s:ε}{K:Frag}
end
end Att
namespace L2
def WE:∀ {vs:List Value} {ns:List Int},nc vs ns->Vals (ns.map V.int) vs
 | _,_,.nil=>.nil
 | _,_,.cons n t h=>.cons ⟨t,rfl⟩ (WE h)
def WF(H:Hp):Prop:=∀ b,H b=none\/∃ o xs,H b=some (.frz o (.lst xs))
def Pp {P:au} {w:World} {K:η} {mg mb:Str->Option Value} {CX:HQ} {k:Nat} {fa a:Addr} {fd:dr} {x:Str} {sp:Sp} {s₁:ε} {vs:List Value} {ns:List Int}
    (KX:K.In s₁.heap) (hns:s₁.heap.Ns az mg) (hb:s₁.heap.Ns Gf mb) (hbb:∀ x:Str,x≠"__name__"->mb x=oo x) (hlim:s₁.heap.NoLimit) (hg:s₁.gens= #[])
    (ha:s₁.heap.get? a=some { cls:=.type "list",data:=.seq vs.toArray }) (hi:nc vs ns) (hl:ns.length<=sizeLine) (hr:Room k yp)
    (F:∀ base:Heap,K.In base->base.Ns az mg->FnOk P w K mg base CX k fa fd [x] sp) (hbind:∀ (s:ε) (u:Value),vi s fd ⟨[u],[]⟩ [(x,u)])
    (hsp:∀ H:Hp,WF H->SqL K H a (ns.map V.int)->sp [.ref a] H (λv _=>v=.bl true) λ_ _ _=>False)
    (hCX:∀ H e s',CX [] H s₁ (λ_ _ _=>False) e s'->False) :
    sr (model P w) yp (.call (.ref fa) ⟨[.ref a],[]⟩) (λr s'=>r=.ok (.ret (.bool true))/\OldK s₁.heap s'.heap/\s'.os=s₁.os/\oq s'.gens) s₁:=by
  have rv:=WE hi
  have lenV:=hi.length
  have core:∀ H:Hp,WF H->SqL K H a (ns.map V.int)->HOk P w H s₁.heap->(∀ b,H b≠none->b=a)->(H a≠none->K.lookup a=none) ->
      sr (model P w) yp (.call (.ref fa) ⟨[.ref a],[]⟩) (λr s'=>r=.ok (.ret (.bool true))/\OldK s₁.heap s'.heap/\s'.os=s₁.os/\oq s'.gens) s₁:=by
    intro H hO hS hok hA hK
    have base_of:∀ {b:Addr} {o:Obj},s₁.heap.get? b=some o->H b=none->(KE s₁.heap H).get? b=some o:=λe n=>Gy e n
    have noA:∀ {b:Addr} {o:Obj} {es:Array DictEntry} {ep:Nat},s₁.heap.get? b=some o->o.data=.dict es ep->H b=none:=λ{b o es ep} e d=>by
      cases q:H b with
      | none=>rfl
      | some u =>
        have e':b=a:=hA b (by rw[q];simp);subst e';rw[ha]at e;cases e
        have d':Hi vs.toArray _=Data.dict es ep:=d;cases d'
    have nsK:∀ {b:Addr} {m:Str->Option Value},s₁.heap.Ns b m->(KE s₁.heap H).Ns b m:=λ{b m} ⟨o,es,ep,e,d,r⟩=>x3 o es ep ⟨base_of e (noA e d),d,r⟩
    have hKb:K.In (KE s₁.heap H):=λb o e=>base_of (KX b o e) (by
      cases q:H b with
      | none=>rfl
      | some u =>
        have e':b=a:=hA b (by rw[q];simp);subst e';rw[hK (by rw[q];simp)]at e;cases e)
    have hM:Mod K mg (KE s₁.heap H):=⟨hKb,nsK hns,⟨mb,nsK hb,hbb⟩,let ⟨mc,h1,h2⟩:=hlim;⟨mc,nsK h1,h2⟩⟩
    have e0:Env0 P w K mg (KE s₁.heap H) yp [] s₁ H:=⟨rfl,hM,λb o e=>Gz e,bn (Gx _ _),trivial,λb hb=>absurd (show b∈([]:List Addr)from hb) (by simp),hok,.of_eq hg⟩
    refine kg ((F _ hKb (nsK hns)).run yp [] s₁ H ⟨[.ref a],[]⟩ [.ref a] [.ref a] _ _ hr e0 (hbind s₁ (.ref a)) (.cons rfl .nil) (hsp H hO hS)) λr s' h=> ?_;cases r with
    | error e=>exact(hCX H e s' h).elim
    | ok fl =>
      cases fl with
      | next=>exact iw h
      | brk=>exact iw h
      | cont=>exact iw h
      | ret u =>
        revert h;apply u2;rintro v H' ⟨os,bare,un,hok',r',q⟩
        have q':v=.bl true:=q;subst q';obtain rfl:u=um true:=r';refine⟨rfl,OldK.of_keep λb o e=> ?_,os,bare⟩;cases q:H b with
        | none=>exact un.keep b o e q (by intro z;exact absurd (show b∈([]:List Addr)from z) (by simp)) (by simp)
        | some u =>
          rcases hO b with z | ⟨ob,xs,z⟩
          ·rw[q]at z;cases z
          · have z2:=un.frzs b ob _ z
            obtain⟨e1,_⟩:=hok b _ z;obtain⟨e2,_⟩:=hok' b _ z2;rw[e]at e1;cases e1;exact e2
  cases hk:K.lookup a with
  | some o =>
    have e:=KX a o hk;rw[ha]at e;cases e;refine core (λ_=>none) (λ_=>.inl rfl) (.inr (x3 _ vs.toArray _ ⟨hk,rfl,rfl,rfl,by rw[aa,lenV];exact hl,by simpa using rv⟩)) (λb u z=>by have z':(none:Option HO)=some u:=z;cases z') (λb z=>absurd rfl z) λz=>absurd rfl z
  | none =>
    refine core (λb=>if b=a then some (.frz { cls:=.type "list",data:=.seq vs.toArray } (.lst (ns.map V.int)))else none) (λb=> ?_) (.inl (.inr ⟨{ cls:=.type "list",data:=.seq vs.toArray },if_pos rfl⟩)) (λb u z=> ?_) (λb z=> ?_) λ_=>hk
    · by_cases hb:b=a
      ·exact .inr (x2 _ _ (if_pos hb))
      ·exact .inl (if_neg hb)
    · by_cases hb:b=a
      · have z':=(if_pos hb).symm.trans z
        cases z';subst hb;exact⟨ha,by rw[ν];exact hl,x2 vs _ ⟨rv,ha⟩⟩
      · have z':=(if_neg hb).symm.trans z
        cases z'
    · by_cases hb:b=a
      ·exact hb
      ·exact absurd (if_neg hb) z
end L2
namespace L2
def walk_of{l:Ir}{n k:Nat}{q:au}{loose:List Str}{XP:(Str->Option Value)->Heap->Prop}{YP:World->Heap->Prop}{d:DefRec}{K:Params->η}{CX:World->HQ}{sp:World->Sp}{x:Str}
  (hn:l.most=some n) (hn2:n<=sizeLine) (hdf:d.params.defaults=[]) (hr:Room k yp)
  (hY:∀ (w:World) (h:Heap),YP w h->(K w.params).In h)
  (F:∀ (w:World) (mg:Str->Option Value) (fa:Addr) (h:Heap),(K w.params).In h->h.Ns az mg->mg d.name=some (.ref fa) ->
   ∃ fd:dr,(∀ (s:ε) (u:Value),vi s fd ⟨[u],[]⟩ [(x,u)]) /\
    ∀ base:Heap,(K w.params).In base->base.Ns az mg->FnOk l.prog w (K w.params) mg base (CX w) k fa fd [x] (sp w))
  (hsp:∀ (w:World) (H:Hp) (a:Addr) (ns:List Int),ns.length<=n->WF H->SqL (K w.params) H a (ns.map V.int)->sp w [.ref a] H (λv _=>v=.bl true) λ_ _ _=>False)
  (hCX:∀ (w:World) (H:Hp) (s:ε) (e:Value) (s':ε),CX w [] H s (λ_ _ _=>False) e s'->False) :
  W.WalkO q loose XP YP l.row.toRowW d [] (λf vs=>PySem.call f vs):=by
 refine Att.attach_call hn hdf λw s₀ s₁ mg mb fa o pm cd doc a vs ns G Y ho hd KC hmg hobj hints B8 hg=> ?_
 have KX:=hY w _ Y;obtain⟨fd,hb,hF⟩:=F w mg fa _ KX G.T.g hmg;exact Pp KX G.T.g G.T.b G.T.builtins G.T.nolimit hg hobj hints (υ B8 hn2) hr hF hb (λH hO hS=>hsp w H a ns B8 hO hS) λH e s'=>hCX w H s₁ e s'
end L2
namespace L2
def CD(s:Stmt)(j:Nat):Stmt:=match s with
 | .ClassDef _ _ _ body _ _ _ _ _ _ _=>body.getD j (.Pass ⟨0,0,0,0⟩)
 | _=>.Pass ⟨0,0,0,0⟩
def KN(s:Stmt):Arguments:=match s with
 | .FunctionDef _ a _ _ _ _ _ _ _ _=>a
 | _=>{ posonlyargs:=[],args:=[],vararg:=none,kwonlyargs:=[],kw_defaults:=[],kwarg:=none,defaults:=[] }
def HU(s:Stmt):List Stmt:=match s with
 | .FunctionDef _ _ b _ _ _ _ _ _ _=>b
 | _=>[]
def A7(s:Stmt):Scope:=match s with
 | .FunctionDef _ _ _ _ _ _ sc _ _ _=>sc
 | _=>{ kind:=.function,names:=[],isGenerator:=false,isCoroutine:=false }
abbrev E0:XK:=λ_ _ _=>False
structure Fun(K:η)(x qual:Str)(st:Stmt)(f:Addr)(fd:dr):Prop where
 ex:∃ (oc:Value) (od:Option Addr) (kV doc pm:Value) (an:Option Addr) (CH ct:Value) (osl:Array (Option Value)),
  fd=vt x qual (KN st) (HU st) (A7 st) .none kV doc pm an CH ct/\K.lookup f=some ⟨oc,od,.func fd,osl⟩/\xz K CH qual=true
 kp:mq K (.ref f)=true
section
variable{P:au}{w:World}{K:η}{mg:Str->Option Value}{base:Heap}
def Fun.binds{x qual:Str}{st:Stmt}{f:Addr}{fd:dr}{ps:List Str}(F:Fun K x qual st f fd)
  (h:∀ (kV doc pm:Value) (an:Option Addr) (CH ct:Value) (us:List Value),us.length=ps.length->bindArgs (vt x qual (KN st) (HU st) (A7 st) .none kV doc pm an CH ct) ⟨us,[]⟩=pure (ps.zip us)):Binds K fd ps []:=by
 refine u9 ?_ F.ex;rintro oc od kV doc pm an CH ct osl ⟨rfl,lk,KC⟩;exact .all (h kV doc pm an CH ct)
def kF{x qual:Str}{st:Stmt}{f:Addr}{oc:Value}{od an:Option Addr}{osl:Array (Option Value)}{kV doc pm CH ct:Value}(l:K.lookup f=some ⟨oc,od,.func (vt x qual (KN st) (HU st) (A7 st) .none kV doc pm an CH ct),osl⟩)
  (c:xz K CH qual=true) (k:mq K (.ref f)=true):Fun K x qual st f (vt x qual (KN st) (HU st) (A7 st) .none kV doc pm an CH ct):=⟨x9 oc od kV doc pm an CH ct osl ⟨rfl,l,c⟩,k⟩
end
def DB{A:bg}{k:Nat}(hr:Room k A):A.units+1<cLine:=cz (yt (by decide:1<=64) _) hr.units
section
variable{X:Cx}
end
def Same(H H':Hp):Prop:=∀ b o,H b=some o->H' b=some o
def Same.refl(H:Hp):Same H H:=λ_ _ h=>h
def Same.trans{H H1 H2:Hp}(a:Same H H1)(b:Same H1 H2):Same H H2:=λc o h=>b c o (a c o h)
def Same.free{H H':Hp}(e:Same H H'){l:Addr}(h:H' l=vm):H l=vm:=by
 cases q:H l with
 | none=>rfl
 | some o =>
  rw[e l o q]at h;cases h
def Same.seq{K:η}{H H':Hp}{a:Addr}{xs:List V}(e:Same H H')(h:SqL K H a xs):SqL K H' a xs:=by
 rcases h with(h | ⟨o,h⟩) | h
 ·exact .inl (.inl (e _ _ h))
 ·exact .inl (.inr ⟨o,e _ _ h⟩)
 ·exact .inr h
section
variable{κ :Type}[DecidableEq κ]
def Pq{AE:List (κ × V)}{k: κ}(h:BT AE k=none):¬ k∈AE.map (·.1):=by
 intro m;obtain⟨p,hp,e⟩:=cj.mp m
 have q:(AE.any λkv=>decide (kv.1=k))=true:=dv.mpr ⟨p,hp,decide_eq_true e⟩;rw[MK,h]at q;exact absurd q (by simp)
def kG:∀ {l:List κ} {k: κ},l.Nodup->¬ k∈l->(l++[k]).Nodup
 | [],k,_,_=>by simp
 | a::r,k,h,hk=>by
  obtain⟨h1,h2⟩:=jf.mp h
  show(a::(r++[k])).Nodup;refine jf.mpr ⟨λm=> ?_,kG h2 λm=>hk (ak.mpr (zg m))⟩;rcases bh.mp m with q | q
  ·exact h1 q
  ·exact hk (ak.mpr (Je (ο.mp q).symm))
def Pw{AE:List (κ × V)}{k: κ}(v:V)(hn:(AE.map (·.1)).Nodup)(h:BT AE k=none):((BY AE k v).map (·.1)).Nodup:=by
 rw[j8 v h,bo];exact kG hn (Pq h)
end
end L2
namespace L2
def WG{env:Env}:∀ (names:List (Str × wj)) (cs:List (Str × Addr)),
  (∀ x∈names,x.2=.free->∃ c,env.cells.lookup x.1=some c)->(∀ x c,cs.lookup x=some c->env.cells.lookup x=some c) ->
  ∃ cl,(forIn names cs λx r=>(if(x.2 == cb)=true then do let a ← cellOf env x.1;pure (ic ((x.1,a)::r))else pure (ic r):Sem (ForInStep (List (Str × Addr)))))=pure cl /\
   (∀ x c,cl.lookup x=some c->env.cells.lookup x=some c)/\(∀ x,(cs.lookup x).isSome=true->(cl.lookup x).isSome=true) /\
   ∀ x∈names,x.2=.free->(cl.lookup x.1).isSome=true
 | [],cs,_,h=>⟨cs,rfl,h,λ_ z=>z,λ_ z=>nomatch z⟩
 | (n,k)::r,cs,hf,h=>by
  by_cases hk:k=.free
  ·subst hk;obtain⟨c,hc⟩:=hf (n,.free) aq rfl;obtain⟨cl,e,h1,h2,h3⟩:=WG r ((n,c)::cs) (λx hx=>hf x (χ _ hx)) (λx c' hx=>by
    by_cases hxn:x=n
    ·subst hxn;simp only[ay,beq_self_eq_true]at hx;cases hx;exact hc
    ·have:(x == n)=false:=beq_eq_false_iff_ne.mpr hxn;simp only[ay,this]at hx;exact h x c' hx)
   refine⟨cl,?_,h1,λx hx=>h2 x ?_,λx hx hxf=> ?_⟩
   ·rw[Fs]
    show((if(cb == cb)=true then _ else _) >>= _)=_;rw[if_pos (show(cb == cb)=true from rfl)];unfold cellOf
    show(((match env.cells.lookup n with | some a=>pure a | none=>_) >>= _) >>= _)=_;rw[hc];exact e
   ·by_cases hxn:x=n
    ·subst hxn;simp
    ·have:(x == n)=false:=beq_eq_false_iff_ne.mpr hxn;simp only[ay,this];exact hx
   ·rcases ak.mp hx with rfl | hx
    ·exact h2 n (by simp)
    ·exact h3 x hx hxf
  ·obtain⟨cl,e,h1,h2,h3⟩:=WG r cs (λx hx=>hf x (χ _ hx)) h;refine⟨cl,?_,h1,h2,λx hx hxf=> ?_⟩
   ·rw[Fs]
    have hb:(k == cb)=false:=by simpa using hk
    show((if(k == cb)=true then _ else _) >>= _)=_;rw[if_neg (by simp[hb])];exact e
   ·rcases ak.mp hx with rfl | hx
    ·exact absurd hxf hk
    ·exact h3 x hx hxf
def kH{env:Env}{scope:Scope}(hf:∀ x∈scope.names,x.2=.free->∃ c,env.cells.lookup x.1=some c) :
  ∃ cl,closureFor scope env=pure cl/\(∀ x c,cl.lookup x=some c->env.cells.lookup x=some c)/\∀ x∈scope.names,x.2=.free->(cl.lookup x.1).isSome=true:=by
 obtain⟨cl,e,h1,_,h3⟩:=WG (env:=env) scope.names [] hf (λx c h=>by simp at h);refine⟨cl,?_,h1,h3⟩;unfold closureFor
 show(forIn scope.names ([]:List (Str × Addr)) _ >>= _)=_
 have:(forIn scope.names ([]:List (Str × Addr)) λx r=>(if(x.2 == cb)=true then do let a ← cellOf env x.1;pure (ic ((x.1,a)::r))else pure (ic r):Sem (ForInStep (List (Str × Addr))))) >>=(λr=>(pure r:Sem _))=(pure cl:Sem _):=by rw[e];rfl
 exact this
def kI{env:Env}:∀ {names:List (Str × wj)} {x:Str},names.lookup x=some .free ->
  (names.map λ(n,k)=>if(k == cb && env.scope.kind == .function && env.kindOf n == some .cell)then(n,du)else(n,k)).lookup x=some .cell ∨
  (names.map λ(n,k)=>if(k == cb && env.scope.kind == .function && env.kindOf n == some .cell)then(n,du)else(n,k)).lookup x=some .free
 | [],_,h=>by simp at h
 | (n,k)::r,x,h=>by
  by_cases hx:x=n
  ·subst hx;simp only[ay,beq_self_eq_true]at h;cases h
   show dw x ((if _ then(x,du)else(x,cb))::_)=_\/dw x ((if _ then(x,du)else(x,cb))::_)=_;split
   ·exact .inl (by simp)
   ·exact .inr (by simp)
  ·have hb:(x == n)=false:=beq_eq_false_iff_ne.mpr hx;simp only[ay,hb]at h
   have ih:=kI (env:=env) h
   show dw x ((if _ then(n,du)else(n,k))::_)=_\/dw x ((if _ then(n,du)else(n,k))::_)=_;split<;>(simp only[ay,hb];exact ih)
def kJ{env:Env}:∀ {names:List (Str × wj)} {x:Str},
  ((names.map λ(n,k)=>if(k == cb && env.scope.kind == .function && env.kindOf n == some .cell)then(n,du)else(n,k)).lookup x=some .cell ∨
  (names.map λ(n,k)=>if(k == cb && env.scope.kind == .function && env.kindOf n == some .cell)then(n,du)else(n,k)).lookup x=some .free)->(x,cb)∈names\/(x,du)∈names
 | [],_,h=>by simp at h
 | (n,k)::r,x,h=>by
  by_cases hx:x=n
  ·subst hx
   have h:dw x ((if(k == cb && env.scope.kind == .function && env.kindOf x == some .cell)=true then(x,du)else(x,k))::_)=some .cell\/dw x ((if(k == cb && env.scope.kind == .function && env.kindOf x == some .cell)=true then(x,du)else(x,k))::_)=some .free:=h;split at h
   ·rename_i hc;rw[dg,dg]at hc
    have:k=.free:=by simpa using hc.1.1
    subst this;exact .inl aq
   ·simp only[ay,beq_self_eq_true]at h;rcases h with h | h
    ·cases h;exact .inr aq
    ·cases h;exact .inl aq
  ·have hb:(x == n)=false:=beq_eq_false_iff_ne.mpr hx
   have h:dw x ((if(k == cb && env.scope.kind == .function && env.kindOf n == some .cell)=true then(n,du)else(n,k))::_)=some .cell\/dw x ((if(k == cb && env.scope.kind == .function && env.kindOf n == some .cell)=true then(n,du)else(n,k))::_)=some .free:=h
   have h':=h;split at h'
   all_goals
    simp only[ay,hb]at h';exact(kJ h').imp (χ _) (χ _)
def GI{a b:Addr}{n:Nat}(h:a<n)(h2:n<=b):a≠b:=aw (τ h h2)
def Cx.block(X:Cx)(AB:List (Addr × Obj))(s:ε)(H:Hp)(Nc:List Str)(scope:Scope)(cl:List (Str × Addr))(C:Addr)(fp:List Addr):Cx where
 prog:=X.prog
 w:=X.w
 K:=X.K
 mg:=X.mg
 base:=X.base
 A:=X.A
 N:=Nc
 s₀:=s
 H₀:=H
 env:=compEnvC scope cl C X.env
 outer:=X.stack
 stack:=X.stack
 ex:=fp
 fn:=λ_=>false
 calm:=X.calm
 pn:=X.pn++AB
 xe:=λ_ _=>False
structure NW(X:Cx)(scope:Scope)(tn cn:List Str)(cap:List Nat):Prop where
 kind:scope.kind=.function
 nocell:∀ y∈scope.names,y.2≠.cell
 names:∀ y∈scope.names,y.2=.local->scope.names.lookup y.1=some .local
 free:∀ y∈scope.names,y.2=.free->X.env.kindOf y.1=some .cell\/X.env.kindOf y.1=some .free
 drawn:∀ x∈cn,scope.names.lookup x=some .free
 caps:cap.map (λi=>X.N[i]?)=cn.map some
def LN(k:Nat)(cap:List Nat)(σ:St):St:=ah k none++cap.map λi=>(σ[i]?).join
def HOk.track{P:au}{w:World}{H:Hp}{h:Heap}{a:Addr}{o:HO}(x:HOk P w H h)(hn:H a=none)(new:ObjOk P w (upd H a o) h a o):HOk P w (upd H a o) h:=λb u e=>by
 by_cases hb:b=a
 ·subst hb;rw[AF]at e;cases e;exact new
 ·rw[AO hb]at e;refine(x b u e).stay (λ_ _ _ q=>q) (λc q=> ?_) λc xs q=> ?_
  ·rw[AO (BL q hn)];exact q
  ·rw[AO (BL q hn)];exact q
section
variable{X:Cx}{AB:List (Addr × Obj)}{σ:St}{H:Hp}{s:ε}
def Inv.pinlt(I:Inv X AB σ H s){p:Addr × Obj}(hp:p∈X.pn++AB):p.1<s.heap.objs.size:=ω (I.pin p hp).1
def Inv.stkne(I:Inv X AB σ H s){b:Addr}(h1:b≠X.env.locals)(h2:b∉X.fs):b∉EX X.stack:=λz=>(ak.mp (I.stkSub b z)).elim h1 h2
def Inv.stklt(I:Inv X AB σ H s){b:Addr}(h:b∈EX X.stack):b<s.heap.objs.size:=by
 obtain⟨_,o,ho,_⟩:=I.stack.mem h;exact ω ho
def Inv.block{scope:Scope}{tn cn:List Str}{cap:List Nat}{cl:List (Str × Addr)}{C:Addr}{fp:List Addr}{pins':List (Addr × Obj)}{s1:ε}(I:Inv X AB σ H s)(S:NW X scope tn cn cap)
  (BM:∀ x c,cl.lookup x=some c->X.env.cells.lookup x=some c) (MG:∀ x∈scope.names,x.2=.free->(cl.lookup x.1).isSome=true)
  (hf:∀ b∈fp,FpOk X AB H b) (hfl:∀ b∈fp,b<s.heap.objs.size) (hC:s.heap.objs.size<=C) (k:∀ b o,s.heap.get? b=some o->s1.heap.get? b=some o)
  (hos:s1.os=s.os) (hg:s1.gens=s.gens) (hns:∃ m,s1.heap.Ns C m)
  (hp:∀ p∈pins',s1.heap.get? p.1=some p.2/\H p.1=none/\p.1≠C/\p.1∉EX X.stack/\∀ v,p.2.data≠.cell v) :
  Inv (X.block AB s H (tn++cn) scope cl C fp) pins' (LN tn.length cap σ) H s1:=by
 have ok:(X.block AB s H (tn++cn) scope cl C fp).Ok:=by
  refine⟨I.ok.mod,S.kind,I.ok.glob,I.ok.blt,hC,λx y c h1 h2=>I.ok.inj x y c (BM x c h1) (BM y c h2),λx hx=> ?_,λx c z _=>(by cases z),I.ok.hd,I.ok.frames,.inl rfl,λb hb=>⟨?_,λx c e=>(hf b hb).2.2.2.2.1 x c (BM x c e)⟩,I.bs,υ I.ok.bsz I.sz,λb o e hb=> ?_,λb hb=>I.stkne (hf b hb).2.1 (hf b hb).2.2.1,I.stack,I.stkFree⟩
  ·rcases kJ (env:=X.env) hx with z | z
   ·exact ee.mp (MG _ z rfl)
   ·exact absurd rfl (S.nocell _ z)
  ·exact aw (τ (hfl b hb) hC)
  ·rcases(hf b hb).2.2.2.1 with z | z
   ·exact I.ok.noex b o e z
   ·have h1:b<X.base.objs.size:=ω e;exact absurd (τ h1 (υ I.ok.bsz z)) (kx _)
 refine⟨ok,hos,by rw[hg];exact I.bare,Un.kept k,?_,λx c e=> ?_,I.hok.fresh hC,λx c e=>I.freeC x c (BM x c e),λp hp'=> ?_,I.hok.kept k,?_⟩
 ·obtain⟨m,hm⟩:=hns;refine⟨m,hm,λi x v h1 h2 h3=> ?_⟩
  have hi:tn.length<=i:=by
   rcases gq i tn.length with z | z
   ·unfold LN at h2;rw[am (by simpa using z),wk]at h2;split at h2<;>cases h2
   ·exact z
  unfold LN at h2;rw[ao (by simpa using hi),pz,ρ]at h2
  have h1':cn[i - tn.length]? =some x:=by
   have:(tn++cn)[i]? =some x:=h1
   rwa [ao hi]at this
  cases hq:cap[i - tn.length]? with
  | none=>rw[hq]at h2;cases h2
  | some j =>
   rw[hq]at h2
   have hj:X.N[j]? =some x:=by
    have:=congrArg (λl=>l[i - tn.length]?) S.caps;simp only[ρ,hq,h1',jg]at this;exact cm this
   have hv:σ[j]? =some (some v):=by
    cases hs:σ[j]? with
    | none=>simp[hs]at h2
    | some y=>simp only[jg,hs,wm]at h2;cases h2;rfl
   have hxf:(x,cb)∈scope.names:=PySem.mem_of_lookup (S.drawn x (π h1'))
   have hk:=S.free _ hxf rfl;obtain⟨m0,_,hl0⟩:=I.loc;obtain⟨u,r,q⟩:=hl0 j x v hj hv (hk.elim (λz=>.inr (.inl z)) λz=>.inr (.inr z));refine⟨u,r,.inr ⟨kI (S.drawn x (π h1')),?_⟩⟩;rcases q with⟨kl,_⟩ | ⟨_,c,hc,z⟩
   ·have kl':X.env.kindOf x=some .local:=kl;rcases hk with hk | hk<;>(rw[kl']at hk;cases hk)
   ·obtain⟨c',hc'⟩:=ee.mp (MG _ hxf rfl)
    have:=BM _ _ hc';rw[hc]at this;cases this;exact⟨c,hc',z.keeps k⟩
 ·obtain⟨v,z⟩:=I.cell x c (BM x c e);exact⟨v,z.keeps k⟩
 ·rcases bh.mp hp' with z | z
  ·obtain⟨e,n,ne,nf,d⟩:=I.pin p z;exact⟨k _ _ e,n,aw (τ (ω e) hC),I.stkne ne nf,d⟩
  ·exact hp p z
 ·unfold LN
  show _=(tn++cn).length
  have:=congrArg vj S.caps;simp only[ν]at this;simp[this]
end
def DY:TT:=λ_ H Q=>Q true H
def O8(X:Cx)(GR:List Expr)(t:TT):Prop :=
 ∀ (AB:List (Addr × Obj)) (s:ε) (σ:St) (H:Hp) (Q:Bool->Hp->Prop),Inv X AB σ H s->t σ H Q ->
  wpAny (model X.prog X.w) X.A (forIn GR true λc r=>if r=true then do let ok ← Iz c X.env (eval c X.env);pure (ic ok)else pure (ic r)) (TP X AB σ Q) X.xe s
def GS{X:Cx}:O8 X [] DY:=λAB s σ H Q I h=>wpAny_tests_nil ⟨H,I,h⟩
def kK{X:Cx}{c:Expr}{t:TT}(h:PT X c t):O8 X [c] t:=λAB s σ H Q I q=>wpAny_tests_one (h AB s σ H Q I q)
def Px {prog:au} {w:World} {A:bg} {R:Gu->ε->Prop} {s:ε} {ED target iter:Expr} {GR:List Expr} {scope:Scope} {pos:Pos} {it CY:Value} {env:Env} (Jn:Nat->ε->Prop)
    (turn:∀ n s,Jn n s->wpAny (model prog w) A (mj it) (λr s₁=>match r with
      | none=>R (.ok .next) s₁
      | some v=>wpAny (model prog w) A (tz target it v) (λ_ s₂=>wpAny (model prog w) A (Ct target env v) (λ_ s₃ =>
          wpAny (model prog w) A (forIn GR true λc r=>if r=true then do let ok ← Iz c env (eval c env);pure (ic ok)else pure (ic r)) (λok s₄ =>
            if ok=true then wpAny (model prog w) A (eval ED env) (λx s₅ =>
              wpAny (model prog w) A (call (.builtin "list.append") [CY,x]) (λ_ s₆=>∃ m,m<n/\Jn m s₆) (λ_ _=>False) s₅) (λ_ _=>False) s₄
            else ∃ m,m<n/\Jn m s₄) (λ_ _=>False) s₃) (λ_ _=>False) s₂) (λ_ _=>False) s₁) (λ_ _=>False) s)
    (n:Nat) (h:Jn n s):sr (model prog w) A (.compLoop (.ListComp ED [⟨target,iter,GR,0⟩] scope pos) 0 it CY env) R s:=by
  refine codeAny_loop rfl Jn (λn' s' hJ=> ?_) n h
  show wpAny _ A ((compTurn (.ListComp ED [⟨target,iter,GR,0⟩] scope pos) 0 it CY env).onRaise (λx'=>do D_ x' env;theTreesLotGoes x')) _ _ s';refine wpAny_noted (wpAny_noRaise ?_);rw[compTurn_list];refine δ (vq (δ (A1 (turn n' s' hJ) λr s₁ h₁=> ?_)));cases r with
  | none=>exact μ h₁
  | some v =>
    refine δ (A1 h₁ λ_ s₂ h₂=> ?_);refine δ (A1 h₂ λ_ s₃ h₃=>δ (A1 h₃ λok s₄ h₄=> ?_));cases ok with
    | false=>exact μ ⟨rfl,h₄⟩
    | true=>exact δ (δ (A1 h₄ λx' s₅ h₅=>δ (A1 h₅ λ_ s₆ h₆=>μ (μ ⟨rfl,h₆⟩))))
def EQ(wi:TI)(g:TG)(tt:TT)(te:TE)(k:Nat)(cap:List Nat):TE:=λσ H Q=>wi σ H λJ H1 =>
 ∃ W:Nat->Nat->St->List V->Hp->Prop,(∃ m,W 0 m (LN k cap σ) [] H1)/\∀ i m σ' ys H,W i m σ' ys H ->
  (J.stop i H/\∀ p,H p=none->Q (.ref p) (upd H p (.lst ys))) ∨
  (J.go i H/\ys.length<sizeLine/\∀ x H',J.yld i H x H'->g x σ' H' λσ2 H2=>tt σ2 H2 λb H3 =>
   if b=true then ∃ N:VK,(∀ y H4,N y H4->∃ m',m'<m/\W (i+1) m' σ2 (ys++[y]) H4)/\te σ2 H3 N else ∃ m',m'<m/\W (i+1) m' σ2 ys H3)
structure CompDone(X:Cx)(fp:List Addr)(H:Hp)(s:ε)(Q:VK)(CY:Value)(C:Addr)(r:Gu)(s':ε):Prop where
 ok:r=.ok .next
 ex:∃ (D:Addr) (ys:List V) (its:List Value) (n:Nat) (H':Hp),CY=.ref D/\Vals ys its/\ys.length<=sizeLine/\s'.heap.get? D=some { cls:=.type "list",data:=.seq its.toArray n }/\s.heap.objs.size<=D/\D≠C/\H' D=none/\H' C=none ∧
  (∃ m,s'.heap.Ns C m)/\Un (EX X.stack) fp H H' s.heap s'.heap/\HOk X.prog X.w H' s'.heap/\∀ p,H' p=none->Q (.ref p) (upd H' p (.lst ys))
 ge:s.heap.objs.size<=C
 os:s'.os=s.os
 bare:oq s'.gens
section
variable{X:Cx}{AB:List (Addr × Obj)}{σ:St}{H:Hp}{s:ε}
def kL {tg iter ED:Expr} {GR:List Expr} {scope:Scope} {pos:Pos} {g:TG} {tt:TT} {te:TE} {tn cn:List Str} {cap:List Nat} {cl:List (Str × Addr)} {it:Addr} {fp:List Addr} {tn':Nat->Heap->Prop} {J:It} {Q:VK} {E:Value->ε->Prop}
    (I:Inv X AB σ H s) (S:NW X scope tn cn cap) (hc:X.calm=true)
    (BM:∀ x c,cl.lookup x=some c->X.env.cells.lookup x=some c) (MG:∀ x∈scope.names,x.2=.free->(cl.lookup x.1).isSome=true)
    (T:MH X.prog X.w X.K tg J fp it tn') (st:tn' 0 s.heap) (hf:∀ b∈fp,FpOk X AB H b)
    (hg:∀ C,PG (X.block AB s H (tn++cn) scope cl C fp) tg g) (ht:∀ C,O8 (X.block AB s H (tn++cn) scope cl C fp) GR tt) (he:∀ C,PE (X.block AB s H (tn++cn) scope cl C fp) ED te)
    (W:Nat->Nat->St->List V->Hp->Prop) {m0:Nat} (w0:W 0 m0 (LN tn.length cap σ) [] H)
    (step:∀ i m σ' ys H,W i m σ' ys H ->
      (J.stop i H/\∀ p,H p=none->Q (.ref p) (upd H p (.lst ys))) ∨
      (J.go i H/\ys.length<sizeLine/\∀ x H',J.yld i H x H'->g x σ' H' λσ2 H2=>tt σ2 H2 λb H3 =>
        if b=true then ∃ N:VK,(∀ y H4,N y H4->∃ m',m'<m/\W (i+1) m' σ2 (ys++[y]) H4)/\te σ2 H3 N else ∃ m',m'<m/\W (i+1) m' σ2 ys H3)) :
    wpAny (model X.prog X.w) X.A (newList []) (λCY s₃=>wpAny (model X.prog X.w) X.A (newFunctionEnv scope X.env.globals cl [] X.env.qual none .none (some X.env)) (λcenv s₄ =>
      sr (model X.prog X.w) X.A (.compStart (.ListComp ED [⟨tg,iter,GR,0⟩] scope pos) 0 (.ref it) CY { cenv with scope:=relabel scope X.env }) (CompDone X fp H s Q CY cenv.locals) s₄) E s₃) E s:=by
  refine ce (wpAny_newFunctionEnv S.nocell (by intro y hy;simp at hy) (λh₁ hns₁ hsb₁=> ?_) S.kind);dsimp only at hns₁ hsb₁ ⊢;generalize hH2:s.heap.push { cls:=.type "list",dict:=none,data:=.seq ([]:List Value).toArray }=H2 at hns₁ hsb₁ ⊢
  have hCs:H2.objs.size=s.heap.objs.size+1:=by rw[<-hH2,xx]
  generalize hCe:H2.objs.size=C at hns₁ hsb₁ ⊢
  have hC:C=s.heap.objs.size+1:=hCe.symm.trans hCs;generalize hD:s.heap.objs.size=D at *
  have hDC:D≠C:=by rw[hC];exact aw (ff _)
  have old:∀ b o,s.heap.get? b=some o->h₁.get? b=some o:=λb o e=>by
    have hb:b<D:=by rw[<-hD];exact ω e
    have hbC:b≠C:=GI hb (by rw[hC];exact dq _);exact hsb₁.extBut b o hbC (θ _ (hH2 ▸ θ _ e))
  have hDo:h₁.get? D=some { cls:=.type "list",data:=.seq ([]:List Value).toArray }:=by
    refine hsb₁.extBut _ _ hDC (θ _ ?_);rw[<-hH2,<-hD];exact ae _ rfl
  have hfl:∀ b∈fp,b<s.heap.objs.size:=λb hb=>by
    obtain⟨o,e,_⟩:=T.obj 0 _ st b hb;exact ω e
  have hDn:H D=none:=by rw[<-hD];exact I.hok.fresh (ξ _)
  have hDs:D∉EX X.stack:=λz=>GI (I.stklt z) (bn hD) rfl
  have I0:Inv (X.block AB s H (tn++cn) scope cl C fp) [(D,{ cls:=.type "list",data:=.seq ([]:List Value).toArray 0 })] (LN tn.length cap σ) H { s with heap:=h₁,toks:=s.toks+([]:List (Str × Value)).length } :=
    I.block S BM MG hf hfl (by omega) old rfl rfl ⟨_,hns₁⟩ λp hp=>by
      rw[ο]at hp;subst hp;exact⟨hDo,hDn,hDC,hDs,λv z=>nomatch z⟩
  have fpok:∀ {H':Hp} {o:Obj},(∀ b∈fp,H' b=none)->∀ b∈fp,FpOk (X.block AB s H (tn++cn) scope cl C fp) [(D,o)] H' b:=λ{H' o} hn b hb=>by
    obtain⟨_,f1,f2,f3,f4,f5⟩:=hf b hb
    have hbl:=hfl b hb;refine⟨hn b hb,?_,I.stkne f1 f2,.inl hb,λx c e=>f4 x c (BM x c e),λp hp=> ?_⟩
    ·exact GI hbl (by rw[hD,hC];exact dq _)
    · rcases bh.mp hp with z | z
      ·exact f5 p z
      ·rw[ο]at z;subst z;exact di (GI hbl (bn hD))
  have st1:tn' 0 h₁:=T.keep _ _ _ st λb _ o e=>old b o e
  have loop:∀ s₃:ε,s₃={ s with heap:=h₁,toks:=s.toks+([]:List (Str × Value)).length } ->
      sr (model X.prog X.w) X.A (.compLoop (.ListComp ED [⟨tg,iter,GR,0⟩] scope pos) 0 (.ref it) (.ref D) (compEnvC scope cl C X.env)) (CompDone X fp H s Q (.ref D) C) s₃:=by
    rintro s₃ rfl;refine Px (λn s'=>∃ i σ' ys its nn H',Inv (X.block AB s H (tn++cn) scope cl C fp) [(D,{ cls:=.type "list",data:=.seq (its:List Value).toArray nn })] σ' H' s'/\tn' i s'.heap/\(∀ b∈fp,H' b=none)/\Vals ys its/\ys.length<=sizeLine/\W i n σ' ys H') ?_ m0
      ⟨0,_,[],[],0,H,I0,st1,λb hb=>(hf b hb).1,.nil,a_ _,w0⟩
    rintro n s4 ⟨i,σ4,ys,its,nn,H4,I4,st4,fr4,r4,l4,w4⟩;rcases step i n σ4 ys H4 w4 with⟨stop,qn⟩ | ⟨go,BH,next⟩
    · refine A1 (T.done (X.block AB s H (tn++cn) scope cl C fp) rfl rfl rfl hc i _ s4 σ4 H4 _ I4 (fpok fr4) st4 stop) λr s5 ⟨hr,I5⟩=> ?_
      subst hr
      have hp:=I5.pin (D,_) (bw _ aq);obtain⟨m5,hm5,_⟩:=I5.loc;exact⟨rfl,x5 D ys its nn H4 ⟨rfl,r4,l4,hp.1,bn hD,hDC,hp.2.1,I5.free,⟨m5,hm5⟩,I5.base,I5.hok,qn⟩,by omega,I5.os,I5.bare⟩
    · refine A1 (T.item (X.block AB s H (tn++cn) scope cl C fp) rfl rfl rfl hc i _ s4 σ4 H4 _ I4 (fpok fr4) st4 go) λr s5 hzz=> ?_
      obtain⟨u,hr,h5⟩:=hzz;subst hr;refine A1 h5 λ_ s6 hzz=> ?_;obtain⟨x,H6,I6,r6,y6,st6,fr6⟩:=hzz
      have I6':=I6.pinned (fpok fr6) (T.obj _ _ st6);refine A1 (hg C _ s6 σ4 H6 x u _ I6' r6 (next x H6 y6)) λ_ s7 hzz=> ?_;obtain⟨σ7,H7,I7,q7⟩:=hzz;refine A1 (ht C _ s7 σ7 H7 _ I7 q7) λok s8 hzz=> ?_;obtain⟨H8,I8,q8⟩:=hzz
      have keepst:∀ {σ9:St} {H9:Hp} {s9:ε},Inv (X.block AB s H (tn++cn) scope cl C fp) ([(D,{ cls:=.type "list",data:=.seq its.toArray nn })]++O2 fp s6.heap) σ9 H9 s9->(∀ b∈fp,∀ o,s6.heap.get? b=some o->s9.heap.get? b=some o)/\∀ b∈fp,H9 b=none:=λ{σ9 H9 s9} I9=>by
        refine⟨λb hb o e=>(I9.pin (b,o) (bw _ (bw _ (RW hb e)))).1,λb hb=> ?_⟩;obtain⟨o,e,_⟩:=T.obj _ _ st6 b hb;exact(I9.pin (b,o) (bw _ (bw _ (RW hb e)))).2.1
      cases ok with
      | false =>
        obtain⟨m',hm',w'⟩:=q8;obtain⟨k1,k2⟩:=keepst I8;exact⟨m',hm',x6 (i+1) σ7 ys its nn H8 ⟨I8.unpinned,T.keep _ _ _ st6 k1,k2,r4,l4,w'⟩⟩
      | true =>
        obtain⟨Nw,hN,q8⟩:=q8;refine A1 (he C _ s8 σ7 H8 Nw I8 q8) λv s9 hzz=> ?_;obtain⟨y,H9,I9,r9,n9⟩:=hzz;obtain⟨m',hm',w'⟩:=hN y H9 n9;obtain⟨k1,k2⟩:=keepst I9
        have hp:=I9.pin (D,_) (bw _ (gr _ aq))
        have e:=hp.1
        have B8:=r4.length;refine nv zf ⟨_,e,rfl⟩ yr (yb _ _) (PySem.list_append D its.toArray nn v (by rw[aa];exact oB (cz (bn B8.symm) BH) rfl)) ⟨e,?_⟩
        have q:=PySem.IsL.update e (λxs=>xs.push v)
        have Ia:Inv (X.block AB s H (tn++cn) scope cl C fp) [] σ7 H9 s9:=I9.pins_of λp hp=>nomatch hp
        have Ib:=Ia.turned (h':=s9.heap.update D (jr (·.push v))) (t':=s9.toks) (it:=D) (λb o hb eb=>(ca _ _ (di hb)).trans eb) hp.2.1 hDC (.inr (by show s.heap.objs.size<=D;exact bn hD))
          (λx c ec z=>by
            obtain⟨vv,zc⟩:=I.cell x c (BM x c ec);exact GI zc.lt (bn hD) z)
          (λp hp'=>by
            rw[t9]at hp';exact GI (I.pinlt hp') (bn hD))
        have q':(s9.heap.update D (jr (·.push v))).get? D=some { cls:=.type "list",data:=.seq (its++[v]).toArray (nn+1) }:=by
          rw[if_neg (by simp)]at q;rw[<-List.push_toArray];exact q
        refine⟨m',hm',x6 (i+1) σ7 (ys++[y]) (its++[v]) (nn+1) H9 ⟨Ib.pins_of (λp hp'=> ?_),T.keep _ _ _ st6 λb hb o eb=> ?_,k2,r4.append (.cons r9 .nil),?_,w'⟩⟩
        · rw[ο]at hp'
          subst hp';exact⟨q',hp.2.1,hDC,hDs,λv' z=>nomatch z⟩
        · have hbl:=hfl b hb
          exact(ca _ _ (di (GI hbl (bn hD)))).trans (k1 b hb o eb)
        · rw[aj,f_]
          exact BH
  exact codeAny_compStart_list (loop _ rfl) (T.self _ 0 _ _ _ st1 (loop _ rfl))
def CompDone.inv{Q:VK}{CY:Value}{C:Addr}{r:Gu}{s':ε}{fp:List Addr}(I:Inv X AB σ H s)(hf:∀ b∈fp,FpOk X AB H b)(h:CompDone X fp H s Q CY C r s') :
  ∃ D H',CY=.ref D/\Inv X AB σ H' s'/\Q (.ref D) H'/\H' C=none/\∃ m,s'.heap.Ns C m:=by
 obtain⟨_,⟨D,ys,its,n,H',rfl,r4,l4,e,hD,hDC,hDn,hCn,hm,u,ok,q⟩,hC,os,bare⟩:=h
 have lt:∀ b o,s.heap.get? b=some o->b≠D:=λb o eb=>GI (ω eb) hD
 have ltH:∀ b o,H b=some o->b≠D:=λb o eb=>GI (I.hok.lt eb) hD;refine x2 D (upd H' D (.lst ys)) ⟨rfl,I.call' (ch:=fp) os ⟨u.keep,u.slot,λb o eb n' hx=> ?_,u.there,λb xs eb=> ?_,λb o x eb=> ?_,λb ps eb=> ?_⟩ (ok.track hDn ⟨l4,x2 its n ⟨r4,e⟩⟩) bare (λb hb=> ?_),q D hDn,?_,hm⟩
 ·rw[AO (lt b o eb)];exact u.free b o eb n' hx
 ·rw[AO (ltH b _ eb)];exact u.tups b xs eb
 ·rw[AO (ltH b _ eb)];exact u.frzs b o x eb
 ·rw[AO (ltH b _ eb)];exact u.tbls b ps eb
 ·obtain⟨_,f1,f2,f3,f4,f5⟩:=hf b hb;exact⟨f3,f1,f4,f5⟩
 ·rw[AO (di hDC)];exact hCn
def Inv.letgo{C:Addr}{h':Heap}{s1:ε}{σ1:St}{H1:Hp}(I:Inv X AB σ H s)(hC:s.heap.objs.size<=C)(I1:Inv X AB σ1 H1 s1)(hn:H1 C=none)(hs:jh C s1.heap h'):Inv X AB σ1 H1 { s1 with heap:=h' }:=by
 refine I1.turned (t':=s1.toks) (it:=C) (λb o hb e=>(hs.2 b hb).trans e) hn (λz=> ?_) (.inr ?_) (λx c e z=> ?_) λp hp z=> ?_
 ·exact GI I.lt hC z.symm
 ·exact υ I.sz hC
 ·obtain⟨v,zc⟩:=I.cell x c e;exact GI zc.lt hC z
 ·exact GI (I.pinlt hp) hC z
variable{tg iter ED:Expr}{GR:List Expr}{scope:Scope}{pos:Pos}{wi:TI}{g:TG}{tt:TT}{te:TE}{tn cn:List Str}{cap:List Nat}
def JP(S:NW X scope tn cn cap)(hc:X.calm=true)(hi:PI X tg iter wi)
  (hg:∀ AB s H cl C fp,PG (X.block AB s H (tn++cn) scope cl C fp) tg g) (ht:∀ AB s H cl C fp,O8 (X.block AB s H (tn++cn) scope cl C fp) GR tt) (he:∀ AB s H cl C fp,PE (X.block AB s H (tn++cn) scope cl C fp) ED te)
  (hs:∀ x,vh iter X.env x=pure x:=by intro _;rfl):PE X (.ListComp ED [⟨tg,iter,GR,0⟩] scope pos) (EQ wi g tt te tn.length cap):=by
 intro AB s σ H Q I h;obtain⟨cl,ecl,BM,MG⟩:=kH (env:=X.env) (scope:=scope) λx hx hxf=>I.ok.has x.1 (S.free x hx hxf);rw[eval_ListComp];refine vy (use:=none) rfl hs ecl S.kind S.names (A1 (hi AB s σ H _ I h) λv s1 h1=>A1 h1 λitv s2 h2=> ?_);revert h2;apply u5;rintro it fp tn' J H2 ⟨e,I2,T,st2,f2,W,⟨m0,w0⟩,turn⟩;subst e;refine A1 (kL I2 S hc BM MG T st2 f2 (λC=>hg _ _ _ _ C _) (λC=>ht _ _ _ _ C _) (λC=>he _ _ _ _ C _) W w0 turn) λCY s3 h3=>A1 h3 λcenv s4 h4=>kg h4 λr s5 h5=> ?_
 have hr:=h5.ok;subst hr;refine u2 ?_ (h5.inv I2 f2);rintro D H' ⟨rfl,I5,q5,hCn,m,hm⟩;exact⟨m,hm,λh' hs'=>x2 (.ref D) H' ⟨I2.letgo h5.ge I5 hCn hs',rfl,q5⟩⟩
def MM{i:Nat}{x:Str}{px spos:Pos}(S:NW X scope tn cn cap)(hc:X.calm=true)(hN:X.N.Nodup)(hi':X.N[i]? =some x)(hx:X.env.scope.names.lookup x=some .local)(hi:PI X tg iter wi)
  (hg:∀ AB s H cl C fp,PG (X.block AB s H (tn++cn) scope cl C fp) tg g) (ht:∀ AB s H cl C fp,O8 (X.block AB s H (tn++cn) scope cl C fp) GR tt) (he:∀ AB s H cl C fp,PE (X.block AB s H (tn++cn) scope cl C fp) ED te)
  (hsw:wg (.ListComp ED [⟨tg,iter,GR,0⟩] scope pos) (some (.Name x px)) spos.line X.env=pure true:=by rfl)
  (hs:∀ x,vh iter X.env x=pure x:=by intro _;rfl):PS X (.Assign [.Name x px] (.ListComp ED [⟨tg,iter,GR,0⟩] scope pos) spos) (AX (EQ wi g tt te tn.length cap) (AM i)):=by
 intro AB s σ H D I h;obtain⟨cl,ecl,BM,MG⟩:=kH (env:=X.env) (scope:=scope) λx hx hxf=>I.ok.has x.1 (S.free x hx hxf);rw[exec_Assign_Name_used _ _ _ _ hsw];refine δ (vq (δ ?_));unfold evalThenUse;refine δ ?_;refine vy (use:=some (Ct (.Name x px) X.env)) rfl hs ecl S.kind S.names (A1 (hi AB s σ H _ I h) λv s1 h1=>A1 h1 λitv s2 h2=> ?_);revert h2;apply u5;rintro it fp tn' J H2 ⟨e,I2,T,st2,f2,W,⟨m0,w0⟩,turn⟩;subst e;refine A1 (kL (Q:=λx' H1=>AM i x' σ H1 D.nx) I2 S hc BM MG T st2 f2 (λC=>hg _ _ _ _ C _) (λC=>ht _ _ _ _ C _) (λC=>he _ _ _ _ C _) W w0 turn) λCY s3 h3=>A1 h3 λcenv s4 h4=>kg h4 λr s5 h5=> ?_
 have hr:=h5.ok;subst hr;refine u2 ?_ (h5.inv I2 f2);rintro Da H' ⟨rfl,I5,q5,hCn,m,hm⟩
 show wpAny _ _ (Ct (.Name x px) X.env (.ref Da)) _ _ s5;refine zt (iW I5 hN hi' (.inl hx) (show RelV (.ref Da) (.ref Da)from rfl) (λs6 I6 hzz=> ?_) (.inr hx));obtain⟨a,hsb,ha⟩:=hzz;refine⟨m,hm.sameBut hsb ?_,λh' hs'=> ?_⟩
 ·rcases ha with z | z
  ·exact di (z ▸ GI I2.lt h5.ge)
  ·obtain⟨vv,zc⟩:=I2.cell x a z;exact di (GI zc.lt h5.ge)
 ·exact μ (μ (x2 (σ.set i (some (.ref Da))) H' ⟨I2.letgo h5.ge I6 hCn hs',q5⟩))
end
end L2
namespace L2
def ObjOk.there{P:au}{w:World}{H:Hp}{h:Heap}{a:Addr}{o:HO}(x:ObjOk P w H h a o):∃ ob,h.get? a=some ob:=by
 cases o with
 | lst xs=>obtain⟨_,_,_,_,e⟩:=x;exact⟨_,e⟩
 | tup xs=>obtain⟨_,_,_,ob,e,_⟩:=x;exact⟨_,e⟩
 | dK AE=>obtain⟨_,_,_,_,ob,_,_,e,_⟩:=x;exact⟨_,e⟩
 | dT AE=>obtain⟨_,_,_,_,ob,_,_,e,_⟩:=x;exact⟨_,e⟩
 | set S n=>revert x;apply u4;rintro ob _ _ _ ⟨e,_⟩;exact⟨_,e⟩
 | ins C dx fs=>obtain⟨_,_,_,e,_⟩:=x;exact⟨_,e⟩
 | own y=>exact x
 | xd fs=>obtain⟨_,⟨ob,_,_,e,_⟩,_⟩:=x;exact⟨_,e⟩
 | rng lo hi=>revert x;apply u3;rintro _ _ _ e;exact⟨_,e⟩
 | frz ob u=>obtain⟨e,_⟩:=x;exact⟨_,e⟩
 | tbl ps=>exact⟨_,show h.get? a=some _ from x⟩
 | met f y=>exact⟨_,show h.get? a=some _ from x⟩
 | ext φ =>exact x.2.1
def HOk.nh{P:au}{w:World}{H:Hp}{h:Heap}{a:Addr}(x:HOk P w H h)(e:h.get? a=none):H a=none:=by
 cases q:H a with
 | none=>rfl
 | some o =>
  obtain⟨ob,e'⟩:=(x a o q).there;rw[e]at e';cases e'
section
variable{X:Cx}{AB:List (Addr × Obj)}{σ:St}{H H':Hp}{s:ε}{h':Heap}
def Inv.stepN{g':Array zr}{t':Nat}{d':Drawn}{ch:List Addr}(I:Inv X AB σ H s)
  (EH:∀ b∈ch,(b∈X.ex\/X.s₀.heap.get? b=none)/\b≠X.env.locals/\(∀ x c,X.env.cells.lookup x=some c->c≠b)/\∀ p∈X.pn++AB,p.1≠b)
  (keep:∀ b o,b≠X.env.locals->b∉X.fs->b∉ch->s.heap.get? b=some o->H b=none->h'.get? b=some o)
  (slot:∀ b o,b≠X.env.locals->b∈X.fs->b∉ch->s.heap.get? b=some o->H b=none->∃ sl,h'.get? b=some { o with slots:=sl }) (free:∀ b o,b∉ch->s.heap.get? b=some o->H b=none->H' b=none)
  (there:∀ b o,b∉ch->s.heap.get? b=some o->∃ o',h'.get? b=some o')
  (tups:∀ b xs,H b=some (.tup xs)->H' b=some (.tup xs)) (frzs:∀ b o u,H b=some (.frz o u)->H' b=some (.frz o u)) (tbls:∀ b ps,H b=some (.tbl ps)->∃ more,H' b=some (.tbl (ps++more)))
  (ns:∀ m,s.heap.Ns X.env.locals m->h'.Ns X.env.locals m) (hok:HOk X.prog X.w H' h') (hg:oq g') :
  Inv X AB σ H' { s with heap:=h',gens:=g',drawn:=d',toks:=t' }:=by
 have neL:∀ b o,X.s₀.heap.get? b=some o->b≠X.env.locals:=λb o e=>aw (τ (ω e) I.ok.above)
 have neC:∀ b o,X.s₀.heap.get? b=some o->b∉X.ex->b∉ch:=λb o e hx hb=>by
  rcases(EH b hb).1 with z | z
  ·exact hx z
  ·rw[e]at z;cases z
 have cellK:∀ x c,X.env.cells.lookup x=some c->∀ v,s.heap.IsCell c v->h'.IsCell c v:=λx c e v ⟨o,ho,hd⟩=>by
  have nch:c∉ch:=λz=>(EH c z).2.2.1 x c e rfl;by_cases hc:c∈X.fs
  ·obtain⟨sl,q⟩:=slot c o (I.cne x c e) hc nch ho (I.freeC x c e);exact⟨_,q,hd⟩
  ·exact⟨o,keep c o (I.cne x c e) hc nch ho (I.freeC x c e),hd⟩
 refine⟨I.ok,I.os,hg,⟨λb o e n hb hx=> ?_,λb o e n hb hx=> ?_,λb o e n hx=> ?_,λb o e hx=> ?_,λb xs e=>tups b xs (I.base.tups b xs e),λb o xs e=>frzs b o xs (I.base.frzs b o xs e),λb ps e=> ?_⟩,?_,λx c e=> ?_,?_,λx c e=> ?_,λp hp=> ?_,hok,I.len⟩
 ·exact keep b o (neL b o e) hb (neC b o e hx) (I.base.keep b o e n hb hx) (I.base.free b o e n hx)
 ·obtain⟨sl,e1⟩:=I.base.slot b o e n hb hx;obtain⟨sl',e2⟩:=slot b _ (neL b o e) hb (neC b o e hx) e1 (I.base.free b o e n hx);exact⟨sl',e2⟩
 ·obtain⟨o',e1⟩:=I.base.there b o e hx;exact free b o' (neC b o e hx) e1 (I.base.free b o e n hx)
 ·obtain⟨o',e1⟩:=I.base.there b o e hx;exact there b o' (neC b o e hx) e1
 ·obtain⟨m1,e1⟩:=I.base.tbls b ps e;obtain⟨m2,e2⟩:=tbls b _ e1;exact⟨m1++m2,by rw[e2,zb]⟩
 ·obtain⟨m,hn,hl⟩:=I.loc;refine⟨m,ns m hn,λi x v e1 e2 e3=> ?_⟩;obtain⟨u,r,l⟩:=hl i x v e1 e2 e3;refine⟨u,r,?_⟩;rcases l with l | ⟨k,c,e,z⟩
  ·exact .inl l
  ·exact .inr ⟨k,c,e,cellK x c e _ z⟩
 ·obtain⟨v,z⟩:=I.cell x c e;exact⟨v,cellK x c e v z⟩
 ·obtain⟨m,⟨o,_,_,ho,_⟩,_⟩:=I.loc;exact free _ o (λz=>(EH _ z).2.1 rfl) ho I.free
 ·obtain⟨v,o,ho,hd⟩:=I.cell x c e;exact free c o (λz=>(EH c z).2.2.1 x c e rfl) ho (I.freeC x c e)
 ·obtain⟨e,n,ne,nf,d⟩:=I.pin p hp
  have nch:p.1∉ch:=λz=>(EH p.1 z).2.2.2 p hp rfl;exact⟨keep p.1 p.2 ne nf nch e n,free p.1 p.2 nch e n,ne,nf,d⟩
end
structure Fly(bad:Addr->Prop)(H:Hp)(h:Heap)(e:Addr)(cls:Value):Prop where
 nb:¬ bad e
 free:H e=none
 ex:∃ (oe:Obj) (vs:Array Value),h.get? e=some oe/\oe.cls=cls/\oe.dict=none/\oe.data=.fields vs/\(vs[1]? =some .none ∨
  ∃ (T:Addr) (oT:Obj) (ts:Array Value),vs[1]? =some (.ref T)/\¬ bad T/\H T=none/\T≠e/\h.get? T=some oT/\oT.data=.fields ts/\ts[3]? =some .none)
def Fly.mono{bad bad':Addr->Prop}{H:Hp}{h:Heap}{e:Addr}{cls:Value}(F:Fly bad H h e cls)(k:∀ a,bad' a->bad a):Fly bad' H h e cls:=by
 obtain⟨nb,fr,oe,vs,h1,h2,h3,h4,h5⟩:=F;refine⟨λz=>nb (k _ z),fr,x2 oe vs ⟨h1,h2,h3,h4,?_⟩⟩;rcases h5 with z | ⟨T,oT,ts,a,b,c⟩
 ·exact .inl z
 ·exact .inr (x3 T oT ts ⟨a,λz=>b (k _ z),c⟩)
section
variable{M:Model}{A:bg}{E:Value->ε->Prop}{s:ε}
def kM{base:Heap}{env:Env}{outer:List Env}{L e:Addr}{oe:Obj}{vs:Array Value}{hd:Value}{nx:Bool}{Q:Unit->ε->Prop}
  (MF:A.frames=some (env::outer)) (hl:s.heap.FunFrames base (env::outer)) (hf:env.frame=some L) (he:s.heap.get? e=some oe) (hdt:oe.data=.fields vs) (hsz:1<vs.size)
  (h:∀ h' T oT ts,(∀ b o,s.heap.get? b=some o->b≠e->b∉EX (env::outer)->h'.get? b=some o)->(∀ b o,s.heap.get? b=some o->b≠e->∃ sl,h'.get? b=some { o with slots:=sl }) ->
   h'.get? e=some (oe.mapFields (·.setIfInBounds 1 (.ref T)))->s.heap.objs.size<=T->h'.get? T=some oT->oT.data=.fields ts->ts[3]? =some (ir L)->Q () { s with heap:=h' }) :
  wpAny M A (do let a ← frameOf env;let pl ← entryPlaceOf L nx;let b ← yu hd a .none (ir L) .none pl;setField (.ref e) 1 b) Q E s:=by
 have hne:e∉(env::outer).filterMap (·.frame):=λz=>by
  obtain⟨_,o,ho,hn⟩:=hl.mem z;rw[he]at ho;cases ho;exact hn vs hdt
 refine δ (wpAny_frameOf_fun MF hl hf λh1 hs1=> ?_);refine δ (wpAny_entryPlaceOf λpl CK=> ?_);unfold yu newFields;refine δ (ce ?_ (CK.sizeOk5 _ _ _ _ _))
 have he1:h1.get? e=some oe:=(hs1.2.1 e hne).trans he;refine pd (θ _ he1) hdt hsz ?_
 have hTe:h1.objs.size≠e:=il (ω he1)
 have hd3:=ix hdt (·.setIfInBounds 1 (ba h1.objs.size))
 have keep:∀ b o,b≠e->h1.get? b=some o->((h1.push { cls:=.type "traceback",dict:=none,data:=.fields ([hd,.ref L,.none,ir L,.none]++(if pl.isEmpty then ah 6 de else pl)).toArray }).update e (ss (·.setIfInBounds 1 (ba h1.objs.size)))).get? b=some o:=λb o hb e1=>by
  rw[ca _ _ (di hb)];exact θ _ e1
 refine h _ h1.objs.size _ _ (λb o e1 hb hnf=>keep b o hb ((hs1.2.1 b hnf).trans e1)) (λb o e1 hb=> ?_) (fz _ (θ _ he1) (p_ hd3)) (by rw[hs1.1];exact ξ _)
  ((ca _ _ (di hTe)).trans (ae _ rfl)) rfl ?_
 ·obtain⟨sl,e2⟩:=hs1.2.2 b o e1;exact⟨sl,keep b _ hb e2⟩
 ·first | (simp;done) | (rcases CK with rfl | ⟨_,_,_,_,_,_,_,rfl⟩<;>simp)
structure WH(fr:List Addr)(bad:Addr->Prop)(H:Hp)(e:Addr)(cls:Value)(h h':Heap):Prop where
 ch:∃ ch:List Addr,(∀ b∈ch,¬ bad b/\H b=none/\∃ o vs,h.get? b=some o/\o.data=.fields vs)/\(∀ b o,h.get? b=some o->b∉ch->b∉fr->h'.get? b=some o) /\
  (∀ b o,h.get? b=some o->b∉ch->∃ sl,h'.get? b=some { o with slots:=sl })
 fly:Fly bad H h' e cls
def kO{A2:bg}{E2:Value->ε->Prop}{base:Heap}{env:Env}{outer:List Env}{L e:Addr}{cls:Value}{bad:Addr->Prop}{H:Hp}{Q:Unit->ε->Prop}
  (MF:A.frames=some (env::outer)) (hl:s.heap.FunFrames base (env::outer)) (hf:env.frame=some L) (F:Fly bad H s.heap e cls) (hb:∀ a,s.heap.objs.size<=a->¬ bad a) (hH:∀ a,s.heap.objs.size<=a->H a=none)
  (h:∀ h',WH (EX (env::outer)) bad H e cls s.heap h'->Q () { s with heap:=h' }) :
  wpAny M A (D_ (.ref e) env) (λ_ s2=>wpAny M A2 (wn (.ref e) none) Q E2 s2) E s:=by
 obtain⟨nb,fr,oe,vs,he,OT,VO,hd,htb⟩:=F
 have rest:∀ (s1:ε) (ch:List Addr) (h':Heap) (T:Addr) (oT:Obj) (ts:Array Value) (oe1:Obj),(∀ b o,s.heap.get? b=some o->s1.heap.get? b=some o\/b∈ch)->s1.heap.objs.size=s.heap.objs.size->e∈ch->(∀ b∈ch,¬ bad b/\H b=none/\∃ o vs,s.heap.get? b=some o/\o.data=.fields vs) ->
   oe1.cls=cls->oe1.dict=none->oe1.data=.fields vs->1<vs.size ->
   (∀ b o,s1.heap.get? b=some o->b≠e->b∉EX (env::outer)->h'.get? b=some o)->(∀ b o,s1.heap.get? b=some o->b≠e->∃ sl,h'.get? b=some { o with slots:=sl }) ->
   h'.get? e=some (oe1.mapFields (·.setIfInBounds 1 (.ref T)))->s1.heap.objs.size<=T->h'.get? T=some oT->oT.data=.fields ts->ts[3]? =some (ir L)->wpAny M A2 (wn (.ref e) none) Q E2 { s with heap:=h' }:=by
  intro s1 ch h' T oT ts oe1 hk1 hsz hech EH hcls1 hdict1 hd1 hv k1 k2 e1 hT e2 hdT h3
  have hT':s.heap.objs.size<=T:=hsz ▸ hT
  have hTe:T≠e:=di (GI (ω he) hT')
  have hde:=ix hd1 (·.setIfInBounds 1 (ba T));unfold wn;refine δ (gy e1 hde (x:=.ref T) (by simp[hv]) ?_);rw[if_pos (show(ba T != de)=true from by simp)]
  have hs3:3<ts.size:=(fj.mp h3).1;refine pd e2 hdT hs3 (h _ ?_)
  have oth:∀ b,b≠T->(h'.update T (ss (·.setIfInBounds 3 ((none:Option Addr).elim de λf=>ir f)))).get? b=h'.get? b:=λb hb'=>ca _ _ (di hb')
  have ltT:∀ b o,s.heap.get? b=some o->b≠T:=λb o eb=>GI (ω eb) hT';refine⟨⟨ch,EH,λb o eb hbc hbf=> ?_,λb o eb hbc=> ?_⟩,nb,fr,y2 ⟨(oth e (di hTe)).trans e1,(Obj.cls_mapFields _ _).trans hcls1,?_,hde,.inr (x3 T _ _ ⟨by simp[hv],hb T hT',hH T hT',hTe,fz _ e2 (p_ (ix hdT _)),ix hdT _,by simp[hs3]⟩)⟩⟩
  ·rw[oth b (ltT b o eb)];rcases hk1 b o eb with z | z
   ·exact k1 b o z (λz'=>hbc (z' ▸ hech)) hbf
   ·exact absurd z hbc
  ·rw[oth b (ltT b o eb)];rcases hk1 b o eb with z | z
   ·exact k2 b o z (λz'=>hbc (z' ▸ hech))
   ·exact absurd z hbc
  ·obtain⟨c1,c2,c3,c4⟩:=oe1;dsimp only at hd1;subst hd1;exact hdict1
 unfold D_;simp only[hf];rcases htb with h1 | ⟨T0,oT0,ts0,h1,nbT,frT,neT,eT,dT,h3⟩
 ·have hv:1<vs.size:=(fj.mp h1).1;refine δ (gy he hd h1 ?_);rw[if_neg (by decide)];refine kM MF hl hf he hd hv λh' T oT ts k1 k2 e1 hT e2 hdT h3=> ?_;exact rest s [e] h' T oT ts oe (λb o eb=>.inl eb) rfl (by simp) (λb hb'=>by rw[ο]at hb';subst hb';exact⟨nb,fr,x2 oe vs ⟨he,hd⟩⟩) OT VO hd hv k1 k2 e1 hT e2 hdT h3
 ·have hv:1<vs.size:=(fj.mp h1).1;refine δ (gy he hd h1 ?_);rw[if_pos (show(ba T0 != de)=true from by simp)];refine δ (gy eT dT h3 ?_);rw[if_neg (show ¬ ((de == ir L)=true)from by simp[ir])];refine δ (pd eT dT (fj.mp h3).1 ?_)
  have oth:∀ b,b≠T0->(s.heap.update T0 (ss (·.setIfInBounds 3 de))).get? b=s.heap.get? b:=λb hb'=>ca _ _ (di hb')
  have nf:∀ b o,s.heap.get? b=some o->(∀ vs,o.data≠.fields vs)->b≠T0:=λb o eb hn z=>by rw[z,eT]at eb;cases eb;exact hn ts0 dT
  refine kM MF (hl.of_keeps λb o eb hn=>⟨o,(oth b (nf b o eb hn)).trans eb,rfl⟩) hf ((oth e (di neT)).trans he) hd hv λh' T oT ts k1 k2 e1 hT e2 hdT h3'=> ?_;exact rest { s with heap:=s.heap.update T0 (ss (·.setIfInBounds 3 de)) } [e,T0] h' T oT ts oe
   (λb o eb=>by
    by_cases z:b=T0
    ·exact .inr (by simp[z])
    ·exact .inl ((oth b z).trans eb))
   (Heap.size_after_update ..) (by simp)
   (λb hb'=>by
    rcases ak.mp hb' with z | z
    ·subst z;exact⟨nb,fr,x2 oe vs ⟨he,hd⟩⟩
    ·rw[ο]at z;subst z;exact⟨nbT,frT,x2 oT0 ts0 ⟨eT,dT⟩⟩)
   OT VO hd hv k1 k2 e1 hT e2 hdT h3'
end
def Cx.bad(X:Cx)(AB:List (Addr × Obj)):Addr->Prop:=λa=>X.s₀.heap.get? a≠none\/∃ p∈X.pn++AB,p.1=a
structure XOk(X:Cx)(E:St->XK):Prop where
 po:PassesOwn (model X.prog X.w) X.A X.env X.xe
 ex:X.ex=[]
 calm:X.calm=true
 go:∀ (AB:List (Addr × Obj)) (σ:St) (H:Hp) (s:ε) (e:Addr) (cls:Value),Inv X AB σ H s->Fly (X.bad AB) H s.heap e cls->E σ cls none H->X.xe (.ref e) s
section
variable{X:Cx}{AB:List (Addr × Obj)}{σ:St}{H:Hp}{s:ε}
def Inv.notbad(I:Inv X AB σ H s)(hx:X.ex=[]){a:Addr}(h:s.heap.get? a=none):¬ X.bad AB a:=λz=>by
 rcases z with z | ⟨p,hp,rfl⟩
 ·cases q:X.s₀.heap.get? a with
  | none=>exact z q
  | some o =>
   obtain⟨o',e⟩:=I.base.there a o q (by rw[hx];simp);rw[h]at e;cases e
 ·have:=(I.pin p hp).1;rw[h]at this;cases this
def kP{h:Heap}{a:Addr}(z:h.objs.size<=a):h.get? a=none:=by
 cases q:h.get? a with
 | none=>rfl
 | some o=>exact absurd (τ (ω q) z) (kx _)
def Inv.noted{e:Addr}{cls:Value}{h':Heap}(I:Inv X AB σ H s)(N:WH (EX X.stack) (X.bad AB) H e cls s.heap h'):Inv X AB σ H { s with heap:=h' }:=by
 obtain⟨⟨ch,EH,k1,k2⟩,_⟩:=N;obtain⟨mL,⟨oL,esL,epL,hoL,dL,rL⟩,_⟩:=id I.loc
 have chne:∀ b∈ch,∀ o,s.heap.get? b=some o->∃ vs,o.data=.fields vs:=λb hb o eb=>by
  obtain⟨_,_,o',vs,e',d⟩:=EH b hb;rw[eb]at e';cases e';exact⟨vs,d⟩
 have hL:X.env.locals∉ch:=λz=>by
  obtain⟨vs,d⟩:=chne _ z _ hoL;rw[dL]at d;cases d
 refine I.stepN (g':=s.gens) (t':=s.toks) (d':=s.drawn) (ch:=ch) (λb hb=>⟨.inr ?_,λz=>hL (z ▸ hb),λx c ec z=> ?_,λp hp z=>(EH b hb).1 (.inr ⟨p,hp,z⟩)⟩)
  (λb o hbL hbf hbc eb _=>k1 b o eb hbc λz=>(ak.mp (I.stkSub b z)).elim hbL hbf) (λb o _ _ hbc eb _=>k2 b o eb hbc) (λ_ _ _ _ n=>n) (λb o hbc eb=> ?_) (λ_ _ q=>q) (λ_ _ _ q=>q) (λb ps q=>⟨#[],by rw[q];simp⟩) (λm hm=> ?_) (λb o eb=> ?_) I.bare
 ·cases q:X.s₀.heap.get? b with
  | none=>rfl
  | some o=>exact absurd (.inl (by rw[q];simp)) (EH b hb).1
 ·obtain⟨v,oc,hoc,hd⟩:=I.cell x c ec;obtain⟨vs,d⟩:=chne c (z ▸ hb) oc hoc;rw[hd]at d;cases d
 ·obtain⟨sl,q⟩:=k2 b o eb hbc;exact⟨_,q⟩
 ·revert hm;apply u3;rintro o' es' ep' ⟨ho',r'⟩;rw[hoL]at ho';cases ho';obtain⟨sl,q⟩:=k2 _ _ hoL hL;exact x3 _ es' ep' ⟨q,r'⟩
 ·refine(I.hok b o eb).stay (λc u hc q=>k1 c u q ?_ ?_) (λ_ q=>q) λ_ _ q=>q
  ·intro z
   have fr:=(EH c z).2.1;rcases hc with rfl | hc
   ·rw[eb]at fr;cases fr
   ·rw[hc]at fr;cases fr
  ·intro z
   have fr:=I.stkFree c z;rcases hc with rfl | hc
   ·rw[eb]at fr;cases fr
   ·rw[hc]at fr;cases fr
def E9(P:au)(w:World):HQ:=λouter H s E e s'=>∃ (ea:Addr) (cls:Value) (H':Hp),e=.ref ea/\s'.os=s.os/\oq s'.gens/\Un (EX outer) [] H H' s.heap s'.heap/\HOk P w H' s'.heap/\Fly (λa=>s.heap.get? a≠none) H' s'.heap ea cls/\E cls none H'
def kQ{P:au}{w:World}{outer:List Env}{H:Hp}{s:ε}{e:Value}{s':ε}(h:E9 P w outer H s (λ_ _ _=>False) e s'):False:=by
 revert h;apply u3;rintro _ _ _ ⟨_,_,_,_,_,_,f⟩;exact f
def XOk.passes{E:St->XK}(x:XOk X E):HR (E9 X.prog X.w) X E:=λAB σ H s e s' I h=>by
 revert h;apply u3;rintro ea cls H' ⟨rfl,os,bare,un,hok,F,q⟩;refine x.go AB σ H' s' ea cls (I.call' (ch:=[]) os un hok bare λb z=>absurd z (by simp)) (F.mono λa z=> ?_) q;rcases z with z | ⟨p,hp,rfl⟩
 ·cases q0:X.s₀.heap.get? a with
  | none=>exact absurd q0 z
  | some o =>
   obtain⟨o',e⟩:=I.base.there a o q0 (by rw[x.ex];simp);rw[e];simp
 ·rw[(I.pin p hp).1];simp
def IT{P:au}{w:World}:HR (E9 P w) X (λ_=>E0):=λ_ _ _ _ _ _ _ h=>(kQ h).elim
end
def Py{P:au}{w:World}{K:η}{mg:Str->Option Value}{base:Heap}{N:List Str}{qual:Str}{scope:Scope}{f:Addr}{cd:Value}{A:bg}{outer:List Env}{s:ε}{H:Hp}{E:XK} :
  XOk (IP (E9 P w) P w K mg base N qual scope f cd A outer s H E) (λ_=>E) where
 po:=PassesOwn.leaving
 ex:=rfl
 calm:=rfl
 go:=λAB σ H' s' e cls I F q=>by
  have MF:(A.deeper (t_ qual scope s.heap.objs.size f cd)).frames=some (t_ qual scope s.heap.objs.size f cd::outer):=I.ok.frames
  show wpAny _ _ (leaving _ _) _ _ _;unfold leaving;refine δ (kO MF I.stack rfl F (λa z=>I.notbad rfl (kP z)) (λa z=>I.hok.fresh z) λh' N=> ?_)
  have I':=I.noted N;exact x3 e cls H' ⟨rfl,I'.os,I'.bare,I'.base,I'.hok,N.fly.mono λa z=>.inl z,q⟩
structure Exc(K:η)(C:Addr):Prop where
 ex:W.excIn K C [.type "ValueError",.type "Exception",.type "BaseException",.type "object"] "ValueError.__new__"=true
def Exc.obj{K:η}{C:Addr}{h:Heap}(x:Exc K C)(X:K.In h):∃ (tl:List Value) (N:Addr) (nm q:Str) (bs:List Value) (hdct:Bool) (sn:List Str) (sub:List Value) (ab:Bool) (col:Option Bool) (dd:Option Addr) (k0 k1 k2 k3 k5:Option Value) (mN:Str->Option Value),
  h.get? C=some (excClassObj nm q C N bs tl hdct sn sub ab col dd k0 k1 k2 k3 k5 "ValueError.__new__")/\h.Ns N mN/\mN "__init__"=none/\OwnTail h [.type "ValueError",.type "Exception",.type "BaseException",.type "object"] tl:=by
 have q:=x.ex;unfold W.excIn at q;split at q
 ·rename_i dd cd sl ho;split at q
  ·rename_i C' bm k0 k1 k2 k3 n k5 hm hs;simp only[dg,beq_iff_eq,Au]at q;obtain⟨⟨⟨⟨⟨rfl,rfl⟩,hdel⟩,ht⟩,hok⟩,hni⟩:=q;obtain⟨nm,bs,mro,ns,qn,hd,sn,sub,ab,col,del⟩:=cd;dsimp only at hm hdel hok hni;subst hm hdel;obtain⟨l⟩:=sl;simp only at hs;subst hs;exact NF bm ns nm qn bs hd sn sub ab col dd k0 k1 k2 ⟨k3,k5,_,X _ _ ho,.of_isNs (W.isNs_of_in X hok),W.nsMap_none_of_in X hok hni,W.tail_of_in X ht⟩
  ·cases q
 ·cases q
def HV(C:Addr)(E:St->XK)(t:TA):TS:=λ_ σ H=>t σ H λvs H1=>vs.length<=sizeLine/\E σ (.ref C) none H1
section
variable{X:Cx}{E:St->XK}{C:Addr}{x:Str}{np D4 pos:Pos}{e:Expr}{es:List Expr}{t:TA}
def JQ(hx:XOk X E)(c:Exc X.K C)(hg:Gl X x)(hm:X.mg x=some (.ref C))(ha:PA X (e::es) t)(hdb:(x ==("__debug__":Str))=false:=by decide)
  (he:af (e::es) X.env=(false,eval e X.env)::af es X.env:=by rfl) (CK:(gi D4 (af es X.env)).any (·.1)=false:=by rfl) :
  PS X (.Raise (some (.Call (.Name x np) (e::es) [] D4)) none pos) (HV C E t):=by
 intro AB s σ H D I h;refine NG ?_ (c.obj I.mod.kin);rintro tl N nm q bs hdct sn sub ab col dd k0 k1 k2 ⟨k3,k5,mN,hC,hN,hni,T⟩
 have hpl2:(gi D4 (af (e::es) X.env)).any (·.1)=false:=by
  rw[he]
  show(false || (gi D4 (af es X.env)).any (·.1))=false;rw[CK];rfl
 refine wpAny_Raise_call_subT (C:=C) (nm:=nm) (q:=q) (N:=N) (bs:=bs) (bm:=tl) (hdct:=hdct) (sn:=sn) (sub:=sub) (ab:=ab) (col:=col) (dd:=dd) (k0:=k0) (k1:=k1) (k2:=k2) (k3:=k3) (k5:=k5)
  PySem.F.excBase_ValueError (mN:=mN) (T.hasType PySem.F.excBase_ValueError.hasBase) (I.ok.hd hx.calm) hpl2 hni (NJ I hg hm ⟨rfl,?_⟩ hdb)
 have hq:=ha D4 AB s σ H _ I h;rw[he]at hq ⊢;refine s_ (A1 hq λus s1 ⟨vs,H1,I1,r,hz,q1⟩=>⟨rfl,?_,I1.bk _ _ hC,hN.keeps I1.bk,T.keeps I1.bk,λh' ea hM=> ?_⟩)
 ·show us.length<=_;rw[<-r.length];exact hz
 ·have I2:Inv X AB σ H1 { s1 with heap:=h' }:=I1.kept (t':=s1.toks) hM.keeps;obtain⟨tt,h1,h2,h3⟩:=hM.there;refine hx.go AB σ H1 _ ea (.ref C) I2 ⟨λz=>I1.notbad hx.ex hM.new z,I1.hok.nh hM.new,y2 ⟨h1,rfl,rfl,rfl,.inl rfl⟩⟩ q1
end
end L2
namespace L2
section
variable(P:au)(w:World)(K:η)(mg:Str->Option Value)(base:Heap)
structure SO(k:Nat)(x:Str)(ps:List Str)(sp:Sp):Prop where
 ex:∃ (f:Addr) (fd:dr),FnOk P w K mg base (E9 P w) k f fd ps sp/\mg x=some (.ref f)/\mq K (.ref f)=true/\Binds K fd ps []
structure NX(C:Addr)(k:Nat)(m:Str)(ps:List Str)(sp:Sp):Prop where
 ex:∃ (f:Addr) (fd:dr),FnOk P w K mg base (E9 P w) k f fd ps sp/\R3 K C m f/\Binds K fd ps []
structure WJ(C:Addr)(k:Nat)(x:Str)(ps:List Str)(sp:Sp):Prop where
 ex:∃ (f:Addr) (fd:dr),FnOk P w K mg base (E9 P w) k f fd ps sp/\Mk K C f/\mg x=some (.ref C)/\Binds K fd ps []
end
section
variable{X:Cx}{E:St->XK}{k:Nat}{x m:Str}{ps:List Str}{sp:Sp}{C:Addr}{p pos DJ:Pos}{e o:Expr}{es:List Expr}{ta:TE}{t:TA}
def O9(c:SO X.prog X.w X.K X.mg X.base k x ps sp)(hr:Room k X.A)(hp:HR (E9 X.prog X.w) X E)(hg:Gl X x)(ha:PA X (e::es) t)(hdb:(x ==("__debug__":Str))=false:=by decide)
  (he:af (e::es) X.env=(false,eval e X.env)::af es X.env:=by rfl) (CK:(gi pos (af es X.env)).any (·.1)=false:=by rfl):PE X (.Call (.Name x p) (e::es) [] pos) (NR sp [] E t):=by
 refine u2 ?_ c.ex;rintro f fd ⟨F,hm,hk,hb⟩;exact Lg F hr hg hm hk hb .nil hp ha hdb he CK
def GJ{pl:Sem Bool}(he:PE X o ta)(cl:Cls X.K C)(c:NX X.prog X.w X.K X.mg X.base C k m ps sp)(hr:Room k X.A)(hp:HR (E9 X.prog X.w) X E)(ha:PA X (e::es) t)
  (hst:af (e::es) X.env=(false,eval e X.env)::af es X.env:=by rfl) (CK:(gi pos (af es X.env)).any (·.1)=false:=by rfl)
  (ht:eval (.Call (.Attribute o m DJ) (e::es) [] pos) X.env=(do
   let ov ← eval o X.env
   wx DJ.atName
   let (f,first) ← oy [ov] (rk ov m pl)
   xy pos f first (gi pos (af (e::es) X.env)) (sy pos (ke [] X.env))):=by rfl):PE X (.Call (.Attribute o m DJ) (e::es) [] pos) (KI C m sp [] E ta t):=by
 refine u2 ?_ c.ex;rintro f fd ⟨F,hm,hb⟩;exact Lh he cl hm F hr hb .nil hp ha hst CK ht
def Pz{pl:Sem Bool}(he:PE X o ta)(cl:Cls X.K C)(c:NX X.prog X.w X.K X.mg X.base C k m ps sp)(hr:Room k X.A)(hp:HR (E9 X.prog X.w) X E)
  (ht:eval (.Call (.Attribute o m DJ) [] [] pos) X.env=(do
   let ov ← eval o X.env
   wx DJ.atName
   let (f,first) ← oy [ov] (rk ov m pl)
   xy pos f first (gi pos (af [] X.env)) (sy pos (ke [] X.env))):=by rfl):PE X (.Call (.Attribute o m DJ) [] [] pos) (KI C m sp [] E ta BV):=by
 refine u2 ?_ c.ex;rintro f fd ⟨F,hm,hb⟩;exact Lj he cl hm F hr hb .nil hp ht
def PD(c:WJ X.prog X.w X.K X.mg X.base C k x ps sp)(hr:Room (k+1) X.A)(hp:HR (E9 X.prog X.w) X E)(hg:Gl X x)(ha:PA X (e::es) t)(hdb:(x ==("__debug__":Str))=false:=by decide)
  (he:af (e::es) X.env=(false,eval e X.env)::af es X.env:=by rfl) (CK:(gi pos (af es X.env)).any (·.1)=false:=by rfl):PE X (.Call (.Name x p) (e::es) [] pos) (O5 C sp [] E t):=by
 refine u2 ?_ c.ex;rintro f fd ⟨F,M,hm,hb⟩;exact Ll M F hr hg hm hb .nil hp ha hdb he CK
end
def Fun.okE{P:au}{w:World}{K:η}{mg:Str->Option Value}{base:Heap}{x qual:Str}{st:Stmt}{f:Addr}{fd:dr}{N ps:List Str}{k:Nat}{sp:Sp}(F:Fun K x qual st f fd)(S:FnScope N ps (A7 st))(len:∀ vs H Q E,sp vs H Q E->vs.length=ps.length)
  (iN:∀ (CH:Value) (A:bg) (outer:List Env) (s:ε) (H:Hp) (vs:List V) (Q:VK) (E:XK),Room k (A.deeper (t_ qual (A7 st) s.heap.objs.size f CH))->sp vs H Q E ->
   ∃ t,G7 (IP (E9 P w) P w K mg base N qual (A7 st) f CH A outer s H E) (HU st) t/\t { nx:=λ_ H'=>Q .non H',rt:=Q } (start N vs) H):FnOk P w K mg base (E9 P w) (k+1) f fd ps sp:=by
 refine u9 ?_ F.ex;rintro oc od kV doc pm an CH ct osl ⟨rfl,l,c⟩;exact Lp l c S len λA outer s H vs Q E hr h=>iN CH A outer s H vs Q E hr h
def GV(mg:Str->Option Value)(x:Str)(v:V):Prop:=∃ u,mg x=some u/\RelV v u
def WK{X:Cx}{x:Str}{v:V}{pos:Pos}(g:GV X.mg x v)(hg:Gl X x)(hd:(x ==("__debug__":Str))=false:=by decide):PE X (.Name x pos) (tC v):=by
 obtain⟨u,hm,r⟩:=g;exact Hg hg hm r hd
abbrev Cx.tri(X:Cx)(pn:List (Addr × Obj))(xe:Value->ε->Prop):Cx:={ X with pn:=pn,xe:=xe }
abbrev Cx.hand(X:Cx)(e:Addr):Cx:={ X with A:=X.A.mark (some (.ref e)),calm:=false,xe:=λ_ _=>False }
section
variable{X:Cx}{AB:List (Addr × Obj)}{σ:St}{H:Hp}{s:ε}
def Cx.Ok.tri{pn:List (Addr × Obj)}{xe:Value->ε->Prop}(ok:X.Ok):(X.tri pn xe).Ok :=
 ⟨ok.mod,ok.kind,ok.glob,ok.blt,ok.above,ok.inj,ok.has,ok.cab,ok.hd,ok.frames,ok.stk,ok.exf,ok.bs,ok.bsz,ok.noex,ok.exfs,ok.funs,ok.frf⟩
def Inv.tri{xe:Value->ε->Prop}(I:Inv X AB σ H s):Inv (X.tri (X.pn++AB) xe) [] σ H s :=
 ⟨I.ok.tri,I.os,I.bare,I.base,I.loc,I.cell,I.free,I.freeC,λp hp=>I.pin p (by simpa using hp),I.hok,I.len⟩
def Cx.Ok.untri{pn:List (Addr × Obj)}{xe:Value->ε->Prop}(ok:(X.tri pn xe).Ok):X.Ok :=
 ⟨ok.mod,ok.kind,ok.glob,ok.blt,ok.above,ok.inj,ok.has,ok.cab,ok.hd,ok.frames,ok.stk,ok.exf,ok.bs,ok.bsz,ok.noex,ok.exfs,ok.funs,ok.frf⟩
def Inv.untri{pl:List (Addr × Obj)}{xe:Value->ε->Prop}(I:Inv (X.tri (X.pn++AB) xe) pl σ H s):Inv X AB σ H s :=
 ⟨I.ok.untri,I.os,I.bare,I.base,I.loc,I.cell,I.free,I.freeC,λp hp=>I.pin p (gr _ hp),I.hok,I.len⟩
def Cx.Ok.hand{e:Addr}(ok:X.Ok):(X.hand e).Ok :=
 ⟨ok.mod,ok.kind,ok.glob,ok.blt,ok.above,ok.inj,ok.has,ok.cab,(λz=>nomatch z),ok.frames,ok.stk,ok.exf,ok.bs,ok.bsz,ok.noex,ok.exfs,ok.funs,ok.frf⟩
def Inv.hand{e:Addr}(I:Inv X AB σ H s):Inv (X.hand e) AB σ H s:=⟨I.ok.hand,I.os,I.bare,I.base,I.loc,I.cell,I.free,I.freeC,I.pin,I.hok,I.len⟩
def Inv.unhand{e:Addr}(ok:X.Ok)(I:Inv (X.hand e) AB σ H s):Inv X AB σ H s:=⟨ok,I.os,I.bare,I.base,I.loc,I.cell,I.free,I.freeC,I.pin,I.hok,I.len⟩
end
def PF(e:Addr)(cls:Value):Heap->Prop:=λh=>∃ oe vs,h.get? e=some oe/\oe.cls=cls/\oe.dict=none/\oe.data=.fields vs
abbrev TH:=Value->Ends->St->Hp->Prop
def WL:TH:=λ_ _ _ _=>False
def PJ(p:Value->Option Bool)(ts:TS)(rest:TH):TH:=λcls D σ H=>(p cls=some true/\ts D σ H)\/(p cls=some false/\rest cls D σ H)
def Ends.drop(D:Ends)(i:Nat):Ends:={ nx:=λσ H=>D.nx (σ.set i none) H,rt:=D.rt,bk:=λσ H=>D.bk (σ.set i none) H,ct:=λσ H=>D.ct (σ.set i none) H }
def PH(X:Cx)(hs:List vz)(th:TH):Prop :=
 ∀ (AB:List (Addr × Obj)) (s:ε) (σ:St) (H:Hp) (D:Ends) (e:Addr) (cls:Value),X.ex=[]->Inv X AB σ H s->Fly (X.bad AB) H s.heap e cls->th cls D σ H ->
  wpAny (model X.prog X.w) X.A (handleBy (.ref e) X.env hs) (SP X AB D) X.xe s
def PX(X:Cx)(t:Expr)(p:Value->Option Bool):Prop :=
 ∀ (AB:List (Addr × Obj)) (s:ε) (σ:St) (H:Hp) (e:Addr) (cls:Value) (b:Bool) (Q:Bool->ε->Prop) (E:Value->ε->Prop),Inv X AB σ H s->Fly (X.bad AB) H s.heap e cls->p cls=some b ->
  (∀ s',Inv X AB σ H s'->Fly (X.bad AB) H s'.heap e cls->Q b s')->wpAny (model X.prog X.w) (X.A.mark (some (.ref e))) (eval t X.env) (λc s1=>wpAny (model X.prog X.w) (X.A.mark (some (.ref e))) (excMatches (.ref e) c) Q E s1) E s
def WM(tb:(St->XK)->TS)(th:TH):TS:=λD σ H=>tb (λσ' cls _ H'=>th cls D σ' H') D σ H
section
variable{X:Cx}{hs:List vz}{h₀:vz}{th:TH}{body:List Stmt}{tb:(St->XK)->TS}{pos:Pos}
def Qb:PH X [] WL:=λ_ _ _ _ _ _ _ _ _ _ h=>h.elim
def Qc{bad:Addr->Prop}{H:Hp}{h:Heap}{e:Addr}{cls:Value}{M:Model}(F:Fly bad H h e cls):W.Looks M h (typeOf (.ref e)) cls:=by
 obtain⟨_,_,oe,vs,h1,h2,_⟩:=F;subst h2;exact(W.Looks.ld h1).andThen .now
def Qd{M:Model}{A:bg}{E:Value->ε->Prop}{s:ε}{bad:Addr->Prop}{H:Hp}{fr:List Addr}{e:Addr}{cls:Value}{Q:Unit->ε->Prop}(F:Fly bad H s.heap e cls)
  (h:∀ h',WH fr bad H e cls s.heap h'->Q () { s with heap:=h' }):wpAny M A (wn (.ref e) none) Q E s:=by
 have F0:=F;obtain⟨nb,frr,oe,vs,he,OT,VO,hd,htb⟩:=F;unfold wn;rcases htb with h1 | ⟨T,oT,ts,h1,nbT,frT,neT,eT,dT,h3⟩
 ·refine δ (gy he hd h1 ?_);rw[if_neg (by decide)];exact μ (h s.heap ⟨⟨[],(λb hb=>nomatch hb),λb o eb _ _=>eb,λb o eb _=>⟨o.slots,eb⟩⟩,F0⟩)
 ·refine δ (gy he hd h1 ?_);rw[if_pos (show(ba T != de)=true from by simp)]
  have hs3:3<ts.size:=(fj.mp h3).1;refine pd eT dT hs3 (h _ ?_)
  have oth:∀ b,b≠T->(s.heap.update T (ss (·.setIfInBounds 3 ((none:Option Addr).elim de λf=>ir f)))).get? b=s.heap.get? b:=λb hb'=>ca _ _ (di hb');refine⟨⟨[T],λb hb=> ?_,λb o eb hb _=>(oth b λz=>hb (by simp[z])).trans eb,λb o eb hb=>⟨o.slots,(oth b λz=>hb (by simp[z])).trans eb⟩⟩,nb,frr,x2 oe vs ⟨(oth e (di neT)).trans he,OT,VO,hd,.inr (x3 T _ _ ⟨h1,nbT,frT,neT,fz _ eT (p_ (ix dT _)),ix dT _,by simp[hs3]⟩)⟩⟩;rw[ο]at hb;subst hb;exact⟨nbT,frT,x2 oT ts ⟨eT,dT⟩⟩
def SP.unhand{AB:List (Addr × Obj)}{D:Ends}{e:Addr}{f:Flow}{s:ε}(ok:X.Ok)(h:SP (X.hand e) AB D f s):SP X AB D f s:=by
 cases f with
 | next=>revert h;apply u2;rintro σ1 H1 ⟨I1,q⟩;exact x2 σ1 H1 ⟨I1.unhand ok,q⟩
 | brk=>revert h;apply u2;rintro σ1 H1 ⟨I1,q⟩;exact x2 σ1 H1 ⟨I1.unhand ok,q⟩
 | cont=>revert h;apply u2;rintro σ1 H1 ⟨I1,q⟩;exact x2 σ1 H1 ⟨I1.unhand ok,q⟩
 | ret u=>revert h;apply u3;rintro v σ1 H1 ⟨I1,r,q⟩;exact x3 v σ1 H1 ⟨I1.unhand ok,r,q⟩
def kR{t:Expr}{b₀:Stmt}{suite:List Stmt}{hp:Pos}{p:Value->Option Bool}{ts:TS}{rest:List vz}{tr:TH}(ht:PX X t p)(hsu:∀ e,G7 (X.hand e) (b₀::suite) ts)(hr:PH X rest tr) :
  PH X (.ExceptHandler (some t) none (b₀::suite) hp::rest) (PJ p ts tr):=by
 intro AB s σ H D e cls hx I F h
 have hmain:∃ b,p cls=some b/\(b=true->ts D σ H)/\(b=false->tr cls D σ H):=by
  rcases h with⟨h1,h2⟩ | ⟨h1,h2⟩
  ·exact⟨true,h1,λ_=>h2,λz=>nomatch z⟩
  ·exact⟨false,h1,(λz=>nomatch z),λ_=>h2⟩
 obtain⟨b,hp',hT,hF⟩:=hmain;refine wpAny_handleBy_cons (codeAny_handlers_test (ht AB s σ H e cls b _ _ I F hp' λs' I' F'=> ?_)) (by intro z;cases z);cases b with
 | false=>exact hr AB s' σ H D e cls hx I' F' (hF rfl)
 | true =>
  refine codeAny_handlers_suite (Qd (fr:=EX X.stack) F' λh' N=> ?_)
  have I2:Inv (X.hand e) AB σ H { s' with heap:=h' }:=(I'.noted N).hand;refine ln (hsu e AB _ σ H D I2 (hT rfl)) (λf s2 h2=>h2.unhand I.ok) λ_ _ z=>z.elim
def Qg(hx:X.ex=[])(hcalm:X.calm=true)(hst:X.stack=X.env::X.outer)(MF:X.env.frame=some X.env.locals)(hb:∀ (E:St->XK) (pn:List (Addr × Obj)) (xe:Value->ε->Prop),XOk (X.tri pn xe) E->G7 (X.tri pn xe) body (tb E))(hh:PH X (h₀::hs) th) :
  PS X (.Try body (h₀::hs) [] [] pos) (WM tb th):=by
 intro AB s σ H D I h;refine wpAny_Try_except ?_
 let xe:Value->ε->Prop:=λe s₁=>wpAny (model X.prog X.w) X.A (D_ e X.env) (λ_ s₂=>wpAny (model X.prog X.w) X.A (wn e none) (λ_ s₃=>wpAny (model X.prog X.w) X.A (handleBy e X.env (h₀::hs)) (SP X AB D) X.xe s₃) X.xe s₂) X.xe s₁
 have xok:XOk (X.tri (X.pn++AB) xe) (λσ' cls _ H'=>th cls D σ' H'):=by
  refine⟨PassesOwn.looking,hx,hcalm,λpl σ' H' s' e cls I' F' q=> ?_⟩
  have Iu:=I'.untri;refine kO (hst ▸ Iu.ok.frames) (hst ▸ Iu.stack) MF F' (λa z=>I'.notbad hx (kP z)) (λa z=>I'.hok.fresh z) λh' N=> ?_;rw[<-hst]at N
  have I2:Inv (X.tri (X.pn++AB) xe) pl σ' H' { s' with heap:=h' }:=I'.noted N;exact hh AB _ σ' H' D e cls hx I2.untri (N.fly.mono λa z=>by
   rcases z with z | ⟨p,hp,z⟩
   ·exact .inl z
   ·exact .inr ⟨p,gr _ hp,z⟩) q
 refine ln (hb _ _ xe xok [] s σ H D I.tri h) (λf s1 hs1=> ?_) λ_ _ z=>z;cases f with
 | next =>
  revert hs1;apply u2;rintro σ1 H1 ⟨I1,q⟩;exact tw (x2 σ1 H1 ⟨I1.untri,q⟩)
 | brk=>revert hs1;apply u2;rintro σ1 H1 ⟨I1,q⟩;exact x2 σ1 H1 ⟨I1.untri,q⟩
 | cont=>revert hs1;apply u2;rintro σ1 H1 ⟨I1,q⟩;exact x2 σ1 H1 ⟨I1.untri,q⟩
 | ret u=>revert hs1;apply u3;rintro v σ1 H1 ⟨I1,r,q⟩;exact x3 v σ1 H1 ⟨I1.untri,r,q⟩
end
end L2
namespace L2
mutual
inductive Rep(K:η)(H:Hp):V->kj->Prop
 | non:Rep K H .non .none
 | bl (b:Bool):Rep K H (.bl b) (.bool b)
 | int (i:Int):Rep K H (.int i) (.int i)
 | str (x:Str):Rep K H (.str x) (.str x)
 | lst {a:Addr} {xs:List V} {ds:List kj}:SqL K H a xs->RepAll K H xs ds->Rep K H (.ref a) (.list ds)
 | tup {a:Addr} {xs:List V} {ds:List kj}:SqT K H a xs->RepAll K H xs ds->Rep K H (.ref a) (.tuple ds)
inductive RepAll(K:η)(H:Hp):List V->List kj->Prop
 | nil:RepAll K H [] []
 | cons {v:V} {d:kj} {vs:List V} {ds:List kj}:Rep K H v d->RepAll K H vs ds->RepAll K H (v::vs) (d::ds)
end
section
variable{X:Cx}{AB:List (Addr × Obj)}{σ:St}{H:Hp}{s:ε}
mutual
def Rep.reads(I:Inv X AB σ H s):∀ {v:V} {d:kj} {u:Value},Rep X.K H v d->RelV v u->∃ as,Reads s.heap u d as
 | _,_,_,.non,r=>by cases (show _=de from r);exact⟨_,.none⟩
 | _,_,_,.bl b,r=>by cases (show _=um b from r);exact⟨_,.bool b⟩
 | _,_,_,.int i,r=>by obtain⟨t,e⟩:=(show ∃ t,_=gg i t from r);cases e;exact⟨_,.int i t⟩
 | _,_,_,.str x,r=>by obtain⟨t,e⟩:=(show ∃ t,_=we x t from r);cases e;exact⟨_,.str x t⟩
 | _,_,_,.lst (a:=a) h hr,r=>by
  cases (show _=ba a from r);obtain⟨its,rv,p,_⟩:=I.list h;obtain⟨as,q⟩:=RepAll.reads I hr rv;obtain⟨o,e1,e2,n,e3⟩:=p.isList;exact⟨_,.list e1 e2 e3 q⟩
 | _,_,_,.tup (a:=a) h hr,r=>by
  cases (show _=ba a from r);obtain⟨its,rv,p,_⟩:=I.tuple h;obtain⟨as,q⟩:=RepAll.reads I hr rv;obtain⟨o,e1,e2,n,e3⟩:=p;exact⟨_,.tuple e1 e2 e3 q⟩
def RepAll.reads(I:Inv X AB σ H s):∀ {vs:List V} {ds:List kj} {us:List Value},RepAll X.K H vs ds->Vals vs us->∃ as,ReadsAll s.heap us ds as
 | _,_,_,.nil,.nil=>⟨_,.nil⟩
 | _,_,_,.cons h hr,.cons r rr=>by
  obtain⟨as,q⟩:=Rep.reads I h r;obtain⟨bs,q2⟩:=RepAll.reads I hr rr;exact⟨_,.cons q q2⟩
end
end
abbrev shp(d:kj):Prop:=PySem.SeqAt.shaped d=true
def EE(K:η):R2:=λx y H Q=>if FO x y=true then Q (.bl (decide (x=y))) H else ∃ d e,Rep K H x d/\Rep K H y e/\shp d/\shp e/\Q (.bl (Kn d e)) H
def EI(K:η):R2:=λx y H Q=>if FO x y=true then Q (.bl (!decide (x=y))) H else ∃ d e,Rep K H x d/\Rep K H y e/\shp d/\shp e/\Q (.bl (!PyData.eqv d e)) H
section
variable{X:Cx}
def Qh(hu:X.A.units+64<cLine):CI X (cw .Eq) (EE X.K):=by
 intro AB s σ H x y v u Q I rx ry h;unfold EE at h;split at h
 ·rename_i hs;exact Jw AB s σ H x y v u Q I rx ry ⟨hs,h⟩
 ·revert h;apply u2;rintro d e ⟨rd,re,sd,se,q⟩;obtain⟨as,ra⟩:=rd.reads I rx;obtain⟨bs,rb⟩:=re.reads I ry;exact eq_dataH ra rb sd se hu (x2 (.bl _) H ⟨I,rfl,q⟩)
def Qj(hu:X.A.units+64<cLine):CI X (cw .NotEq) (EI X.K):=by
 intro AB s σ H x y v u Q I rx ry h;unfold EI at h;split at h
 ·rename_i hs;exact Jx AB s σ H x y v u Q I rx ry ⟨hs,h⟩
 ·revert h;apply u2;rintro d e ⟨rd,re,sd,se,q⟩;obtain⟨as,ra⟩:=rd.reads I rx;obtain⟨bs,rb⟩:=re.reads I ry;exact ne_dataH ra rb sd se hu (x2 (.bl _) H ⟨I,rfl,q⟩)
def WN(K:η):R2:=λx y H Q=>∃ a b ys,x=.ref a/\y=.ref b/\SqT K H a []/\SqT K H b ys/\Q (.ref b) H
def Qk:CI X (fv .Add) (WN X.K):=by
 intro AB s σ H x y v u Q I rx ry h;revert h;apply u3;rintro a b ys ⟨rfl,rfl,ha,hb,q⟩;cases rx;cases ry;obtain⟨its,r1,⟨⟨c1,c2,c3,c4⟩,e1,e2,n1,e3⟩,_⟩:=I.tuple ha;obtain⟨RC,r2,⟨⟨d1,d2,d3,d4⟩,f1,f2,n2,f3⟩,_⟩:=I.tuple hb;obtain rfl:c1=_:=e2;obtain rfl:c3=_:=e3;obtain rfl:d1=_:=f2;obtain rfl:d3=_:=f3;cases r1;exact Aa ⟨_,e1,rfl⟩ ⟨_,f1,rfl⟩ wl yx PySem.F.slot_tuple_add PySem.F.entry_tuple_add (PySem.F.args_tuple_add_2 _ _) (tuple_addW0 a b #[] RC.toArray n1 n2 c2 d2 c4 d4 rfl) ⟨e1,f1,x2 (.ref b) H ⟨I,rfl,q⟩⟩
def B1(K:η):R2:=λx y H Q=>match x,y with
 | .int i,.int j=>Q (.int (i+j)) H
 | .str i,.str j=>i.length+j.length<=sizeLine/\Q (.str (i++j)) H
 | .ref _,.ref _=>WC x y H Q\/V5 K x y H Q\/WN K x y H Q
 | _,_=>False
def CJ:CI X (fv .Add) (B1 X.K):=by
 intro AB s σ H x y v u Q I rx ry h;cases x<;>cases y<;>simp only[B1]at h
 ·exact Jg AB s σ H _ _ v u Q I rx ry (y2 ⟨rfl,rfl,h⟩)
 ·exact Kj AB s σ H _ _ v u Q I rx ry (y2 ⟨rfl,rfl,h⟩)
 ·rcases h with h | h
  ·exact Nk AB s σ H _ _ v u Q I rx ry h
  rcases h with h | h
  ·exact Mb AB s σ H _ _ v u Q I rx ry h
  ·exact Qk AB s σ H _ _ v u Q I rx ry h
def HA:R2:=λx y H Q=>match x,y with
 | .int i,.int j=>Q (.bl (decide (i<j))) H
 | .str i,.str j=>Q (.bl (decide (i.cps.toList<j.cps.toList))) H
 | _,_=>False
def F8:R2:=λx y H Q=>match x,y with
 | .int i,.int j=>Q (.bl (decide (i<=j))) H
 | .str i,.str j=>Q (.bl (!decide (j.cps.toList<i.cps.toList))) H
 | _,_=>False
end
end L2
namespace L2
def Ql:fillsNumberSlot (.type "tuple") "mul"=pure false :=
 PySem.fillsNumberSlot_seq (id:="tuple.__mul__") (r:=some (.builtin "tuple.__rmul__")) rn.lookup (by decide +kernel) A_.lookup (by decide +kernel)
def Qm:seqRepeat? (.type "tuple")=pure (some (.builtin "tuple.__mul__")):=by
 unfold seqRepeat?;rw[PySem.seqSlot_of (T:="tuple") (name:="__mul__") (id:="tuple.__mul__") rn.lookup (by decide +kernel),PySem.seqSlot_of (T:="tuple") (name:="__rmul__") (id:="tuple.__rmul__") A_.lookup (by decide +kernel)]
 rfl
def Qp(a:Int)(t:Tok)(l:Addr)(items:Array Value)(dd:Option Addr)(n:Nat)(sl:Array (Option Value)) :
  Meets (jw.«int.__rmul__» ⟨[.int a t,.ref l],[]⟩) (λ_ R s=>s.heap.get? l=some ⟨.type "tuple",dd,.seq items n,sl⟩/\R (.ok (.ret Value.notImplemented)) s) :=
 .of_wp λprog w A R s h=>by obtain⟨hp,g,d,tk,os⟩:=s;obtain⟨hl,h⟩:=h;wp_walk;exact⟨_,rfl,h⟩
def Qq(l:Addr)(items:Array Value)(dd:Option Addr)(n:Nat)(sl:Array (Option Value))(x:Int)(u:Tok)(h1:1<x)(h2:x<2 ^ 63)(hne:items.isEmpty=false)(hz:items.size * x.toNat<=sizeLine) :
  Meets (jw.«tuple.__mul__» ⟨[.ref l,.int x u],[]⟩) (λ_ R s=>s.heap.get? l=some ⟨.type "tuple",dd,.seq items n,sl⟩ ∧
   R (.ok (.ret (ba s.heap.objs.size))) { s with heap:=s.heap.push { cls:=jp "tuple",data:=Hi (xf (λx1 x2=>x1++x2) #[] (ah x.toNat items)) } }) :=
 .of_wp λprog w A R s h=>by
  obtain⟨hp,g,d,tk,os⟩:=s;obtain⟨hl,h⟩:=h
  have hsl:(sizeLine:Nat)<=(2 ^ 63 - 1) / 8:=by decide
  have B8:(xf (λx1 x2=>x1++x2) #[] (ah x.toNat items)).size<=sizeLine:=by
   have:=SB items.toList x.toNat [];simp only[ua,Array.toArray_toList]at this;rw[this];simp only[aa,List.length_flatten,List.map_replicate,List.sum_replicate_nat,br];rw[ji];exact hz
  have hx:∃ N:Nat,(items.size:Int) * x=(N:Int)/\N<=sizeLine:=⟨items.size * x.toNat,by rw[Int.natCast_mul,c_ (by omega)],hz⟩
  obtain⟨N,hx,hN⟩:=hx;unfold jw.«tuple.__mul__»
  wp_walk
  refine ni (by simp;omega) ?_
  wp_walk
  refine ni (by simp only[hne,vx];simp;omega) ?_;refine ni (by simp only[hne,dt];simp;omega) ?_;refine ni (by rw[hx];exact decide_eq_false (by omega)) ?_;refine ni (by rw[hx];unfold Hn;simp;exact hN) ?_
  wp_walk
  exact⟨_,rfl,h⟩
def Qv(l:Addr)(items:Array Value)(dd:Option Addr)(n:Nat)(sl:Array (Option Value))(u:Tok) :
  Meets (jw.«tuple.__mul__» ⟨[.ref l,.int 1 u],[]⟩) (λ_ R s=>s.heap.get? l=some ⟨.type "tuple",dd,.seq items n,sl⟩/\R (.ok (.ret (ba l))) s) :=
 .of_wp λprog w A R s h=>by
  obtain⟨hp,g,d,tk,os⟩:=s;obtain⟨hl,h⟩:=h;unfold jw.«tuple.__mul__»
  wp_walk
  exact⟨_,rfl,h⟩
def WO(K:η):R2:=λx y H Q=>∃ a k xs,x=.ref a/\y=.int k/\SqT K H a xs/\xs≠[]/\1<=k/\k<2 ^ 63/\xs.length * k.toNat<=sizeLine /\
 (k=1->Q (.ref a) H)/\(k≠1->∀ p,H p=none->Q (.ref p) (upd H p (.tup (ah k.toNat xs).flatten)))
section
variable{X:Cx}
def Inv.tnew{AB:List (Addr × Obj)}{σ:St}{H:Hp}{s:ε}{ys:List V}{its:List Value}(I:Inv X AB σ H s)(hv:Vals ys its)(hz:ys.length<=sizeLine) :
  Inv X AB σ (upd H s.heap.objs.size (.tup ys)) { s with heap:=s.heap.push { cls:=.type "tuple",data:=.seq its.toArray } } :=
 I.laid (t':=s.toks) (λ_ _ q=>θ _ q) (ξ _) ⟨hz,its,hv,_,ae _ rfl,rfl,0,rfl⟩
def Qw:CI X (fv .Mult) (WO X.K):=by
 intro AB s σ H x y v u Q I rx ry h;revert h;apply u3;rintro a k xs ⟨rfl,rfl,hx,hne,h1,h2,hz,q1,q2⟩;cases rx;obtain⟨t,rfl⟩:=ry;obtain⟨its,r,⟨⟨c1,c2,c3,c4⟩,e1,e2,n,e3⟩,_⟩:=I.tuple hx;obtain rfl:c1=_:=e2;obtain rfl:c3=_:=e3
 have hl:=r.length
 have he:its.toArray.isEmpty=false:=by
  cases its with
  | nil=>exact absurd (og.mp hl) hne
  | cons b t=>rfl
 refine ve (T:="tuple") (U:="int") (by decide) ⟨_,e1,rfl⟩ (λs'=>xc s' k t) Ql Fo ub Qm Ds.lookup
  (nv ub (xc s k t) Dt (Ao _ _) (Qp k t a its.toArray c2 n c4) ⟨e1,rfl,⟨_,e1,rfl⟩,?_⟩)
 by_cases hk:k=1
 ·subst hk;exact nv rn ⟨_,e1,rfl⟩ Ba (zh _ _) (Qv a its.toArray c2 n c4 t) ⟨e1,x2 (.ref a) H ⟨I,rfl,q1 rfl⟩⟩
 ·refine nv rn ⟨_,e1,rfl⟩ Ba (zh _ _) (Qq a its.toArray c2 n c4 k t (by omega) h2 he (by rw[aa,<-hl];exact hz)) ⟨e1,?_⟩
  have f0:=SB its k.toNat [];rw[ua]at f0;rw[f0];exact x2 (.ref _) _ ⟨I.tnew (r.rep k.toNat) (by rw[j5,ji];exact hz),rfl,q2 hk _ I.fresh⟩
abbrev Qx:iY:=Hm λi j=>i+j
def SQ(z:Str)(k:Int):Str:=if k<1 then Io else if(k == 1 || z.length == 0)=true then z else⟨(ah k.toNat z.cps).foldl (· ++·) #[]⟩
def Qy(z:Str)(k:Nat):(Str.mk ((ah k z.cps).foldl (· ++·) #[])).length=k * z.length:=by
 have e:∀ (m:Nat) (CY:Array Nat),((ah m z.cps).foldl (· ++·) CY).size=CY.size+m * z.cps.size:=λm=>by
  induction m with
  | zero=>intro CY;simp
  | succ m ih=>intro CY;rw[fo,fe,ih,Array.size_append,Ja];omega
 have:=e k #[];simpa [xb]using this
def Qz:R2:=λx y H Q=>∃ z k,x=.str z/\y=.int k/\0<=k/\k<=1000/\z.length<=1000/\Q (.str (SQ z k)) H
def Rb:CI X (fv .Mult) Qz:=by
 intro AB s σ H x y v u Q I rx ry h;revert h;apply u2;rintro z k ⟨rfl,rfl,h1,h2,h3,q⟩;obtain⟨t,rfl⟩:=rx;obtain⟨t',rfl⟩:=ry;refine PySem.P.mul_str (by simp;omega) (λa _=> ?_) (λa _=> ?_) ?_
 ·have:(1000:Int)<=(2 ^ 63 - 1) / k:=(Int.le_ediv_iff_mul_le (by omega)).mpr (by omega);omega
 ·have h4:z.length * k.toNat<=1000 * 1000:=e_ h3 (by omega)
  have h5:(1000 * 1000:Nat)<=sizeLine:=by decide
  unfold Builtin.Str.tooLong;exact decide_eq_false (by omega)
 ·unfold SQ at q;split
  ·rename_i c;rw[if_pos c]at q;exact⟨by show(0:Nat)<=sizeLine;decide,x2 (.str _) H ⟨I.tok _,⟨_,rfl⟩,q⟩⟩
  ·rename_i c;rw[if_neg c]at q;split
   ·rename_i d;rw[if_pos d]at q;exact x2 (.str _) H ⟨I,⟨_,rfl⟩,q⟩
   ·rename_i d;rw[if_neg d]at q;exact⟨by rw[Qy];have:=e_ (show k.toNat<=1000 by omega) h3;show _<=2 ^ 24;exact oA this rfl,x2 (.str _) H ⟨I.tok _,⟨_,rfl⟩,q⟩⟩
def HB(K:η):R2:=λx y H Q=>match x,y with
 | .int i,.int j=>CMul i j/\Q (.int (i * j)) H
 | .str z,.int k=>0<=k/\k<=1000/\z.length<=1000/\Q (.str (SQ z k)) H
 | .ref _,.int _=>WD x y H Q\/WO K x y H Q
 | _,_=>False
def LO:CI X (fv .Mult) (HB X.K):=by
 intro AB s σ H x y v u Q I rx ry h;cases x<;>cases y<;>simp only[HB]at h
 ·exact Jj AB s σ H _ _ v u Q I rx ry (y2 ⟨rfl,rfl,h⟩)
 ·exact Rb AB s σ H _ _ v u Q I rx ry (y2 ⟨rfl,rfl,h⟩)
 ·rcases h with h | h
  ·exact Nl AB s σ H _ _ v u Q I rx ry h
  ·exact Qw AB s σ H _ _ v u Q I rx ry h
def PK:R2:=λx y H Q=>match x,y with
 | .int i,.int j=>Q (.bl (decide (j<i))) H
 | _,_=>False
def KO:CI X (cw .Lt) HA:=by
 intro AB s σ H x y v u Q I rx ry h;cases x<;>cases y<;>simp only[HA]at h
 ·exact Jy AB s σ H _ _ v u Q I rx ry (y2 ⟨rfl,rfl,h⟩)
 ·obtain⟨t,rfl⟩:=rx;obtain⟨t',rfl⟩:=ry;exact PySem.P.lt_str (x2 (.bl _) H ⟨I,rfl,h⟩)
def HC:CI X (cw .LtE) F8:=by
 intro AB s σ H x y v u Q I rx ry h;cases x<;>cases y<;>simp only[F8]at h
 ·exact Jz AB s σ H _ _ v u Q I rx ry (y2 ⟨rfl,rfl,h⟩)
 ·obtain⟨t,rfl⟩:=rx;obtain⟨t',rfl⟩:=ry;exact PySem.P.le_str (x2 (.bl _) H ⟨I,rfl,h⟩)
def kS:CI X (cw .Gt) PK:=by
 intro AB s σ H x y v u Q I rx ry h;cases x<;>cases y<;>simp only[PK]at h;exact Kb AB s σ H _ _ v u Q I rx ry (y2 ⟨rfl,rfl,h⟩)
abbrev kT:R2:=λx y H Q=>y=.non/\Q (.bl (decide (x=.non))) H
abbrev kU:R2:=λx y H Q=>y=.non/\Q (.bl (!decide (x=.non))) H
variable{a:Expr}{ta:TE}{tA:TT}{pos:Pos}
abbrev WP(K:η)(ta:TE):TT:=λσ H Q=>ta σ H λx H'=>∃ k,LG K x H' k/\Q k H'
def CB(K:η):R2:=jW K
def BQ:IxR X (CB X.K):=Ml
def Rc:V->Option Int->Option Int->Hp->VK->Prop:=λx lo hi H Q=>∃ z,x=.str z/\z.length<=sizeLine/\Q (.str (Txt.slice z lo hi)) H
def kW{v:Value}{lo:Option Int}(p:x_ v lo):∃ l:Option (Int × Tok),v=partValue l/\l.map (·.1)=lo:=by
 cases p with
 | none=>exact⟨none,rfl,rfl⟩
 | int i t=>exact⟨some (i,t),rfl,rfl⟩
def Rg:SlR X Rc:=by
 intro AB s σ H x v vl vu lo hi sl Q I rx hs pl pu h;obtain⟨z,rfl,hz,q⟩:=h;obtain⟨t,rfl⟩:=rx;obtain⟨l,rfl,rfl⟩:=kW pl;obtain⟨u,rfl,rfl⟩:=kW pu;refine x2 "str" _ ⟨PySem.F.slot_str_getitem.lookup,Hf _ _ _,?_⟩;exact wpAny_getItem_str_slice (l:=l) (u:=u) (st:=none) hs rfl (post_val_or_str ⟨υ (Txt.slice_le z _ _) hz,λt' k=>x2 (.str _) H ⟨I.tok k,⟨t',rfl⟩,q⟩⟩)
def IU(K:η):V->Option Int->Option Int->Hp->VK->Prop:=λx lo hi H Q=>match x with
 | .str z=>z.length<=sizeLine/\Q (.str (Txt.slice z lo hi)) H
 | _=>jY K x lo hi H Q\/jR K x lo hi H Q
def LP:SlR X (IU X.K):=by
 intro AB s σ H x v vl vu lo hi sl Q I rx hs pl pu h;cases x<;>first
  | exact Rg AB s σ H _ v vl vu lo hi sl Q I rx hs pl pu ⟨_,rfl,h⟩
  | exact(SlR.or Mw Lz) AB s σ H _ v vl vu lo hi sl Q I rx hs pl pu h
abbrev SR:V->V->V->Hp->(Hp->Prop)->Prop:=jX
def WQ:VW X SR:=Mp
def SS(K:η)(tl:TE):TI:=λσ H R=>tl σ H λx H1=>∃ a,x=.ref a/\(((∃ xs,SqL K H1 a xs)/\R (IN K a) H1)\/((∃ xs,SqT K H1 a xs)/\R (JK K a) H1))
def WR(K:η):List V->Hp->VK->Prop:=λxs H Q=>∃ x n,xs=[x]/\R0 K x H n/\Q (.int n) H
def Rh:FX X (.builtin "len") (WR X.K):=Kl
def WS(K:η):List V->Hp->VK->Prop:=λxs H Q=>∃ p ys,xs=[.ref p]/\(SqL K H p ys\/SqT K H p ys)/\∀ l,H l=none->Q (.ref l) (upd H l (.lst ys))
def Rj:FX X (.type "list") (WS X.K):=Mz
def WT(K:η):List V->Hp->VK->Prop:=λxs H Q=>∃ p ys,xs=[.ref p]/\((SqL K H p ys/\∀ l,H l=none->Q (.ref l) (upd H l (.tup ys)))\/(SqT K H p ys/\Q (.ref p) H))
def Rk:FX X (.type "tuple") (WT X.K):=Nb
abbrev Rl:=j4
end
end L2
namespace L2
section
variable{X:Cx}{tg a:Expr}{ta:TE}{pos:Pos}
def HD{l:Expr}{tl:TE}(hl:PE X l tl):PI X tg l (SS X.K tl):=by
 intro AB s σ H R I h;refine A1 (hl AB s σ H _ I h) λv s1 hzz=> ?_;obtain⟨x,H1,I1,r1,q1⟩:=hzz;obtain⟨a,e,q1⟩:=q1;subst e;cases r1
 have fp1:∀ b∈[s1.heap.objs.size],FpOk X AB H1 b:=λb hb=>by
  have e:b=s1.heap.objs.size:=by simpa using hb
  subst e;exact I1.fpOk (ξ _) (I1.hok.fresh (ξ _))
 rcases q1 with⟨⟨xs,hq⟩,q⟩ | ⟨⟨xs,hq⟩,q⟩
 ·obtain⟨its,rv,p,hz⟩:=I1.list hq;refine vn p.isList ?_;exact x5 s1.heap.objs.size [s1.heap.objs.size] _ _ H1 ⟨rfl,I1.kept (t':=s1.toks) λb o e=>θ _ e,Hq a _,⟨_,ae _ rfl,rfl,rfl⟩,fp1,q⟩
 ·obtain⟨its,rv,p,hz⟩:=I1.tuple hq;refine wpAny_pyIter_tuple (show s1.heap.IsTuple a its.toArray from p) ?_;exact x5 s1.heap.objs.size [s1.heap.objs.size] _ _ H1 ⟨rfl,I1.kept (t':=s1.toks) λb o e=>θ _ e,Hv a _,⟨_,ae _ rfl,rfl,rfl⟩,fp1,q⟩
end
def WU(scope outer:Scope)(N cn:List Str)(cap:List Nat):Bool :=
 scope.kind == .function && scope.names.all (λy=>y.2 != .cell) && scope.names.all (λy=>y.2 != .local || scope.names.lookup y.1 == some .local) &&
 scope.names.all (λy=>y.2 != .free || outer.names.lookup y.1 == some .cell || outer.names.lookup y.1 == some .free) && cn.all (λx=>scope.names.lookup x == some .free) && (cap.map (λi=>N[i]?) == cn.map some)
def Rm{X:Cx}{scope outer:Scope}{N tn cn:List Str}{cap:List Nat}(h1:X.env.scope=outer)(h2:X.N=N)(h:WU scope outer N cn cap=true):NW X scope tn cn cap:=by
 unfold WU at h;simp only[dg,ip,uc,bne_iff_ne,beq_iff_eq]at h;obtain⟨⟨⟨⟨⟨k1,k2⟩,k3⟩,k4⟩,k5⟩,k6⟩:=h;refine⟨k1,k2,λy hy hl=>(k3 y hy).resolve_left λz=>z hl,λy hy hf=> ?_,k5,by rw[h2];exact k6⟩
 have z:=k4 y hy
 show X.env.scope.names.lookup y.1=_\/X.env.scope.names.lookup y.1=_;rw[h1];rcases z with(z | z) | z
 ·exact absurd hf z
 ·exact .inl z
 ·exact .inr z
structure ST(K:η)(C:Addr):Prop where
 ga:b_ K (.ref C) "__getattribute__"=some (some (.builtin "BaseException.__getattribute__"))
 gt:b_ K (.ref C) "__getattr__"=some none
 be:W.mroIn K C (.type "BaseException")=some true
 cl:W.isClsIn K C=true
 ha:b_ K (.ref C) "__class__"=some (some (.builtin "object.__class__"))
 hn:xw K (.builtin "object.__class__") "__get__"=some (some (.builtin "getset_descriptor.__get__"))
 tk:Ip K (.builtin "object.__class__")=some true
 mr:W.mroIn K C (.type "object")=some true
def Rp{K:η}{C:Addr}{od:Option Obj}{name:Str}{a g:Value}(hc:(Jf K C).isSome=true)(ha:b_ K (.ref C) name=some (some a))(hg:xw K a "__get__"=some (some g))(ht:Ip K a=some true) :
  W.findObj K C od name=some (.bind g a):=by
 obtain⟨cd,hc⟩:=ee.mp hc;unfold W.findObj;rw[hc,rq,ha,rq];simp[hg,ht]
def Rq{K:η}{M:Model}{A:bg}{E:Value->ε->Prop}{Q:Unit->ε->Prop}{s:ε}{x D:Addr}{ox:Obj}{nm:Value}(c:ST K D)(X:K.In s.heap)(I:Gr s.heap x ox D none)(k:Q () s) :
  wpAny M A (wo "BaseException.__getattribute__" ⟨[.ref x,nm],[]⟩) Q E s:=by
 have e1:builtinKind "BaseException.__getattribute__"=some .slot:=by decide +kernel
 have e2:splitId "BaseException.__getattribute__"=some ("BaseException","__getattribute__"):=by decide +kernel
 have L:W.Looks M s.heap (Ho (.ref x) (.type "BaseException")) true:=(I.type (M:=M)).andThen (W.looks_mroIn (M:=M) X c.be)
 have ar:=PySem.F.args_bexc_ga (.ref x) nm;obtain⟨hh,g,d,t,os⟩:=s;simp only[wo,e1,e2];refine δ (L.at ?_);simp only[Bool.not_true,iy,if_false];cases hs:Manifest.signature? "BaseException.__getattribute__" with
 | none=>exact μ k
 | some sig =>
  simp only[Ji,hs]at ar
  have z:Hr "BaseException.__getattribute__" sig ⟨[.ref x,nm],[]⟩=pure ():=ar
  show wpAny M A (Hr "BaseException.__getattribute__" sig ⟨[.ref x,nm],[]⟩) Q E _;rw[z];exact μ k
def Rv{K:η}{prog:au}{w:World}{A:bg}{E:Value->ε->Prop}{Q:Option Value->ε->Prop}{s:ε}{x D:Addr}{ox:Obj}(c:ST K D)(X:K.In s.heap)(I:Gr s.heap x ox D none)
  (k:Q (some (.ref D)) { s with toks:=s.toks+1 }):wpAny (model prog w) A (getAttr? (.ref x) "__class__") Q E s:=by
 obtain⟨hh,g,d,t,os⟩:=s
 have L0:=I.type (M:=model prog w)
 have L1:=xv (M:=model prog w) X c.ga
 have L2:=xv (M:=model prog w) X c.gt
 have L3:=W.looks_find (M:=model prog w) X I (Rp (name:="__class__") c.cl c.ha c.hn c.tk);unfold getAttr? getAttrBy? getAttrBy;refine δ (wpAny_mkText (δ (ju (d_ (δ (L0.at (δ (L1.at ?_))))))))
 show wpAny _ _ (getAttrByItsOwn _ _ _ _ _ _) _ _ _;unfold getAttrByItsOwn;refine δ (L2.at (δ (ju (d_ ?_))))
 show wpAny _ _ (boundAndCalled _ _ _) _ _ _;unfold boundAndCalled;rw[PySem.F.attr_ValueError.ga.bind (.ref x)];refine δ (μ (wz (yc PySem.F.attr_ValueError.ga.plain PySem.F.entry_bexc_ga (Rq c X I ?_))));refine δ (μ (δ (μ (δ (L0.at (δ (L3.at ?_)))))))
 show wpAny _ _ (oy [_] (call _ _) >>= ret) _ _ _;refine δ (d_ (wz (W.class_get (ox:=ox) (od:=none) X I c.mr (μ ?_))));exact W.handed_on rfl (μ k)
def Rw{K:η}{x D:Addr}(c:ST K D):W.KitX K (.ref x) (.ref D) (PF x (.ref D)):=by
 have inst:∀ {h:Heap},PF x (.ref D) h->∃ ox,Gr h x ox D none:=λ{h} ⟨oe,vs,e1,e2,e3,e4⟩=>by
  refine⟨oe,e1,e2,?_,?_⟩
  ·unfold W.notCls;rw[e4]
  ·rw[e3];trivial
 have cls:∃ cd,Jf K D=some cd:=ee.mp c.cl;refine⟨λM h _ p=>(inst p).elim λ_ I=>I.type,λM h X p=> ?_,λh tp dd its n sl X htp=> ?_,λ{prog w A E Q s} X p k=> ?_⟩
 ·obtain⟨cd,hc⟩:=cls;unfold Jf at hc;split at hc
  ·rename_i c' d' cd' sl' ho;intro A' Q' E' s' k q;unfold isType loadHead;exact δ (wpAny_loadPart (k _ _ (X _ _ ho)) (μ q))
  ·cases hc
 ·obtain⟨cd,hc⟩:=cls;refine Be.mpr λq=> ?_
  have e:D=tp:=Value.ref.inj (beq_iff_eq.mp q);subst e;unfold Jf at hc;split at hc
  ·rename_i c' d' cd' sl' ho
   have z:=(X _ _ ho).symm.trans htp;cases z
  ·cases hc
 ·obtain⟨ox,I⟩:=inst p;exact Rv c X I k
def TyX(K:η)(H:Hp)(x:V)(t:Value):Prop:=HP K H x t\/∃ a C,x=.ref a/\t=.ref C/\H a=some (.ext (PF a (.ref C)))/\ST K C
inductive ClsV:V->Value->Prop
 | own (C:Addr):ClsV (.ref C) (.ref C)
 | ty (n:String):ClsV (.ty n) (.type n)
def ClsV.rel{y:V}{c u:Value}(h:ClsV y c)(r:RelV y u):u=c:=by
 cases h<;>exact r
def kX:∀ {ys:List V} {cs us:List Value},Paired ClsV ys cs->Vals ys us->us=cs
 | _,_,_,.nil,.nil=>rfl
 | _,_,_,.cons h t,.cons r rr=>by rw[h.rel r,kX t rr]
def MN(K:η):List V->Hp->VK->Prop:=λxs H Q=>∃ x y t b,xs=[x,y]/\TyX K H x t /\
 ((∃ c,ClsV y c/\W.kitOne K t c=some b)\/∃ p ys cs,y=.ref p/\SqT K H p ys/\Paired ClsV ys cs/\W.kitAny K t cs=some b)/\Q (.bl b) H
section
variable{X:Cx}
def TyX.kit{AB:List (Addr × Obj)}{σ:St}{H:Hp}{s:ε}{x:V}{t u:Value}(I:Inv X AB σ H s)(h:TyX X.K H x t)(r:RelV x u):∃ φ :Heap->Prop,W.KitX X.K u t φ /\ φ s.heap/\u≠.builtin "__main__.__loader__#opaque":=by
 rcases h with h | ⟨a,C,rfl,rfl,e,c⟩
 ·cases h with
  | non=>cases (show u=de from r);exact⟨_,W.kitx_none,trivial,λz=>nomatch z⟩
  | bl y=>cases (show u=um y from r);exact⟨_,W.kitx_bool,trivial,λz=>nomatch z⟩
  | int i=>obtain⟨t,q⟩:=(show ∃ t,u=gg i t from r);cases q;exact⟨_,W.kitx_int,trivial,λz=>nomatch z⟩
  | str y=>obtain⟨t,q⟩:=(show ∃ t,u=we y t from r);cases q;exact⟨_,W.kitx_str,trivial,λz=>nomatch z⟩
  | flt y=>obtain⟨t,q⟩:=(show ∃ t,u=Eu y t from r);cases q;exact⟨_,W.kitx_float,trivial,λz=>nomatch z⟩
  | @lst a xs ea =>
   cases (show u=ba a from r);obtain⟨_,_,n,_,h1⟩:=(show ObjOk X.prog X.w H s.heap a (.lst xs)from I.hok a _ ea)
   exact⟨_,W.kitx_list,⟨_,h1,rfl⟩,λz=>nomatch z⟩
  | @frz a ob xs ea =>
   cases (show u=ba a from r);obtain⟨_,_,_,n,_,h1⟩:=(show ObjOk X.prog X.w H s.heap a (.frz ob (.lst xs))from I.hok a _ ea)
   exact⟨_,W.kitx_list,⟨_,h1,rfl⟩,λz=>nomatch z⟩
  | @tup a xs ea =>
   cases (show u=ba a from r);obtain⟨_,_,_,p⟩:=(show ObjOk X.prog X.w H s.heap a (.tup xs)from I.hok a _ ea)
   obtain⟨o,h1,h2,_⟩:=p;exact⟨_,W.kitx_tuple,⟨o,h1,h2⟩,λz=>nomatch z⟩
  | @dK a AE ea =>
   cases (show u=ba a from r);obtain⟨_,_,vs,_,p⟩:=(show ObjOk X.prog X.w H s.heap a (.dK AE)from I.hok a _ ea)
   revert p;apply u3;rintro o es ep ⟨h1,h2,_⟩;exact⟨_,W.kitx_dict,⟨o,h1,h2.1⟩,λz=>nomatch z⟩
  | @dT a AE ea =>
   cases (show u=ba a from r);obtain⟨_,_,xs,_,o,es,ep,h1,h2,_⟩:=(show ObjOk X.prog X.w H s.heap a (.dT AE)from I.hok a _ ea)
   exact⟨_,W.kitx_dict,⟨o,h1,h2.1⟩,λz=>nomatch z⟩
  | @ins a C dx fs ea cl ha hn htk hm =>
   cases (show u=ba a from r);obtain⟨mA,O,_⟩:=R1 I.hok ea;obtain⟨od,J,_⟩:=O.look;exact⟨_,W.kitx_own (cl.get _) cl.hd ha hn htk hm,J,λz=>nomatch z⟩
 ·cases (show u=ba a from r)
  have p:PF a (.ref C) s.heap:=(show ObjOk X.prog X.w H s.heap a (.ext (PF a (.ref C)))from I.hok a _ e).1;exact⟨_,Rw c,p,λz=>nomatch z⟩
def SU:FX X (.builtin "isinstance") (MN X.K):=by
 intro AB s σ H xs us Q I r h;revert h;apply u4;rintro x y t b ⟨rfl,ty,hc,q⟩;refine u2 ?_ (Vals.two r);rintro u v ⟨rfl,rx,ry⟩;obtain⟨φ,Z,p,ne⟩:=ty.kit I rx;rcases hc with⟨c,hy,e⟩ | ⟨pt,ys,cs,rfl,hs,hcs,e⟩
 ·have:=hy.rel ry;subst this;exact W.kia_one Z I.kIn p e ne λtk=>x2 (.bl b) H ⟨I.tok tk,rfl,q⟩
 ·cases (show v=ba pt from ry);obtain⟨its,rv,⟨⟨c1,c2,c3,c4⟩,e1,e2,n,e3⟩,_⟩:=I.tuple hs;obtain rfl:c1=_:=e2;obtain rfl:c3=_:=e3
  have:=kX hcs rv;subst this;exact W.kia_tup Z I.kIn p e1 e ne λtk=>x2 (.bl b) H ⟨I.tok tk,rfl,q⟩
end
end L2
namespace L2
def HE(J:It)(g:TG)(tt:TT)(te:TE)(k:Nat)(cap:List Nat)(σ:St)(H1:Hp)(Q:VK):Prop :=
 ∃ W:Nat->Nat->St->List V->Hp->Prop,(∃ m,W 0 m (LN k cap σ) [] H1)/\∀ i m σ' ys H,W i m σ' ys H ->
  (J.stop i H/\∀ p,H p=none->Q (.ref p) (upd H p (.lst ys))) ∨
  (J.go i H/\ys.length<sizeLine/\∀ x H',J.yld i H x H'->g x σ' H' λσ2 H2=>tt σ2 H2 λb H3 =>
   if b=true then ∃ N:VK,(∀ y H4,N y H4->∃ m',m'<m/\W (i+1) m' σ2 (ys++[y]) H4)/\te σ2 H3 N else ∃ m',m'<m/\W (i+1) m' σ2 ys H3)
def KP(J:It)(g:TG)(tb:TS)(D:Ends)(σ:St)(H1:Hp):Prop :=
 ∃ W:Nat->Nat->St->Hp->Prop,(∃ m,W 0 m σ H1)/\∀ i m σ H,W i m σ H ->
  (J.stop i H/\D.nx σ H)\/(J.go i H/\∃ N:St->Hp->Prop,(∀ σ' H',N σ' H'->∃ m',m'<m/\W (i+1) m' σ' H')/\∀ x H',J.yld i H x H'->g x σ H' λσ2 H2=>tb { D with nx:=N,ct:=N,bk:=D.nx } σ2 H2)
section
variable{K:η}{ta tb tc to ti tv tl:TE}{tt tA tB' tu:TT}{s1 s2:TS}{r r':R2}{σ:St}{H:Hp}{Q:VK}{D:Ends}{QB:Bool->Hp->Prop}{as:TA}{g:TG}{gs:G8}{te:TE}{k i:Nat}{cap:List Nat}{f m:Str}{C:Addr}{sp:Sp}{E7:List V}{E:St->XK}{v:V}{vs:List V}{QA:List V->Hp->Prop}{QG:St->Hp->Prop}{QO:Option Int->Hp->Prop}
def Rx:AH s1 s2 D σ H=(s1 { D with nx:=s2 D } σ H):=rfl
def Ry:CO D σ H=(D.nx σ H):=rfl
def Rz:RM D σ H=(D.ct σ H):=rfl
def Sb:AX ta g D σ H=(ta σ H λx H1=>g x σ H1 D.nx):=rfl
def Sc:DF ta D σ H=(ta σ H λ_ H1=>D.nx σ H1):=rfl
def Sd:BE ta D σ H=(ta σ H D.rt):=rfl
def Sg:OX D σ H=(D.rt .non H):=rfl
def Sj:B0 tt s1 s2 D σ H=(tt σ H λb H1=>if b=true then s1 D σ H1 else s2 D σ H1):=rfl
def Sk:tC v σ H Q=(Q v H):=rfl
def Sl:AG r ta tb σ H Q=(ta σ H λx H1=>tb σ H1 λy H2=>r x y H2 Q):=rfl
def Sq:GD tt σ H QB=(tt σ H λc H1=>QB (!c) H1):=rfl
def Sv:LB tt tu σ H QB=(tt σ H λc H1=>if c=true then tu σ H1 QB else QB false H1):=rfl
def Sw:IM tt tu σ H QB=(tt σ H λc H1=>if c=true then QB true H1 else tu σ H1 QB):=rfl
def Sx:BV σ H QA=(QA [] H):=rfl
def Sy:BG ta as σ H QA=(ta σ H λx H1=>as σ H1 λxs H2=>QA (x::xs) H2):=rfl
def Sz:DP as σ H Q=(as σ H λxs H1=>xs.length<=sizeLine/\∀ p,H1 p=none->Q (.ref p) (upd H1 p (.tup xs))):=rfl
def Tb:BW as σ H Q=(as σ H λxs H1=>xs.length<=sizeLine/\∀ p,H1 p=none->Q (.ref p) (upd H1 p (.lst xs))):=rfl
def Tc{ru:V->Hp->VK->Prop}:NN ru ta σ H Q=ta σ H λx H1=>ru x H1 Q:=rfl
def Td{rc:List V->Hp->VK->Prop}:C0 rc as σ H Q=as σ H λvs H1=>rc vs H1 Q:=rfl
def Tg:HV C E as D σ H=(as σ H λvs H1=>vs.length<=sizeLine/\E σ (.ref C) none H1):=rfl
def Th{sb:(St->XK)->TS}{th:TH}:WM sb th D σ H=sb (λσ' cls _ H'=>th cls D σ' H') D σ H:=rfl
def Tj:AM i v σ H QG=(QG (σ.set i (some v)) H):=rfl
def Tl{rs:RN}:OY to ti rs v σ H QG=to σ H λo H1=>ti σ H1 λi H2=>rs o i v H2 λH3=>QG σ H3:=rfl
def Tm{rs:V->Option Int->Option Int->Hp->VK->Prop}{ol oh:TO}:JN rs ta ol oh σ H Q=ta σ H λx H1=>ol σ H1 λl H2=>oh σ H2 λu H3=>rs x l u H3 Q:=rfl
def Tp:JM σ H QO=(QO none H):=rfl
def Tq{T:String}{rm:V->List V->Hp->VK->Prop}:GH K T rm ta as σ H Q=ta σ H λx H1=>O6 K T x H1/\as σ H1 λxs H2=>rm x xs H2 Q:=rfl
def Tv{T:String}{rm:V->List V->Hp->VK->Prop}:V9 K T rm ta σ H Q=ta σ H λx H1=>O6 K T x H1/\rm x [] H1 Q:=rfl
def Tw:DY σ H QB=(QB true H):=rfl
def Tx:EQ (O1 as) g tt te k cap σ H Q=(as σ H λvs H1=>∃ i j:Int,vs=[.int i,.int j]/\(-(2 ^ 62)<=i/\i<2 ^ 62/\ -(2 ^ 62)<=j/\j<2 ^ 62)/\HE (GE i (j - i).toNat) g tt te k cap σ H1 Q):=rfl
def Ty:EO (O1 as) g s1 D σ H=(as σ H λvs H1=>∃ i j:Int,vs=[.int i,.int j]/\(-(2 ^ 62)<=i/\i<2 ^ 62/\ -(2 ^ 62)<=j/\j<2 ^ 62)/\KP (GE i (j - i).toNat) g s1 D σ H1):=rfl
def Tz{rd:V->V->Hp->VK->Prop}:V3 K ta tv rd f D σ H=(ta σ H λx H1=>∃ a C dx fs v,x=.ref a/\H1 a=some (.ins C dx fs)/\Cls K C/\NoAttr K C f/\fs.lookup f=some v/\tv σ H1 λy H2=>rd v y H2 λz H3=>∃ dx' fs',H3 a=some (.ins C dx' fs')/\fs'.length<1000/\D.nx σ (upd H3 a (.ins C dx' (BI f z fs')))):=rfl
end
end L2
namespace L2
section
variable{K:η}{σ:St}{H:Hp}{Q:VK}{P:Bool->Prop}{PI':Int->Prop}{PV:V->Prop}{QB:Bool->Hp->Prop}{v:V}{x:Option V}{i j:Int}{n:Nat}{b b':Bool}{s s':Str}{p q:Addr}{f:Int->Int->V}{C:Int->Int->Prop}
def DZ(i:Nat):TE:=λσ H Q=>match σ[i]? with
 | some (some v)=>Q v H
 | _=>False
def Ub:DZ 0 (some v::σ) H Q=Q v H:=rfl
def Uc:DZ (n+1) (x::σ) H Q=DZ n σ H Q:=rfl
def Ud(i:Nat):DZ i=VS i:=by
 funext σ H Q;unfold DZ VS;cases σ[i]? with
 | none=>simp
 | some o=>cases o<;>simp
def Ug:B1 K (.int i) (.int j) H Q=Q (.int (i+j)) H:=rfl
def Uh:B1 K (.str s) (.str s') H Q=(s.length+s'.length<=sizeLine/\Q (.str (s++s')) H):=rfl
def WV:B1 K (.ref p) (.ref q) H Q=(WC (.ref p) (.ref q) H Q\/V5 K (.ref p) (.ref q) H Q\/WN K (.ref p) (.ref q) H Q):=rfl
def Uj{x y:Str}:F8 (.str x) (.str y) H Q=Q (.bl (!decide (y.cps.toList<x.cps.toList))) H:=rfl
def Uk{x y:Str}:HA (.str x) (.str y) H Q=Q (.bl (decide (x.cps.toList<y.cps.toList))) H:=rfl
def Ul{x:Str}{lo hi:Option Int}:IU K (.str x) lo hi H Q=(x.length<=sizeLine/\Q (.str (Txt.slice x lo hi)) H):=rfl
def Um:HB K (.int i) (.int j) H Q=(CMul i j/\Q (.int (i * j)) H):=rfl
def Up{z:Str}{j:Int}:HB K (.str z) (.int j) H Q=(0<=j/\j<=1000/\z.length<=1000/\Q (.str (SQ z j)) H):=rfl
def Uq:HB K (.ref p) (.int j) H Q=(WD (.ref p) (.int j) H Q\/WO K (.ref p) (.int j) H Q):=rfl
def Uv:HA (.int i) (.int j) H Q=Q (.bl (decide (i<j))) H:=rfl
def Uw:F8 (.int i) (.int j) H Q=Q (.bl (decide (i<=j))) H:=rfl
def Ux:PK (.int i) (.int j) H Q=Q (.bl (decide (j<i))) H:=rfl
def Uy:EE K (.int i) (.int j) H Q=Q (.bl (decide (i=j))) H:=by simp[EE,FO]
def Uz:EE K (.str s) (.str s') H Q=Q (.bl (decide (s=s'))) H:=by simp[EE,FO]
def Vb:EE K (.bl b) (.bl b') H Q=Q (.bl (decide (b=b'))) H:=by simp[EE,FO]
def Vc:EE K .non (.int j) H Q=Q (.bl false) H:=by simp[EE,FO]
def Vd:EE K (.int j) .non H Q=Q (.bl false) H:=by simp[EE,FO]
def Vg:EE K .non .non H Q=Q (.bl true) H:=by simp[EE,FO]
def kY:EI K (.int i) (.int j) H Q=Q (.bl (!decide (i=j))) H:=by simp[EI,FO]
def kZ:EI K (.str s) (.str s') H Q=Q (.bl (!decide (s=s'))) H:=by simp[EI,FO]
def Vh:EI K (.bl b) (.bl b') H Q=Q (.bl (!decide (b=b'))) H:=by simp[EI,FO]
def Vj:EI K .non (.int j) H Q=Q (.bl true) H:=by simp[EI,FO]
def Vk:EI K (.int j) .non H Q=Q (.bl true) H:=by simp[EI,FO]
def k8:EI K .non .non H Q=Q (.bl false) H:=by simp[EI,FO]
def Vl:R6 (.int i) (.int j) H Q=Q (.int (i+j)) H:=by simp[R6]
end
def AA{X:Cx}(i:Nat){x:Str}{pos:Pos}(hN:X.N[i]? =some x:=by rfl)(hv:VR X.env.scope x:=by first | exact Je rfl | exact zg (Je rfl) | exact zg (zg rfl))(hd:(x ==("__debug__":Str))=false:=by decide)
  (KC:(x ==("__classdict__":Str))=false:=by decide):PE X (.Name x pos) (DZ i):=by
 rw[Ud];exact Hd hN hv hd KC
end L2
namespace L2
abbrev BC(Q:VK):Ends:={ nx:=λ_ H'=>Q .non H',rt:=Q }
abbrev D8(cap:List Nat)(σ:St):St:=cap.map λi=>(σ[i]?).join
section
variable{K:η}{te:TE}{cap:List Nat}{σ:St}{H:Hp}{Q:VK}
def NY{lo:Int}{n:Nat}(hn:n<=sizeLine)(Pv:Nat->List V->Hp->Prop)(h0:Pv 0 [] H)(hs:∀ i ys H,i<n->ys.length=i->Pv i ys H->te (some (.int (lo+i))::D8 cap σ) H λy H2=>Pv (i+1) (ys++[y]) H2)
  (hd:∀ ys H,ys.length=n->Pv n ys H->∀ p,H p=none->Q (.ref p) (upd H p (.lst ys))) :
  HE (GE lo n) (AM 0) DY te 1 cap σ H Q:=by
 refine⟨λi m σ' ys H=>m=n - i/\i<=n/\ys.length=i/\(∃ x0,σ'=x0::D8 cap σ)/\Pv i ys H,⟨n,by simp,a_ _,rfl,⟨none,rfl⟩,h0⟩,?_⟩;rintro i m σ' ys H ⟨rfl,hi,hl,⟨x0,rfl⟩,p⟩;by_cases BH:i<n
 ·refine .inr ⟨BH,by omega,λx H' y=> ?_⟩;obtain⟨e,y⟩:=y;subst e y;simp only[AM,DY,if_true];refine⟨_,λy H4 q=>⟨n - (i+1),by omega,rfl,BH,?_,⟨_,rfl⟩,q⟩,hs i ys _ BH hl p⟩;rw[aj,f_,hl]
 ·have e:i=n:=by omega
  subst e;exact .inl ⟨ξ _,hd ys H hl p⟩
def Vm{b:Addr}{xs:List V}(hn:xs.length<=sizeLine)(Pv:Nat->List V->Hp->Prop)(h0:Pv 0 [] H)(hq:∀ i ys H,i<=xs.length->Pv i ys H->SqL K H b xs)
  (hs:∀ i x ys H,xs[i]? =some x->ys.length=i->Pv i ys H->te (some x::D8 cap σ) H λy H2=>Pv (i+1) (ys++[y]) H2)
  (hd:∀ ys H,ys.length=xs.length->Pv xs.length ys H->∀ p,H p=none->Q (.ref p) (upd H p (.lst ys))) :
  HE (IN K b) (AM 0) DY te 1 cap σ H Q:=by
 refine⟨λi m σ' ys H=>m=xs.length - i/\i<=xs.length/\ys.length=i/\(∃ x0,σ'=x0::D8 cap σ)/\Pv i ys H,⟨xs.length,by simp,a_ _,rfl,⟨none,rfl⟩,h0⟩,?_⟩;rintro i m σ' ys H ⟨rfl,hi,hl,⟨x0,rfl⟩,p⟩
 have q:=hq i ys H hi p;by_cases BH:i<xs.length
 ·refine .inr ⟨x2 xs (xs[i]) ⟨q,by simp[BH]⟩,by omega,λx H' y=> ?_⟩;obtain⟨e,y⟩:=y;subst e
  have hx:=y xs q;simp only[AM,DY,if_true];refine⟨_,λy H4 q=>⟨xs.length - (i+1),by omega,rfl,BH,?_,⟨_,rfl⟩,q⟩,hs i x ys _ hx hl p⟩;rw[aj,f_,hl]
 ·have e:i=xs.length:=by omega
  subst e;exact .inl ⟨⟨xs,q,ξ _⟩,hd ys H hl p⟩
def Vp{lo:Int}{n:Nat}(hn:n<=sizeLine)(f:Nat->V)(hs:∀ i,i<n->∀ Q':VK,Q' (f i) H->te (some (.int (lo+i))::D8 cap σ) H Q')
  (hd:∀ p,H p=none->Q (.ref p) (upd H p (.lst ((ag n).map f)))) :
  HE (GE lo n) (AM 0) DY te 1 cap σ H Q:=by
 refine NY hn (λi ys H'=>H'=H/\ys=(ag i).map f) ⟨rfl,rfl⟩ (λi ys H' hi hl ⟨e1,e2⟩=> ?_) (λys H' hl ⟨e1,e2⟩=> ?_)
 ·subst e1;refine hs i hi _ ⟨rfl,?_⟩;rw[e2,cq,bo];rfl
 ·subst e1;subst e2;exact hd
def MO{b:Addr}{xs:List V}{g:TG}{tb:TS}{D:Ends}(Pv:Nat->St->Hp->Prop)(h0:Pv 0 σ H)(hl:∀ i σ H,i<=xs.length->Pv i σ H->SqL K H b xs)
  (hs:∀ i x σ H,xs[i]? =some x->Pv i σ H->g x σ H λσ2 H2=>tb { D with nx:=Pv (i+1),ct:=Pv (i+1),bk:=D.nx } σ2 H2) (hd:∀ σ H,Pv xs.length σ H->D.nx σ H):KP (IN K b) g tb D σ H:=Hy Pv h0 hl hs hd
def k9{b:Addr}{xs:List V}{g:TG}{tb:TS}{D:Ends}(Pv:Nat->St->Hp->Prop)(h0:Pv 0 σ H)(hl:∀ i σ H,i<=xs.length->Pv i σ H->SqT K H b xs)
  (hs:∀ i x σ H,xs[i]? =some x->Pv i σ H->g x σ H λσ2 H2=>tb { D with nx:=Pv (i+1),ct:=Pv (i+1),bk:=D.nx } σ2 H2) (hd:∀ σ H,Pv xs.length σ H->D.nx σ H):KP (JK K b) g tb D σ H:=Hz Pv h0 hl hs hd
def MP{lo:Int}{n:Nat}{g:TG}{tb:TS}{D:Ends}(Pv:Nat->St->Hp->Prop)(h0:Pv 0 σ H)
  (hs:∀ i σ H,i<n->Pv i σ H->g (.int (lo+i)) σ H λσ2 H2=>tb { D with nx:=Pv (i+1),ct:=Pv (i+1),bk:=D.nx } σ2 H2) (hd:∀ σ H,Pv n σ H->D.nx σ H):KP (GE lo n) g tb D σ H:=Jb Pv h0 hs hd
end
def LQ{K:η}{H:Hp}{x y:V}{t c:Value}{b:Bool}{Q:VK}(ty:TyX K H x t)(cv:ClsV y c)(k:W.kitOne K t c=some b)(q:Q (.bl b) H):MN K [x,y] H Q:=x4 x y t b ⟨rfl,ty,.inl ⟨c,cv,k⟩,q⟩
def AL{H:Hp}{p:Addr}{o:HO}(h:H p=none):Same H (upd H p o):=λb u e=>by rw[AO (BL e h)];exact e
def PL{α β :Type}{F: α -> β ->Prop}:∀ {l:List α} {m:List β} {i:Nat} {y: β},Paired F l m->m[i]? =some y->∃ x,l[i]? =some x/\F x y
 | _,_,_,_,.nil,e=>by simp at e
 | _,_,0,_,.cons r _,e=>by simp at e;subst e;exact⟨_,rfl,r⟩
 | _,_,i+1,y,.cons _ t,e=>by
  obtain⟨u,h1,h2⟩:=PL (i:=i) (y:=y) t (by simpa using e);exact⟨u,by simpa using h1,h2⟩
def lA{α β :Type}{F: α -> β ->Prop}{x: α}{y: β}(r:F x y):∀ {l:List α} {m:List β} (i:Nat),Paired F l m->Paired F (l.set i x) (m.set i y)
 | _,_,_,.nil=>.nil
 | _,_,0,.cons _ t=>.cons r t
 | _,_,i+1,.cons q t=>.cons q (lA r i t)
def D5{K:η}{H:Hp}{p:Addr}{xs:List V}{i:Int}{n:Nat}{v:V}{Q:VK}(h:SqL K H p xs)(hi:i=n)(hx:xs[n]? =some v)(q:Q v H):CB K (.ref p) (.int i) H Q :=
 .inl (x4 p xs i v ⟨rfl,rfl,h,hi ▸ R8 hx,q⟩)
def C4(n:Nat)(h:n<=100000):n<=sizeLine:=υ h (by decide)
def lB{α :Type}(x: α):∀ w:Nat,(ah w [x]).flatten=ah w x
 | 0=>rfl
 | w+1=>by rw[fo,lg,lB x w];rfl
def KQ{f:Str}{v:V}{fs:List (Str × V)}{n:Nat}(h:fs.length+1<n):(BI f v fs).length<n:=cz (O4 f v fs) h
def lC{d:kj}(h:shp d):Kn d d=true:=PySem.SeqAt.eqv_refl d (PySem.SeqAt.canLay_of_shaped h)
def vD:V->kj
 | .bl b=>.bool b
 | .int i=>.int i
 | .str x=>.str x
 | _=>.none
def NZ:V->Bool
 | .non=>true
 | .bl _=>true
 | .int _=>true
 | .str x=>jj x
 | _=>false
def Vq{K:η}{H:Hp}{v:V}(h:NZ v=true):Rep K H v (vD v):=by
 cases v<;>first | exact .non | exact .bl _ | exact .int _ | exact .str _ | cases h
def WW{K:η}{H:Hp}:∀ {vs:List V},(∀ v∈vs,NZ v=true)->RepAll K H vs (vs.map vD)
 | [],_=>.nil
 | v::r,h=>.cons (Vq (h v aq)) (WW λx hx=>h x (χ _ hx))
def Vv{v:V}(h:NZ v=true):(vD v).canLay0=true/\(vD v).depth=0:=by
 cases v<;>first | exact⟨rfl,rfl⟩ | exact⟨h,rfl⟩ | cases h
def lD:∀ {vs:List V},(∀ v∈vs,NZ v=true)->ph (vs.map vD)=true/\ud (vs.map vD)=0
 | [],_=>⟨rfl,rfl⟩
 | v::r,h=>by
  obtain⟨a,b⟩:=Vv (h v aq);obtain⟨c,d⟩:=lD λx hx=>h x (χ _ hx);simp[ph,ud,a,b,c,d]
def WX{vs:List V}(h:∀ v∈vs,NZ v=true):shp (.list (vs.map vD)):=by
 obtain⟨c,d⟩:=lD h;unfold shp PySem.SeqAt.shaped;simp[yd,Bf,c,d]
def Vw{K:η}{H:Hp}{p q:Addr}{xs:List V}{Q:VK}(h1:SqL K H p xs)(h2:SqL K H q xs)(hf:∀ v∈xs,NZ v=true)(hq:Q (.bl true) H):EE K (.ref p) (.ref q) H Q:=by
 unfold EE;rw[if_neg (by simp[FO])];refine y2 ⟨.lst h1 (WW hf),.lst h2 (WW hf),WX hf,WX hf,?_⟩;rw[lC (WX hf)];exact hq
end L2
namespace L2
def ItK(k:Bool)(h:Heap)(j a:Addr)(i:Nat):Prop:=if k then h.IsListIter j a i else h.IsTupleIter j a i
def lE(k:Bool)(h:Heap)(a:Addr)(xs:Array Value):Prop:=if k then h.IsList a xs else h.IsTuple a xs
def ItK.up{k:Bool}{h h':Heap}{j a:Addr}{i:Nat}(x:ItK k h j a i)(q:∀ o,h.get? j=some o->h'.get? j=some o):ItK k h' j a i:=by
 cases k<;>exact(let ⟨o,e,r⟩:=x;⟨o,q o e,r⟩)
def ItK.ob{k:Bool}{h:Heap}{j a:Addr}{i:Nat}(x:ItK k h j a i):∃ o,h.get? j=some o/\o.data=.fields #[.ref a,.int i 0]:=by
 cases k<;>exact(let ⟨o,e,_,r⟩:=x;⟨o,e,r⟩)
section
variable{P:au}{w:World}{A:bg}{E:Value->ε->Prop}{s:ε}
def Vx{j t:Addr}{i:Nat}{its:Array Value}{Q:Value->ε->Prop}(z:A.handled=none)(c:s.heap.IsTupleIter j t i)(d:s.heap.IsTuple t its)(e:its[i]? =none)
  (q:∀ h' x,lq j s.heap h'->(∃ o,h'.get? x=some o/\o.cls=.type "StopIteration")->E (.ref x) { s with heap:=h' }):wpAny (model P w) A (me (.ref j)) Q E s:=by
 obtain⟨oj,e1,e2,e3⟩:=id c;obtain⟨ot,f1,_,n,f2⟩:=d;unfold me;refine δ (df (name:=bd "__next__") c.typeIs uw (dm uw c.typeIs F.entry_tuple_iterator_next ?_ (F.args_tuple_iterator_next_1 _)))
 show wpAny (model P w) _ (field (.ref j) 0 >>= _) _ _ s;refine δ (gy e1 e3 (x:=.ref t) rfl ?_)
 show wpAny (model P w) _ (field (.ref j) 1 >>= _) _ _ s;refine δ (gy e1 e3 (x:=.int i 0) rfl ?_)
 show wpAny (model P w) _ (Iv (.ref t) >>= _) _ _ s;refine δ (ye f1 f2 ?_);simp only[ai,e];refine δ (rj (δ (pd e1 e3 (by simp) ?_)))
 show wpAny (model P w) _ (newExc (.type "StopIteration") [] >>= _) _ _ _;refine δ ?_;simp only[newExc,newTuple];refine δ (ce (δ (m:=ux _ _) (Ff (a:=de) (by first | rfl | (simp only[ux];rfl)) (ce ?_ (by size_fits)))) (by size_fits));simp only[raiseNew];refine δ (wpAny_handled ?_);rw[show A.in1.handled=none from z];exact δ (μ (wpAny_throw (q _ _ (((ug ..).extBut.push _).push _) ⟨_,ae _ rfl,rfl⟩)))
def Vy{k:Bool}{j t:Addr}{i:Nat}{its:Array Value}{Q:Value->ε->Prop}(z:A.handled=none)(c:ItK k s.heap j t i)(d:lE k s.heap t its)(e:its[i]? =none)
  (q:∀ h' x,lq j s.heap h'->(∃ o,h'.get? x=some o/\o.cls=.type "StopIteration")->E (.ref x) { s with heap:=h' }):wpAny (model P w) A (me (.ref j)) Q E s:=by
 cases k
 ·exact Vx z c d e q
 ·exact wpAny_nextOf_list_end z c d e q
end
section
variable{P:au}{w:World}{A:bg}{E:Value->ε->Prop}{s:ε}
end
def Inv.turnedS{X:Cx}{AB:List (Addr × Obj)}{σ:St}{H:Hp}{s:ε}{h':Heap}{t':Nat}{fp:List Addr}(I:Inv X AB σ H s)(k:∀ b o,b∉fp->s.heap.get? b=some o->h'.get? b=some o)(hf:∀ b∈fp,FpOk X AB H b):Inv X AB σ H { s with heap:=h',toks:=t' }:=by
 have nit:∀ b u,H b=some u->b∉fp:=λb u e z=>by rw[(hf b z).1]at e;cases e
 refine I.step (g':=s.gens) (d':=s.drawn) (ch:=fp) (λb hb=> ?_) (λb o _ _ hc e _=>k b o hc e) (λb o _ _ hc e _=>⟨o.slots,k b o hc e⟩) (λ_ _ _ _ n=>n)
  (λb o hc e=>⟨o,k b o hc e⟩) (λ_ _ e=>e) (λ_ _ _ e=>e) (λb ps e=>⟨#[],by rw[e];simp⟩) (λm hm=> ?_) (λb u e=> ?_) I.bare
 ·obtain⟨_,f1,_,f3,f4,f5⟩:=hf b hb;exact⟨f3,f1,f4,f5⟩
 ·revert hm;apply u3;rintro o es ep ⟨ho,r⟩;exact x3 o es ep ⟨k _ o (λz=>(hf _ z).2.1 rfl) ho,r⟩
 ·refine(I.hok b u e).stay (λc v hc q=>k c v ?_ q) (λ_ q=>q) λ_ _ q=>q;rcases hc with z | z
  ·rw[z];exact nit b u e
  ·exact nit c _ z
def WY(K:η)(k:Bool)(H:Hp)(a:Addr)(xs:List V):Prop:=if k then SqL K H a xs else SqT K H a xs
def Inv.seqK{X:Cx}{AB:List (Addr × Obj)}{σ:St}{H:Hp}{s:ε}{k:Bool}{a:Addr}{xs:List V}(I:Inv X AB σ H s)(q:WY X.K k H a xs):∃ its,Vals xs its/\lE k s.heap a its.toArray:=by
 cases k
 ·obtain⟨its,rv,p,_⟩:=I.tuple q;exact⟨its,rv,p⟩
 ·obtain⟨its,rv,p,_⟩:=I.list q;exact⟨its,rv,p.isList⟩
def Inv.seqK_inj{X:Cx}{AB:List (Addr × Obj)}{σ:St}{H:Hp}{s:ε}{k:Bool}{a:Addr}{xs ys:List V}(I:Inv X AB σ H s)(p:WY X.K k H a xs)(q:WY X.K k H a ys):xs=ys:=by
 cases k
 ·exact I.tuple_inj p q
 ·exact I.list_inj p q
structure zsl(z T U j j':Addr):Prop where
 a1:T≠z
 a2:U≠z
 a3:j≠z
 a4:j'≠z
 a5:T≠U
 a6:T≠j
 a7:T≠j'
 a8:U≠j
 a9:U≠j'
 a10:j≠j'
def FpOk.upd{X:Cx}{AB:List (Addr × Obj)}{H:Hp}{a b:Addr}{o:HO}(f:FpOk X AB H b)(n:b≠a):FpOk X AB (upd H a o) b:=⟨(AO n).trans f.1,f.2⟩
section
variable{X:Cx}{tg:Expr}
end
end L2
namespace L2
def PM(z:Str):It:=⟨λi _=>i<z.cps.size,λi H x H'=>H'=H/\∃ c,z.cps[i]? =some c/\x=.str ⟨#[c]⟩,λi _=>z.cps.size<=i⟩
def lF{P:au}{w:World}{K:PySem.W.Frag}{tg:Expr}{it:Addr}{z:Str}{t:Tok}{nm:String}(hn:["enumerate","zip","dict_itemiterator","dict_reverseitemiterator","odict_iterator","itertools.zip_longest","itertools.pairwise"].contains nm=false)
  (W:∀ A:bg,A.handled=none->Walks P w A it [it] [it] z.cps.size (SignAt z) (λi h=>h.IsStrIter it nm z t i)) (sf:∀ (A:bg) (i:Nat) (s:ε) (Q:Value->ε->Prop) (E:Value->ε->Prop),s.heap.IsStrIter it nm z t i->Q (.ref it) s->wpAny (model P w) A (C_ (.ref it)) Q E s) :
  MH P w K tg (PM z) [it] it (λi h=>i<=z.cps.size/\h.IsStrIter it nm z t i) where
 mem:=by simp
 obj:=λi h ⟨_,o,e,c,d⟩ b hb=>by
  have e':b=it:=by simpa using hb
  subst e';exact⟨o,e,λv q=>by rw[d]at q;cases q⟩
 keep:=λi h h' ⟨l,o,e,r⟩ k=>⟨l,o,k it (by simp) o e,r⟩
 item:=by
  intro X hP hw hK hc i AB s σ H E I hf ⟨_,st⟩ hg;subst hP hw hK;obtain⟨f0,f1,f2,f3,f4,f5⟩:=hf it (by simp);refine(W _ (I.ok.hd hc)).item i s _ _ hg st λv h' tk hv st' kk=> ?_;revert hv;apply u2;rintro c u ⟨hx,rfl⟩
  have I1:Inv X AB σ H { s with heap:=h',toks:=tk }:=I.turned (λb o hb e=>kk b o (by simpa using hb) e) f0 f1 f3 f4 f5;obtain⟨o,e,c1,d⟩:=id st';exact⟨_,rfl,RU (s:={ s with heap:=h',toks:=tk }) e c1 d hn (x2 (.str ⟨#[c]⟩) H ⟨I1,⟨u,rfl⟩,⟨rfl,c,hx,rfl⟩,⟨hg,st'⟩,λb hb=>(hf b hb).1⟩)⟩
 done:=by
  intro X hP hw hK hc i AB s σ H E I hf ⟨l,st⟩ hg;subst hP hw hK;obtain⟨f0,f1,f2,f3,f4,f5⟩:=hf it (by simp)
  have e:i=z.cps.size:=nj l hg;subst e;exact(W _ (I.ok.hd hc)).done s _ _ st λh' tk kk=>⟨rfl,I.turned (λb o hb e=>kk b o (by simpa using hb) e) f0 f1 f3 f4 f5⟩
 self:=λA i s Q E st h=>sf A i s Q E st.2 h
def lG:∀ bs:List Bool,(ag bs.length).all (λi=>bs.getD i false)=bs.all id
 | []=>rfl
 | b::t=>by
  have ih:=lG t;rw[cf,xg,vw,Bi,vw,<-ih]
  rfl
def SV(tl:TE):TI:=λσ H R=>tl σ H λx H1=>∃ z,x=.str z/\R (PM z) H1
section
variable{X:Cx}{tg:Expr}
def lH{l:Expr}{tl:TE}(hl:PE X l tl):PI X tg l (SV tl):=by
 intro AB s σ H R I h;refine A1 (hl AB s σ H _ I h) λv s1 hzz=> ?_;obtain⟨x,H1,I1,r1,q1⟩:=hzz;obtain⟨z,rfl,q⟩:=q1;obtain⟨t,rfl⟩:=r1
 have fp1:∀ b∈[s1.heap.objs.size],FpOk X AB H1 b:=λb hb=>by
  have e:b=s1.heap.objs.size:=by simpa using hb
  subst e;exact I1.fpOk (ξ _) (I1.hok.fresh (ξ _))
 cases ha:z.cps.all (· <128)
 ·refine wpAny_pyIter_wide ha (x5 s1.heap.objs.size [s1.heap.objs.size] _ _ H1 ⟨rfl,I1.kept (t':=s1.toks) λb o e=>θ _ e,lF (nm:="str_iterator") (t:=t) (by decide) (λA hA=>Walks.strWide hA _ z t) (λA i s Q E st h=>wpAny_pyIter_striter_wide st h),⟨a_ _,_,ae _ rfl,rfl,rfl⟩,fp1,q⟩)
 ·refine wpAny_pyIter_ascii ha (x5 s1.heap.objs.size [s1.heap.objs.size] _ _ H1 ⟨rfl,I1.kept (t':=s1.toks) λb o e=>θ _ e,lF (nm:="str_ascii_iterator") (t:=t) (by decide) (λA hA=>Walks.strAscii hA _ z t) (λA i s Q E st h=>wpAny_pyIter_striter_ascii st h),⟨a_ _,_,ae _ rfl,rfl,rfl⟩,fp1,q⟩)
def SW(K:η):List V->Hp->VK->Prop:=λxs H Q=>∃ x,xs=[.str x]/\x.length=1/\Q (.int (x.cps.getD 0 0:Nat)) H
def Vz:FX X (.builtin "ord") (SW X.K):=Kk
def PN(K:η):List V->Hp->VK->Prop:=λxs H Q=>∃ (p:Addr) (bs:List Bool),xs=[.ref p]/\SqL K H p (bs.map V.bl)/\Q (.bl (bs.all id)) H
def WZ(hc:X.calm=true):FX X (.builtin "all") (PN X.K):=by
 intro AB s σ H xs us Q I r h;revert h;apply u2;rintro p bs ⟨rfl,hp,q⟩;obtain⟨u,rfl,ru⟩:=KH r;cases ru;obtain⟨its,rv,pl,hz⟩:=I.list hp
 have hl:=rv.length;refine call_all_walk (vn pl.isList ?_)
 have hne:p≠s.heap.objs.size:=by
  obtain⟨o,e,_⟩:=pl.isList;exact aw (ω e)
 refine x7 s.heap.objs.size _ _ _ _ _ (λi=>bs.getD i false) ⟨rfl,Ko (show X.A.in1.handled=none from I.ok.hd hc) s.heap.objs.size p hne its.toArray,⟨⟨_,ae _ rfl,rfl,rfl⟩,pl.isList.push _⟩,?_,?_⟩
 ·intro i v s' Q' E' hv hq
  have hv:its[i]? =some v:=by simpa using hv
  have hi:=(ι.mp hv).1;rw[ν]at hl;obtain⟨b,hb⟩:∃ b,bs[i]? =some b:=⟨_,ζ (hl ▸ hi)⟩
  obtain⟨u,hu,ru⟩:=rv.get (i:=i) (x:=V.bl b) (by rw[ρ,hb];rfl);rw[hv]at hu;cases hu;cases (show v=um b from ru)
  have e:bs.getD i false=b:=by rw[uy,hb];rfl
  have hq:Q' (bs.getD i false) s':=hq;rw[e]at hq;exact μ hq
 ·intro h' tk kk
  have e:(ag its.toArray.size).all (λi=>bs.getD i false)=bs.all id:=by
   rw[ν]at hl;rw[aa,<-hl];exact lG bs
  rw[e];exact x2 (.bl _) H ⟨I.kept (t':=tk) λb o eb=>kk b o (by simpa using aw (ω eb)) (θ _ eb),rfl,q⟩
end
def Wb{K:η}{x:Str}{H:Hp}{Q:VK}:SW K [.str x] H Q=(x.length=1/\Q (.int (x.cps.getD 0 0:Nat)) H):=by simp[SW]
section
variable{P:au}{w:World}{A:bg}{E:Value->ε->Prop}{s:ε}
end
section
variable{X:Cx}
end
def Wc{tl:TE}{g:TG}{tt:TT}{te:TE}{k:Nat}{cap:List Nat}{σ:St}{H:Hp}{Q:VK}:EQ (SV tl) g tt te k cap σ H Q=(tl σ H λx H1=>∃ z,x=.str z/\HE (PM z) g tt te k cap σ H1 Q):=rfl
def Wd{te:TE}{cap:List Nat}{σ:St}{H:Hp}{Q:VK}{z:Str}(hn:z.cps.size<=sizeLine)(Pv:Nat->List V->Hp->Prop)(h0:Pv 0 [] H)(hs:∀ i c ys H,z.cps[i]? =some c->ys.length=i->Pv i ys H->te (some (.str ⟨#[c]⟩)::D8 cap σ) H λy H2=>Pv (i+1) (ys++[y]) H2)
  (hd:∀ ys H,ys.length=z.cps.size->Pv z.cps.size ys H->∀ p,H p=none->Q (.ref p) (upd H p (.lst ys))):HE (PM z) (AM 0) DY te 1 cap σ H Q:=by
 refine⟨λi m σ' ys H=>m=z.cps.size - i/\i<=z.cps.size/\ys.length=i/\(∃ x0,σ'=x0::D8 cap σ)/\Pv i ys H,⟨z.cps.size,by simp,a_ _,rfl,⟨none,rfl⟩,h0⟩,?_⟩;rintro i m σ' ys H ⟨rfl,hi,hl,⟨x0,rfl⟩,p⟩;by_cases BH:i<z.cps.size
 ·refine .inr ⟨BH,by omega,λx H' y=> ?_⟩;obtain⟨e,c,hc,y⟩:=y;subst e y;simp only[AM,DY,if_true];refine⟨_,λy H4 q=>⟨z.cps.size - (i+1),by omega,rfl,BH,?_,⟨_,rfl⟩,q⟩,hs i c ys _ hc hl p⟩;rw[aj,f_,hl]
 ·have e:i=z.cps.size:=by omega
  subst e;exact .inl ⟨ξ _,hd ys H hl p⟩
end L2
namespace L2
open PySem
abbrev JR(l:List Nat):Prop:=l.Pairwise (· <·)
def PQ{l:List Nat}(R:JR l){i k a b:Nat}(h:i<k)(ha:l[i]? =some a)(hb:l[k]? =some b):a<b:=by
 obtain⟨h1,rfl⟩:=ι.mp ha;obtain⟨h2,rfl⟩:=ι.mp hb;exact vf.mp R i k h1 h2 h
structure Below(xs:Array Nat)(j r:Nat):Prop where
 le:r<=xs.size
 lo:∀ i v,i<r->xs.toList[i]? =some v->v<j
 hi:∀ i v,r<=i->xs.toList[i]? =some v->j<=v
def W1{xs:Array Nat}{j:Nat}(R:JR xs.toList):∀ (fuel lo hi:Nat),lo<=hi->hi<=xs.size->hi - lo<=fuel->(∀ i v,i<lo->xs.toList[i]? =some v->v<j)->(∀ i v,hi<=i->xs.toList[i]? =some v->j<=v) ->
  Below xs j (Bn xs j fuel lo hi)
 | 0,lo,hi,h1,h2,h3,a,b=>by
  have e:lo=hi:=by omega
  subst e;exact⟨h2,a,b⟩
 | fuel+1,lo,hi,h1,h2,h3,a,b=>by
  unfold Bn;by_cases BH:lo<hi
  ·rw[if_pos BH]
   have hm:(lo+hi) / 2<xs.size:=by omega
   have em:xs.toList[(lo+hi) / 2]? =some (xs[(lo+hi) / 2]):=by simp[hm]
   have ed:xs.getD ((lo+hi) / 2) j=xs[(lo+hi) / 2]:=by simp[hm]
   simp only[ed];split
   ·rename_i hv;refine W1 R fuel _ _ (by omega) h2 (by omega) (λi v hi' e=> ?_) b;by_cases q:i=(lo+hi) / 2
    ·subst q;rw[em]at e;cases e;exact hv
    ·exact As (PQ R (show i<(lo+hi) / 2 by exact gj (cy hi') q) e em) hv
   ·rename_i hv;refine W1 R fuel _ _ (by omega) (fg hm) (by omega) a λi v hi' e=> ?_;by_cases q:i=(lo+hi) / 2
    ·subst q;rw[em]at e;cases e;exact bu hv
    ·have:=PQ R (show(lo+hi) / 2<i by omega) em e;omega
  ·rw[if_neg BH]
   have e:lo=hi:=by omega
   subst e;exact⟨h2,a,b⟩
def W2{xs:Array Nat}{j:Nat}(R:JR xs.toList):Below xs j (fb xs j) :=
 W1 R _ _ _ (a_ _) (ξ _) (ξ _) (λ_ _ h=>absurd h (my _)) λi v h e=>by
  rw[bx (by simpa using h)]at e;cases e
def Below.uniq{xs:Array Nat}{j r r':Nat}(a:Below xs j r)(b:Below xs j r'):r=r':=by
 rcases Nat.lt_trichotomy r r' with h | h | h
 ·have hs:r<xs.size:=τ h b.le
  have e:xs.toList[r]? =some (xs[r]):=by simp[hs]
  have:=b.lo _ _ h e
  have:=a.hi _ _ (ξ _) e;omega
 ·exact h
 ·have hs:r'<xs.size:=τ h a.le
  have e:xs.toList[r']? =some (xs[r']):=by simp[hs]
  have:=a.lo _ _ h e
  have:=b.hi _ _ (ξ _) e;omega
def NotIn(t:SetTable)(j:Nat):Prop:=t.place[fb t.place j]? ≠some j
def Wg{t:SetTable}{j:Nat}(h:t.slot j=.empty):NotIn t j:=λe=>by
 unfold Ii at h;simp only[e,beq_self_eq_true,if_true]at h;cases h
def Wh{t:SetTable}{j:Nat}(h:t.slot j=.dummy):NotIn t j:=λe=>by
 unfold Ii at h;simp only[e,beq_self_eq_true,if_true]at h;cases h
def lI(t:SetTable)(p:Ht):(t.advance p).dummy=p.dummy:=by
 unfold SetTable.advance;split<;>rfl
def W3{t:SetTable}{f:Nat->Int}{h:Int}:∀ (fuel:Nat) (p:Ht) (j:Nat) (d:Option Nat),Bo t f h fuel p=some (.empty j d)->(∀ x,p.dummy=some x->NotIn t x)->NotIn t (d.getD j)
 | 0,p,j,d,e,_=>by cases e
 | fuel+1,p,j,d,e,hd=>by
  unfold Bo at e;split at e
  ·rename_i hs;cases e;cases q:p.dummy with
   | none=>exact Wg hs
   | some x=>exact hd x q
  ·rename_i hs;refine W3 fuel _ j d e λx hx=> ?_;rw[lI]at hx;cases hx;exact Wh hs
  ·rename_i i hs;split at e
   ·cases e
   ·exact W3 fuel _ j d e λx hx=>by rw[lI]at hx;exact hd x hx
def Wj{t:SetTable}{h:Int}{s:Nat}{b:Bool}(e:t.freeSlot h=some (s,b)):NotIn t s:=by
 unfold SetTable.freeSlot at e;split at e
 ·rename_i j d hp;cases e;refine W3 _ _ _ _ hp λx hx=> ?_;cases hx
 ·cases e
def Wk(n:Nat):JR (Array.range n).toList:=by
 rw[Array.toList_range];exact pi
def Wl {t:SetTable} {j:Nat} (R:JR t.place.toList) (h:NotIn t j):JR (t.put j).1.place.toList:=by
  have b:=W2 (j:=j) R
  show JR (SetTable.insertAt t.place (fb t.place j) j).toList;rw[SetTable.toList_insertAt]
  have hlo:∀ v∈t.place.toList.take (fb t.place j),v<j:=λv hv=>by
    obtain⟨i,hi,e⟩:=ig hv
    have hi':i<fb t.place j:=by rw[dk]at hi;omega
    refine b.lo i v hi' ?_;rw[<-e];simp only[Br];exact ζ _
  have hhi:∀ v∈t.place.toList.drop (fb t.place j),j<v:=λv hv=>by
    obtain⟨i,hi,e⟩:=ig hv
    have e2:t.place.toList[fb t.place j+i]? =some v:=by
      rw[<-zi,ζ hi,e]
    have:=b.hi _ _ (Ea _ _) e2;by_cases q:j=v
    · subst q
      have z:i=0:=by
        by_cases z:i=0
        ·exact z
        · have hl:fb t.place j<t.place.toList.length:=by
            rw[io]at hi;omega
          have e3:=ζ hl
          have:=PQ R (show fb t.place j<fb t.place j+i by omega) e3 e2
          have:=b.hi _ _ (ξ _) e3;omega
      subst z;rw[Nat.add_zero,jc]at e2;exact absurd e2 h
    ·exact gj this q
  refine List.pairwise_append.mpr ⟨R.sublist (z_ ..),iz.mpr ⟨hhi,R.sublist (List.drop_sublist ..)⟩,λx hx y hy=> ?_⟩;rcases ak.mp hy with rfl | hy
  ·exact hlo x hx
  ·exact As (hlo x hx) (hhi y hy)
structure Led(led:Bool)(t:SetTable):Prop where
 rise:JR t.place.toList
 led:t.led=led
def Led.standIn{led:Bool}{t:SetTable}(h:t.led=led)(n:Nat):Led led (t.standIn n):=⟨Wk n,h⟩
def Led.or{led:Bool}{t:SetTable}(h:Led led t)(n:Nat):Led led (t.orStandIn n):=by
 unfold SetTable.orStandIn;split
 ·exact h
 ·exact .standIn h.led n
def Led.layNew{led:Bool}{t:SetTable}(L:Led led t)(es:Array (Int × Value))(h:Int)(x:Value):Led led (layNew t es h x).2.1:=by
 unfold PySem.layNew;split
 ·rename_i slot b e;exact Led.or ⟨Wl L.rise (Wj e),L.led⟩ _
 ·exact .standIn L.led _
def Wm(owner:Array (Option Nat))(m:Nat):JR (((ag m).filterMap λj=>(owner.getD j none).map (j,·)).map (·.1)):=by
 rw[List.map_filterMap];refine(pi (n:=m)).filterMap _ λa b hab x hx y hy=> ?_;simp only[Option.mem_def,yf,bq,Function.comp_apply]at hx hy;obtain⟨_,_,rfl⟩:=hx;obtain⟨_,_,rfl⟩:=hy;exact hab
def Led.relayAll{led:Bool}{t:SetTable}(h:t.led=led)(L:Led led t)(es:Array (Int × Value))(wanted:Nat):Led led (Bs t es wanted).2.1:=by
 unfold PySem.relayAll;split
 ·rename_i t' order e;dsimp only;split
  ·unfold SetTable.relaid SetTable.laid at e;simp only[Option.bind_eq_bind,wq,Option.pure_def,Bt,Prod.mk.injEq]at e;obtain⟨owner,_,rfl,_⟩:=e;exact⟨by simpa using Wm owner _,h⟩
  ·exact .standIn h _
 ·exact .standIn h _
def Led.plainOff{led:Bool}{t:SetTable}(L:Led led t):Led led { t with plain:=false }:=⟨L.rise,L.led⟩
def Led.fresh(led:Bool):Led led (.fresh 0 0 led):=⟨At,rfl⟩
def N0(xs:Array Nat):Nat->Nat
 | 0=>0
 | i+1=>xs.getD i 0+1
def Wp{xs:Array Nat}(R:JR xs.toList):∀ {i:Nat},i<=xs.size->fb xs (N0 xs i)=i
 | 0,_=>(W2 R).uniq ⟨a_ _,λ_ _ h=>absurd h (my _),λ_ _ _ _=>a_ _⟩
 | i+1,hi=>(W2 R).uniq ⟨hi,λk v hk e=>by
   have hi':i<xs.size:=hi
   have ei:xs.toList[i]? =some xs[i]:=by simp[hi']
   have ed:xs.getD i 0=xs[i]:=by simp[hi']
   show v<xs.getD i 0+1;rw[ed];by_cases q:k=i
   ·subst q;rw[ei]at e;cases e;exact ff _
   ·have:=PQ R (show k<i by exact gj (cy hk) q) e ei;exact av this,λk v hk e=>by
   have hi':i<xs.size:=hi
   have ei:xs.toList[i]? =some xs[i]:=by simp[hi']
   have ed:xs.getD i 0=xs[i]:=by simp[hi']
   show xs.getD i 0+1<=v;rw[ed];exact PQ R (show i<k by exact hk) ei e⟩
def lJ{α :Type}(next:Nat->Nat):∀ (fuel k:Nat) (left:List α) (out:Array α),left.length=fuel->lw (Bu next fuel k left out).toList (out.toList++left)
 | 0,k,left,out,h=>by
  rw[og.mp h];unfold Bu;simp
 | fuel+1,k,left,out,h=>by
  unfold Bu
  have hl:next k % left.length<left.length:=zj _ (by omega);rw[ζ hl];dsimp only;refine(lJ next fuel (k+1) _ _ (by rw[uz hl];omega)).trans ?_;rw[B_,fi];refine List.Perm.append_left _ ?_;rw[fu]
  show lw (left[next k % left.length]::(left.take (next k % left.length)++left.drop (next k % left.length+1))) left;refine Ee.symm.trans ?_;rw[<-mf hl,q_]
def Wq{α :Type}(next:Nat->Nat)(xs:Array α):lw (yq next xs).toList xs.toList:=by
 have:=lJ next xs.size 0 xs.toList #[] (by simp);simpa [yq]using this
end L2
namespace L2
open PySem PyProof.Rows
def MQ(w:World):Bool:= !w.params.followText "set-order"
def iv:Value->Int
 | .int n _=>n
 | _=>0
def IntSet(P:au)(w:World)(h:Heap)(a:Addr)(ms:List Int):Prop :=
 ∃ (o:Obj) (es:Array (Int × Value)) (ep:Nat) (t:SetTable),h.get? a=some o/\o.ExactSet/\o.data=.set es ep t/\xh (gz P w) es.toList /\
  lw (es.toList.map λe=>iv e.2) ms/\es.size<r_/\t.fits es.size=true/\Led (MQ w) t
section
variable{P:au}{w:World}{A:bg}{E:Value->ε->Prop}{s:ε}
def W5{es:List (Int × Value)}(h:xh (gz P w) es){e:Int × Value}(he:e∈es):∃ t,e.2=.int (iv e.2) t:=by
 obtain⟨⟨k,hk,_⟩,_⟩:=h e he;obtain⟨t,z⟩:=om hk;exact⟨t,by rw[z];rfl⟩
def lK{es:List (Int × Value)}(h:xh (gz P w) es){e:Int × Value}(he:e∈es){k:Int}:(gz P w).is k e.2=true↔iv e.2=k:=by
 obtain⟨t,z⟩:=W5 h he;rw[z];refine⟨λq=> ?_,λq=> ?_⟩
 ·have q':Es k (.int (iv e.2) t)=true:=q;obtain⟨t',z'⟩:=om q';cases z';rfl
 ·rw[<-q];exact Hu ..
def lL{es:List (Int × Value)}{ms:List Int}(h:xh (gz P w) es)(p:lw (es.map λe=>iv e.2) ms)(k:Int):k∈ms↔∃ e∈es,(gz P w).is k e.2=true:=by
 rw[<-p.mem_iff,cj];exact⟨λ⟨e,he,q⟩=>⟨e,he,(lK h he).mpr q⟩,λ⟨e,he,q⟩=>⟨e,he,(lK h he).mp q⟩⟩
def lN{h:Heap}{a:Addr}{o:Obj}{es es':Array (Int × Value)}{ep:Nat}{t t':SetTable}{ms:List Int}(ho:h.get? a=some o)(hex:o.ExactSet)(hd:o.data=.set es ep t)
  (hel:xh (gz P w) es'.toList) (hp:lw (es'.toList.map λe=>iv e.2) ms) (hb:es'.size<r_) (hf:t'.fits es'.size=true) (L:Led (MQ w) t') :
  (h.update a (H_ es' t')).get? a=some { o with data:=.set es' (ep+1) t' }/\IntSet P w (h.update a (H_ es' t')) a ms:=by
 have g:=(SetOf_store (knd:=gz P w) (S':=λk=>es'.toList.any λe=>(gz P w).is k e.2) ho hex hd hel (λk=>by rw[dv]) hb hf).1;exact⟨g,x4 _ es' (ep+1) t' ⟨g,hex,rfl,hel,hp,hb,hf,L⟩⟩
def lO{g:Bool->Sem Unit}(hg:∀ (b:Bool) (s1:ε) (R:Unit->ε->Prop),R () s1->wpAny (model P w) A (g b) R E s1){a:Addr}{o:Obj}{es e1:Array (Int × Value)}{ep:Nat}{t t1:SetTable}{ms:List Int}{wd:Bool}
  (ho:s.heap.get? a=some o) (hex:o.ExactSet) (hd:o.data=.set es ep t) (hel:xh (gz P w) e1.toList) (hp:lw (e1.toList.map λe=>iv e.2) ms) (hb:e1.size<r_) (hf:t1.fits e1.size=true) (L:Led (MQ w) t1)
  {R:Option Bool->ε->Prop} (h:∀ h',jh a s.heap h'->IntSet P w h' a ms->R (some true) { s with heap:=h' }) :
  wpAny (model P w) A (do
   storeSet a e1 t1
   if(!wd && t1.tooFull)=true then do
    g (Bs t1 e1 (jz e1.size)).2.2
    storeSet a (Bs t1 e1 (jz e1.size)).1 (Bs t1 e1 (jz e1.size)).2.1
    pure (some true)
   else pure (some true)) R E s:=by
 refine δ (Ca ho hd ?_ (vo hb));obtain⟨g1,S1⟩:=lN ho hex hd hel hp hb hf L
 have sb1:=ug s.heap a (H_ e1 t1);split
 ·have p2:=relayAll_perm t1 e1 (jz e1.size)
  have f2:=relayAll_fits t1 e1 (jz e1.size)
  have L2:=Led.relayAll L.led L e1 (jz e1.size);revert p2 f2 L2;generalize Bs t1 e1 (jz e1.size)=r;obtain⟨e2,t2,gv⟩:=r;intro p2 f2 L2;dsimp only at p2 f2 L2 ⊢
  have z2:e2.size=e1.size:=by rw[<-br,p2.length_eq,br]
  have b2:e2.size<r_:=z2 ▸ hb;refine δ (hg _ _ _ ?_);refine δ (Ca g1 rfl ?_ (vo b2));obtain⟨_,S2⟩:=lN (P:=P) (w:=w) g1 hex rfl (hel.perm p2) ((p2.map _).trans hp) b2 f2 L2;exact μ (h _ (sb1.trans (ug ..)) S2)
 ·exact μ (h _ sb1 S1)
def lP{ms:List Int}{k:Int}(h:k∈ms):u_ ms k=ms:=by
 unfold u_
 have e:(ms.any λx=>x == k)=true:=dv.mpr ⟨k,h,beq_self_eq_true k⟩;rw[if_pos e]
def lQ{ms:List Int}{k:Int}(h:¬ k∈ms):u_ ms k=ms++[k]:=by
 unfold u_;rw[if_neg λz=> ?_];obtain⟨x,hx,q⟩:=dv.mp z;rw[beq_iff_eq]at q;exact h (q ▸ hx)
def Wv{a:Addr}{ms:List Int}{k:Int}{tk:Tok}{Q:Bool->ε->Prop}(hS:IntSet P w s.heap a ms)(hr:ms.length+1<r_)
    (h:∀ (b:Bool) h',jh a s.heap h'->IntSet P w h' a (u_ ms k)->Q b { s with heap:=h' }):wpAny (model P w) A (setAddHashed a (.int k tk) ((gz P w).hash k)) Q E s:=by
  have hk:(gz P w).is k (.int k tk)=true:=Hu ..
  have hsc:(gg k tk).scannable=true:=rfl;generalize gg k tk=x at hk hsc;revert hS;apply u4;rintro o es ep t ⟨ho,hex,hd,hel,hp,hb,hf,L⟩
  have B8:es.size=ms.length:=by rw[<-hp.length_eq,ν,br]
  have hivx:iv x=k:=by obtain⟨_,z⟩:=om hk;rw[z];rfl
  unfold setAddHashed setAddHashedIn;refine d_ (δ (jk ho hd hf ?_));dsimp only;rw[byScan_of hsc hb hel,if_pos rfl];unfold setAddByScan;refine δ (δ (rj (δ (wpAny_setScan_of hk ho hd hf hel ?_))));cases hx:es.toList.findIdx? (λe=>(gz P w).is k e.2)with
  | some j =>
    dsimp only;obtain⟨hj,pj,_⟩:=List.findIdx?_eq_some_iff_getElem.mp hx
    have hm:k∈ms:=(lL hel hp k).mpr ⟨_,wt hj,pj⟩;refine μ (μ ?_)
    have:=h false s.heap (Heap.SameBut.refl a s.heap) (x4 o es ep t ⟨ho,hex,hd,hel,by rw[lP hm];exact hp,hb,hf,L⟩);exact this
  | none =>
    dsimp only
    have hm:¬ k∈ms:=λz=>by
      obtain⟨e,he,q⟩:=(lL hel hp k).mp z
      have:=List.findIdx?_eq_none_iff.mp hx e he;rw[q]at this;cases this
    have p1:=layNew_perm t es ((gz P w).hash k) x
    have f1:=layNew_fits t es ((gz P w).hash k) x
    have L1:=L.layNew es ((gz P w).hash k) x;revert p1 f1 L1;generalize layNew t es ((gz P w).hash k) x=r;obtain⟨e1,t1,wd,gv⟩:=r;intro p1 f1 L1;dsimp only at p1 f1 L1 ⊢;rw[B_]at p1
    have hel1:xh (gz P w) e1.toList:=(hel.push hk hsc).perm p1
    have KB:lw (e1.toList.map λe=>iv e.2) (u_ ms k):=by
      rw[lQ hm];refine(p1.map _).trans ?_;rw[bo,cu,Ar,hivx];exact List.Perm.append_right _ hp
    have hb1:e1.size<r_:=by
      rw[<-br,p1.length_eq,aj,br,B8];exact hr
    have gw:∀ (b:Bool) (s1:ε) (R:Unit->ε->Prop),R () s1 ->
        wpAny (model P w) A (match b with
          | true=>rule "set.scan.the-table-gave-way"
          | false=>pure ()) R E s1:=λb s1 R q=>by
      cases b
      ·exact μ q
      ·exact rj q
    refine δ (gw _ _ _ ?_);split
    · refine δ ?_
      rw[hashByValue_scannable 8 hsc];refine μ (lO ?_ ho hex hd hel1 KB hb1 ?_ ?_ λh' sb S'=> ?_)
      · intro b s1 R q
        cases b
        ·exact μ q
        ·exact rj q
      · split
        ·exact f1
        ·exact SetTable.fits_plain_off f1
      · split
        ·exact L1
        ·exact L1.plainOff
      ·dsimp only;exact μ (h _ h' sb S')
    · refine δ (μ ?_)
      rw[if_pos rfl];refine lO ?_ ho hex hd hel1 KB hb1 f1 L1 λh' sb S'=> ?_
      · intro b s1 R q
        cases b
        ·exact μ q
        ·exact rj q
      ·dsimp only;exact μ (h _ h' sb S')
def IntSet.at{h h':Heap}{a:Addr}{ms:List Int}(x:IntSet P w h a ms)(k:∀ o,h.get? a=some o->h'.get? a=some o):IntSet P w h' a ms:=by
 revert x;apply u4;rintro o es ep t ⟨ho,r⟩;exact x4 o es ep t ⟨k _ ho,r⟩
end
section
variable{P:au}{w:World}{A:bg}{R:Gu->ε->Prop}{I:Addr}{fp wr:List Addr}{G:Array zr->Array zr->Prop}{n:Nat}{T:Nat->Value->Prop}{St:Nat->ε->Prop}
def Ww(W:WalksS P w A.in1 I fp wr G n T St)(a:Addr)(ha:a∉fp)(val:Nat->Int)(hv:∀ i v,T i v->∃ t,v=.int (val i) t)(hb:n+1<r_):∀ (k i:Nat) (s:ε),n - i=k->i<=n->St i s ->
  IntSet P w s.heap a (va val i)->(∀ s',Moved (a::wr) G s s'->IntSet P w s'.heap a (va val n)->R (.ok (.ret .none)) s') ->
  sr (model P w) A (.builtin "set.update.loop" ⟨[.ref a,.ref I],[]⟩) R s:=by
 have haw:a∉wr:=λz=>ha (W.sub _ z)
 have up:∀ b∈wr,b∈a::wr:=λb q=>χ _ q;intro k
 induction k with
 | zero =>
  intro i s e1 e2 st S q;obtain rfl:i=n:=by omega
  refine kq mo ?_;rw[jm ii _]
  show wpAny _ A.in1 (mj (.ref I) >>= _) _ _ s;refine δ (W.done s _ _ st λs' m=> ?_)
  show wpAny _ A.in1 (ret de) _ _ s';exact μ (q s' (m.mono up) (S.at λo e=>m.heap a o haw e))
 | succ k ih =>
  intro i s e1 e2 st S q
  have hi:i<n:=by omega
  refine kq mo ?_;rw[jm ii _]
  show wpAny _ A.in1 (mj (.ref I) >>= _) _ _ s;refine δ (W.item i s _ _ hi st λv s1 tv st1 m=> ?_);obtain⟨t,rfl⟩:=hv i v tv
  have S1:=S.at λo e=>m.heap a o haw e
  show wpAny _ A.in1 (oy [gg (val i) t] (setAdd a (.int (val i) t)) >>= _) _ _ s1;refine δ (d_ ?_);unfold setAdd;refine d_ (δ ((gz P w).pyHash (k:=val i) (Hu ..) ?_));refine Wv (s:={ s1 with toks:=s1.toks+1 }) S1 (by have:=vb val i;omega) λb h' sb S2=> ?_;rw[<-firstMet_succ]at S2;refine μ ⟨v_ ii _,ih (i+1) _ (by omega) hi (W.frame _ s1 _ _ st1 (dq _) λb hb o e=> ?_) S2 λs2 m2 S3=> ?_⟩
  ·rw[sb.2 b λz:b=a=>ha (z ▸ hb)];exact e
  ·refine q s2 (Moved.trans W.gtrans ((m.mono up).then_heap (dq _) λb o hb e=> ?_) m2) S3;rw[sb.2 b λz:b=a=>hb (z ▸ aq)];exact e
end
section
variable{P:au}{w:World}{A:bg}{E:Value->ε->Prop}{s:ε}
def Wx{x:Value}{Q:Value->ε->Prop}(h:Q (.ref s.heap.objs.size) { s with heap:=s.heap.push { cls:=.type "set",dict:=none,data:=.set #[] 0 (.fresh 0 0 (MQ w)) } }) :
  sr (model P w) A (.call (.builtin "set.__new__") ⟨[.type "set",x],[]⟩) (wants Q E) s:=by
 refine codeAny_of_tree ?_
 show wpAny _ A.in1 (wo "set.__new__" ⟨[.type "set",x],[]⟩ >>= λ_=>again (.builtin "set.__new__" ⟨[.type "set",x],[]⟩)) _ _ s;refine δ (Ff (PySem.F.newCall_set_1 x) (μ ⟨v_ PySem.F.plain_set_new _,kq PySem.F.entry_set_new ?_⟩));rw[jm PySem.F.plain_set_new _];unfold jw.«set.__new__» Ic
 have e:=sub_set_self;obtain⟨hp,g,d,tk,os⟩:=s;dsimp only
 wp_walk
 refine j_ (μ ?_);dsimp only;simp only[newObj];exact δ (wpAny_alloc (μ (μ h)))
end
end L2
namespace L2
open PySem PyProof.Rows
abbrev IV(f:Value)(i:Nat)(a:Addr)(n ep:Nat):Obj:={ cls:=.type "set_iterator",dict:=none,data:=.fields #[f,ir i,.ref a,ir n,ir ep],slots:= #[] }
def IW:Slot "set_iterator" "__next__" "set_iterator.__next__" :=
 .of (owner:="set_iterator") (n:="__next__") (by rw[typeLookup_type,xq];kernel_rfl) (by decide +kernel) (by decide +kernel) (by decide +kernel)
  (by first | exact .inl (by decide +kernel) | exact .inr (by decide +kernel))
  (by rw[yg];kernel_rfl)
def SY:entryFor table "set_iterator.__next__"=some jw.«set_iterator.__next__» :=entryFor_of_fast (by kernel_rfl)
def SZ(a:Value):Ji "set_iterator.__next__" ⟨[a],[]⟩:=by
 unfold Ji
 kernel_rfl
def lR:Slot "set_iterator" "__iter__" "set_iterator.__iter__" :=
 .of (owner:="set_iterator") (n:="__iter__") (by rw[typeLookup_type,xq];kernel_rfl) (by decide +kernel) (by decide +kernel) (by decide +kernel)
  (by first | exact .inl (by decide +kernel) | exact .inr (by decide +kernel))
  (by rw[yg];kernel_rfl)
section
variable{P:au}{w:World}{A:bg}{E:Value->ε->Prop}{s:ε}
def Wy{it a:Addr}{sl i n ep nx:Nat}{x:Value}{o:Obj}{es:Array (Int × Value)}{ep':Nat}{t:SetTable}{Q:Option Value->ε->Prop}(hit:s.heap.get? it=some (IV (ir sl) i a n ep))
  (ho:s.heap.get? a=some o) (hd:o.data=.set es ep' t) (hf:t.fits es.size=true) (hn:es.size=n)
  (hs:∀ (A':bg) (E':Value->ε->Prop) (Q':Option (Value × Nat)->ε->Prop),Q' (some (x,nx)) s->wpAny (model P w) A' (ui a sl i ep) Q' E' s)
  (q:∀ h',h'.get? it=some (IV (ir nx) (i+1) a n ep)->jh it s.heap h'->Q (some x) { s with heap:=h' }):wpAny (model P w) A (mj (.ref it)) Q E s:=by
 have T:s.TypeIs (.ref it) "set_iterator":=⟨_,hit,rfl⟩
 unfold mj;refine δ (ju (df (name:=bd "__next__") T IW (dm IW T SY ?_ (SZ _))));unfold jw.«set_iterator.__next__»;refine δ (μ ?_);refine δ (vc hit rfl ?_)
 show wpAny _ _ (zk a >>= _) _ _ s;refine δ (jx ho hd hf ?_);rw[if_neg (by rw[hn];simp)]
 show wpAny _ _ (ui a (sl:Int).toNat (i:Int).toNat (ep:Int).toNat >>= _) _ _ s;rw[ai,ai,ai];refine δ (hs _ _ _ ?_);dsimp only;refine δ (i_ hit (by simp) λh1 g1 b1=> ?_);refine δ (i_ g1 (by simp) λh2 g2 b2=> ?_);exact μ ⟨_,rfl,μ (q h2 g2 (b1.trans b2))⟩
def lS{it:Addr}{h1:Heap}{Q:Except Value (Option Value)->ε->Prop}(hh:A.handled=none)(hx:lq it s.heap h1)
  (q:∀ h' e,lq it s.heap h'->({ s with heap:=h' }:ε).TypeIs e "StopIteration"->Q (.error e) { s with heap:=h' }) :
  wpAny (model P w) A (newExc (.type "StopIteration") [] >>= raiseNew (α :=Fin)) (λ_ _=>False) (λe=>Q (.error e)) { s with heap:=h1 }:=by
 refine δ ?_;simp only[newExc,newTuple];refine δ (ce ?_ (by size_fits));refine δ (m:=ux _ _) (Ff (a:=de) (by first | rfl | (simp only[ux];rfl)) ?_);refine ce ?_ (by size_fits);simp only[raiseNew];refine δ (wpAny_handled ?_);rw[hh];refine δ (μ (wpAny_throw ?_));exact q _ _ ((hx.push _).push _) ⟨_,ae _ rfl,rfl⟩
def Wz{it a:Addr}{sl i n ep:Nat}{o:Obj}{es:Array (Int × Value)}{ep':Nat}{t:SetTable}{Q:Option Value->ε->Prop}(hh:A.handled=none)(hit:s.heap.get? it=some (IV (ir sl) i a n ep))
  (ho:s.heap.get? a=some o) (hd:o.data=.set es ep' t) (hf:t.fits es.size=true) (hn:es.size=n)
  (hs:∀ (A':bg) (E':Value->ε->Prop) (Q':Option (Value × Nat)->ε->Prop),Q' none s->wpAny (model P w) A' (ui a sl i ep) Q' E' s)
  (q:∀ h',lq it s.heap h'->Q none { s with heap:=h' }):wpAny (model P w) A (mj (.ref it)) Q E s:=by
 have T:s.TypeIs (.ref it) "set_iterator":=⟨_,hit,rfl⟩
 unfold mj;refine δ (ju (df (name:=bd "__next__") T IW (dm IW T SY ?_ (SZ _))));unfold jw.«set_iterator.__next__»;refine δ (μ ?_);refine δ (vc hit rfl ?_)
 show wpAny _ _ (zk a >>= _) _ _ s;refine δ (jx ho hd hf ?_);rw[if_neg (by rw[hn];simp)]
 show wpAny _ _ (ui a (sl:Int).toNat (i:Int).toNat (ep:Int).toNat >>= _) _ _ s;rw[ai,ai,ai];refine δ (hs _ _ _ ?_);dsimp only;refine δ (i_ hit (by simp) λh1 g1 b1=> ?_);refine ln (lS (s:=s) (it:=it) (A:=A.in1) (Q:=λr s'=>match r with
  | .error e=>wpAny (model P w) A (Ho e (.type "StopIteration") >>= λb=>if b=true then pure none else throw e) Q E s'
  | _=>False) (by simpa using hh) b1.extBut λh' e hx te=> ?_) (λ_ _ z=>z.elim) (λe s' z=>z)
 refine δ (si (T:="StopIteration") (b:=true) te yh ?_);exact μ (q _ hx)
def Xb{it a tp:Addr}{i n ep pl:Nat}{ot:Obj}{ps:Array Value}{k:Nat}{x:Int × Value}{o:Obj}{es:Array (Int × Value)}{t:SetTable}{Q:Option Value->ε->Prop}(hit:s.heap.get? it=some (IV (.ref tp) i a n ep))
  (ho:s.heap.get? a=some o) (hd:o.data=.set es ep t) (hf:t.fits es.size=true) (hn:es.size=n) (ht:s.heap.get? tp=some ot) (hdt:ot.data=.seq ps k) (hp:ps[i]? =some (ir pl)) (hx:es[pl]? =some x)
  (q:∀ h',h'.get? it=some (IV (.ref tp) (i+1) a n ep)->jh it s.heap h'->Q (some x.2) { s with heap:=h' }):wpAny (model P w) A (mj (.ref it)) Q E s:=by
 have T:s.TypeIs (.ref it) "set_iterator":=⟨_,hit,rfl⟩
 unfold mj;refine δ (ju (df (name:=bd "__next__") T IW (dm IW T SY ?_ (SZ _))));unfold jw.«set_iterator.__next__»;refine δ (μ ?_);refine δ (vc hit rfl ?_)
 show wpAny _ _ (zk a >>= _) _ _ s;refine δ (jx ho hd hf ?_);rw[if_neg (by rw[hn];simp)]
 show wpAny _ _ (Iv (.ref tp) >>= _) _ _ s;refine δ (ye ht hdt ?_);dsimp only;rw[ai,hp]
 show wpAny _ _ (setNextDrawn a (pl:Int).toNat (ep:Int).toNat >>= _) _ _ s;rw[ai,ai];unfold setNextDrawn;refine δ (δ (jk ho hd hf ?_));dsimp only;rw[if_neg (by simp)];obtain⟨x1,x2⟩:=x;rw[hx];refine μ ?_;refine δ (i_ hit (by simp) λh2 g2 b2=> ?_);exact μ ⟨_,rfl,μ (q h2 g2 b2)⟩
def Xc{it a tp:Addr}{i n ep:Nat}{ot:Obj}{ps:Array Value}{k:Nat}{o:Obj}{es:Array (Int × Value)}{t:SetTable}{Q:Option Value->ε->Prop}(hh:A.handled=none)(hit:s.heap.get? it=some (IV (.ref tp) i a n ep))
  (ho:s.heap.get? a=some o) (hd:o.data=.set es ep t) (hf:t.fits es.size=true) (hn:es.size=n) (ht:s.heap.get? tp=some ot) (hdt:ot.data=.seq ps k) (hp:ps[i]? =none)
  (q:∀ h',lq it s.heap h'->Q none { s with heap:=h' }):wpAny (model P w) A (mj (.ref it)) Q E s:=by
 have T:s.TypeIs (.ref it) "set_iterator":=⟨_,hit,rfl⟩
 unfold mj;refine δ (ju (df (name:=bd "__next__") T IW (dm IW T SY ?_ (SZ _))));unfold jw.«set_iterator.__next__»;refine δ (μ ?_);refine δ (vc hit rfl ?_)
 show wpAny _ _ (zk a >>= _) _ _ s;refine δ (jx ho hd hf ?_);rw[if_neg (by rw[hn];simp)]
 show wpAny _ _ (Iv (.ref tp) >>= _) _ _ s;refine δ (ye ht hdt ?_);dsimp only;rw[ai,hp];dsimp only;refine δ (i_ hit (by simp) λh1 g1 b1=> ?_);refine δ (i_ g1 (by simp) λh2 g2 b2=> ?_);refine ln (lS (s:=s) (it:=it) (A:=A.in1) (Q:=λr s'=>match r with
  | .error e=>wpAny (model P w) A (Ho e (.type "StopIteration") >>= λb=>if b=true then pure none else throw e) Q E s'
  | _=>False) (by simpa using hh) (b1.trans b2).extBut λh' e hx te=> ?_) (λ_ _ z=>z.elim) (λe s' z=>z)
 refine δ (si (T:="StopIteration") (b:=true) te yh ?_);exact μ (q _ hx)
def Xd{a:Addr}{o:Obj}{es:Array (Int × Value)}{ep:Nat}{t:SetTable}{i:Nat}{Q:Option (Value × Nat)->ε->Prop}(ft:w.params.followText "set-order"=true)(ho:s.heap.get? a=some o)(hd:o.data=.set es ep t)(hf:t.fits es.size=true)
  (q:Q (((yq (w.params.setOrder a ep) es)[i]?).map λe=>(e.2,0)) s):wpAny (model P w) A (ui a 0 i ep) Q E s:=by
 unfold ui;refine δ (jk ho hd hf ?_);dsimp only;refine δ ?_;unfold zl;refine δ (j_ (μ ?_))
 show wpAny _ _ (if w.params.followText "set-order"=true then _ else _) _ _ s;rw[if_pos ft,if_neg (by simp)];refine δ ?_;unfold setWalk;refine δ (jk ho hd hf ?_);dsimp only;refine δ ?_;unfold zl;refine δ (j_ (μ ?_))
 show wpAny _ _ (if w.params.followText "set-order"=true then _ else _) _ _ s;rw[if_pos ft];refine δ (j_ (μ ?_));exact μ q
def Xg{a:Addr}{o:Obj}{es:Array (Int × Value)}{ep:Nat}{t:SetTable}{i:Nat}{Q:Option (Value × Nat)->ε->Prop}(ft:w.params.followText "set-order"=false)(ho:s.heap.get? a=some o)(hd:o.data=.set es ep t)(hf:t.fits es.size=true)
  (L:Led (MQ w) t) (pl:(!t.plain && decide (es.size > 1))=false) (hi:i<=es.size) (q:Q ((es[i]?).map λe=>(e.2,N0 t.place (i+1))) s):wpAny (model P w) A (ui a (N0 t.place i) i ep) Q E s:=by
 have hz:t.place.size=es.size:=by
  unfold SetTable.fits at hf;simp only[dg,beq_iff_eq]at hf;exact hf.1
 unfold ui;refine δ (jk ho hd hf ?_);dsimp only;refine δ ?_;unfold zl;refine δ (j_ (μ ?_))
 show wpAny _ _ (if w.params.followText "set-order"=true then _ else _) _ _ s;rw[if_neg (show ¬ w.params.followText "set-order"=true by rw[ft];exact ψ)]
 have ld:t.led=true:=by rw[L.led];unfold MQ;rw[ft];rfl
 show wpAny _ _ (if(!t.plain && decide (es.size > 1))=true then _ else _) _ _ s;rw[if_neg (by rw[pl];exact ψ)];refine δ (m:=if(!t.led && !es.isEmpty)=true then _ else _) ?_;rw[if_neg (by rw[ld];simp)];refine μ (μ ?_);rw[Wp L.rise (by exact υ hi (bn hz.symm))];by_cases BH:i<es.size
 ·have h2:i<t.place.size:=hz ▸ BH;rw[da BH,da h2];rw[da BH]at q
  have:N0 t.place (i+1)=t.place[i]+1:=by simp[N0,h2]
  rw[jg,this]at q;exact q
 ·rw[xi (by exact bu BH)];rw[xi (by exact bu BH),Option.map_none]at q;exact q
end
end L2
namespace L2
open PySem PyProof.Rows
def Xh:entryFor table "set.__iter__"=some jw.«frozenset.__iter__» :=entryFor_alias (id':="frozenset.__iter__") (by kernel_rfl) rfl (by decide +kernel) (by kernel_rfl)
def Xj:entryFor table "set_iterator.__iter__"=some jw.«dict_keyiterator.__iter__» :=entryFor_alias (id':="dict_keyiterator.__iter__") (by kernel_rfl) rfl (by decide +kernel) (by kernel_rfl)
def Xk(a:Value):Ji "set_iterator.__iter__" ⟨[a],[]⟩:=by
 unfold Ji
 kernel_rfl
structure W6(P:au)(w:World)(A:bg)(h h1:Heap)(a I:Addr)(ms:List Int):Prop where
 ex:∃ (fp:List Addr) (ord:List Value) (ks:List Int) (St:Nat->Heap->Prop),(∀ b∈fp,b=a\/h.objs.size<=b)/\Walks P w A I fp [I] ord.length (λi v=>ord[i]? =some v) St/\St 0 h1/\nc ord ks/\ks.Perm ms
 new:h.objs.size<=I
section
variable{P:au}{w:World}{A:bg}{E:Value->ε->Prop}{s:ε}
def W7:∀ {es:List (Int × Value)},xh (gz P w) es->nc (es.map (·.2)) (es.map λe=>iv e.2)
 | [],_=>.nil
 | e::r,h=>by
  obtain⟨t,z⟩:=W5 h (aq ..)
  have:=W7 h.tail;rw[cu,cu,z];exact .cons _ _ this
def lT{it:Addr}{f:Value}{i:Nat}{a:Addr}{n ep:Nat}{Q:Value->ε->Prop}(hit:s.heap.get? it=some (IV f i a n ep))(q:Q (.ref it) s):wpAny (model P w) A (C_ (.ref it)) Q E s:=by
 have T:s.TypeIs (.ref it) "set_iterator":=⟨_,hit,rfl⟩
 refine Ce T lR (dm lR T Xj ?_ (Xk _))
 show wpAny _ _ (ret (.ref it)) _ _ s;exact μ ⟨_,rfl,x2 "set_iterator" _ ⟨T,IW.lookup,q⟩⟩
def Xl{a I:Addr}{es:Array (Int × Value)}{ep:Nat}{t:SetTable}{o:Obj}{f:Nat->Nat}{ord:List Value}(hh:A.handled=none)(hne:a≠I)(hd:o.data=.set es ep t)(hf:t.fits es.size=true)(hl:ord.length=es.size)
  (nx:∀ (s:ε),s.heap.get? a=some o->∀ (i:Nat),i<=es.size->∀ (A':bg) (E':Value->ε->Prop) (Q':Option (Value × Nat)->ε->Prop),Q' ((ord[i]?).map λv=>(v,f (i+1))) s->wpAny (model P w) A' (ui a (f i) i ep) Q' E' s) :
  Walks P w A I [I,a] [I] ord.length (λi v=>ord[i]? =some v) (λi h=>h.get? I=some (IV (ir (f i)) i a es.size ep)/\h.get? a=some o) where
 sub:=λb hb=>by simp at hb;simp[hb]
 frame:=λ_ _ _ st k=>⟨k I (by simp) _ st.1,k a (by simp) _ st.2⟩
 item:=λi s Q E hi st q=>by
  have e:ord[i]? =some ord[i]:=ζ hi;refine Wy st.1 st.2 hd hf rfl (λA' E' Q' q'=>nx s st.2 i (by omega) A' E' Q' (by rw[e];exact q')) λh' g b=> ?_;exact q _ h' s.toks e ⟨g,b.extBut a _ hne st.2⟩ λc u hc z=>b.extBut c u (λy=>hc (by simp[y])) z
 done:=λs Q E st q=>by
  refine Wz hh st.1 st.2 hd hf rfl (λA' E' Q' q'=>nx s st.2 ord.length (bn hl) A' E' Q' (by rw[bx (ξ _)];exact q')) λh' x=> ?_;exact q h' s.toks λc u hc z=>x c u (λy=>hc (by simp[y])) z
 self:=λ_ _ _ _ st q=>lT st.1 q
def Xm{a I tp:Addr}{es:Array (Int × Value)}{ep k:Nat}{t:SetTable}{o ot:Obj}{pl:List Nat}{ord:List Value}(hh:A.handled=none)(hne:a≠I)(hnt:tp≠I)(hd:o.data=.set es ep t)(hf:t.fits es.size=true)
  (hdt:ot.data=.seq (pl.map λ(i:Nat)=>ir i).toArray k) (hl:ord.length=pl.length) (hx:∀ (i p:Nat),pl[i]? =some p->∃ e:Int × Value,es[p]? =some e/\ord[i]? =some e.2) :
  Walks P w A I [I,a,tp] [I] ord.length (λi v=>ord[i]? =some v) (λi h=>h.get? I=some (IV (.ref tp) i a es.size ep)/\h.get? a=some o/\h.get? tp=some ot) where
 sub:=λb hb=>by simp at hb;simp[hb]
 frame:=λ_ _ _ st k=>⟨k I (by simp) _ st.1,k a (by simp) _ st.2.1,k tp (by simp) _ st.2.2⟩
 item:=λi s Q E hi st q=>by
  have hi':i<pl.length:=hl ▸ hi
  have e:=ζ hi';obtain⟨x,e1,e2⟩:=hx i _ e;refine Xb st.1 st.2.1 hd hf rfl st.2.2 hdt (by rw[xr,ρ,e];rfl) e1 λh' g b=> ?_;exact q _ h' s.toks e2 ⟨g,b.extBut a _ hne st.2.1,b.extBut tp _ hnt st.2.2⟩ λc u hc z=>b.extBut c u (λy=>hc (by simp[y])) z
 done:=λs Q E st q=>by
  refine Xc hh st.1 st.2.1 hd hf rfl st.2.2 hdt (by rw[xr,ρ,bx (by exact bn hl.symm)];rfl) λh' x=> ?_;exact q h' s.toks λc u hc z=>x c u (λy=>hc (by simp[y])) z
 self:=λ_ _ _ _ st q=>lT st.1 q
def Xp{n:Nat}{Q:Nat->ε->Prop}(hn:n≠0)(q:∀ i d,i<n->Q i { s with drawn:=d }):wpAny (model P w) A (choose .order n) Q E s:=fun Γ p hΓ =>by
 show Sem.wp _ _ (.choose .order n .pure) _ _ _ _;rw[Sem.wp_choose];refine⟨hn,?_⟩
 show Sem.wp _ _ (.pure _) _ _ _ _;rw[Sem.wp];exact q _ _ (zj _ (zm hn))
def lU{α :Type}:∀ (n:Nat) (xs:List α) (s:ε) (Q:List α ->ε->Prop),xs.length=n->(∀ ys d,lw ys xs->Q ys { s with drawn:=d })->wpAny (model P w) A (Iw n xs) Q E s
 | 0,xs,s,Q,hn,q=>by
  have:xs=[]:=og.mp hn;subst this;unfold Iw;exact μ (q [] s.drawn .nil)
 | n+1,[],s,Q,hn,q=>by cases hn
 | n+1,x::r,s,Q,hn,q=>by
  unfold Iw;refine δ (Xp (by simp) λi d hi=> ?_);rw[ζ hi];dsimp only;refine δ (lU n _ _ _ (by rw[uz hi,hn];rfl) λys d' p=> ?_);refine μ (q _ d' ?_);refine(List.Perm.cons _ p).trans ?_;rw[fu];refine Ee.symm.trans ?_;rw[<-mf hi,q_]
def Xq {a:Addr} {ms:List Int} {Q:Value->ε->Prop} (hh:A.handled=none) (S:IntSet P w s.heap a ms)
    (q:∀ I h1 d1,(∀ b o,s.heap.get? b=some o->h1.get? b=some o)->W6 P w A s.heap h1 a I ms->Q (.ref I) { s with heap:=h1,drawn:=d1 }):wpAny (model P w) A (C_ (.ref a)) Q E s:=by
  revert S;apply u4;rintro o es ep t ⟨ho,hex,hd,hel,hp,hb,hf,L⟩
  have T:s.TypeIs (.ref a) "set":=⟨o,ho,hex.1⟩
  have BH:a<s.heap.objs.size:=ω ho;refine Ce T PySem.F.slot_set_iter (dm PySem.F.slot_set_iter T Xh ?_ (PySem.F.args_set_iter_1 _));unfold jw.«frozenset.__iter__»
  show wpAny _ _ ((pure a:Sem Addr) >>= _) _ _ s;refine δ (μ ?_);refine δ ?_;unfold Ij;refine δ (jx ho hd hf (μ ?_));refine δ ?_;unfold setDrawn;refine δ (jk ho hd hf ?_);dsimp only;refine δ ?_;unfold zl;refine δ (j_ (μ (μ ?_)))
  show wpAny _ _ (if(!w.params.followText "set-order" && (!t.plain && decide (es.size > 1)))=true then _ else _) _ _ s
  have plain:∀ (f:Nat->Nat) (ord:List Value),f 0=0->ord.length=es.size->(∃ ks,nc ord ks/\ks.Perm ms) ->
      (∀ (s:ε),s.heap.get? a=some o->∀ (i:Nat),i<=es.size->∀ (A':bg) (E':Value->ε->Prop) (Q':Option (Value × Nat)->ε->Prop),Q' ((ord[i]?).map λv=>(v,f (i+1))) s->wpAny (model P w) A' (ui a (f i) i ep) Q' E' s) ->
      W6 P w A s.heap (s.heap.push (IV (ir 0) 0 a es.size ep)) a s.heap.objs.size ms:=λf ord f0 hl ⟨ks,hi,pk⟩ nx =>
    ⟨⟨_,ord,ks,_,λb hb=>by
        simp only[ak,bz,or_false]at hb;rcases hb with rfl | rfl
        ·exact .inr (ξ _)
        ·exact .inl rfl,Xl hh (aw BH) hd hf hl nx,⟨by rw[f0];exact ae _ rfl,θ _ ho⟩,hi,pk⟩,ξ _⟩
  have fin:∀ (W:W6 P w A s.heap (s.heap.push (IV (ir 0) 0 a es.size ep)) a s.heap.objs.size ms),
      wpAny (model P w) A.in1 (do
        let first ← (pure (ir 0):Sem Value)
        ret (← newFields "set_iterator" [first,ir 0,.ref a,ir es.size,ir (← setEpoch a)])) (λfin s'=>∃ v,fin=.done (.ret v)/\∃ T' r,s'.TypeIs v T'/\Ha (.type T') "__next__"=pure (some r)/\Q v s') E s:=λW=>by
    refine δ (μ ?_);refine δ (Cf ho hd hf ?_);refine δ (ce (μ ⟨_,rfl,x2 "set_iterator" _ ⟨⟨_,ae _ rfl,rfl⟩,IW.lookup,?_⟩⟩));exact q _ _ s.drawn (λb u e=>θ _ e) W
  cases ft:w.params.followText "set-order" with
  | true =>
    rw[if_neg (by simp)]
    have pk:=Wq (w.params.setOrder a ep) es
    have hl:(yq (w.params.setOrder a ep) es).size=es.size:=by rw[<-br,pk.length_eq,br]
    refine fin (plain (λ_=>0) ((yq (w.params.setOrder a ep) es).toList.map (·.2)) rfl (by rw[ν,br,hl]) ⟨_,W7 (hel.perm pk),(pk.map _).trans hp⟩ λs1 h1 i hi A' E' Q' q'=> ?_);refine Xd ft h1 hd hf ?_;rw[ρ,jc,yf]at q';exact q'
  | false =>
    cases pl:(!t.plain && decide (es.size > 1))with
    | false =>
      rw[if_neg (by simp)];refine fin (plain (N0 t.place) (es.toList.map (·.2)) rfl (by rw[ν,br]) ⟨_,W7 hel,hp⟩ λs1 h1 i hi A' E' Q' q'=> ?_);refine Xg ft h1 hd hf L pl hi ?_;rw[ρ,jc,yf]at q';exact q'
    | true =>
      rw[if_pos (by simp)];refine δ (lU es.size (ag es.size) s _ (lj) λys d p=> ?_)
      have hy:ys.length=es.size:=by rw[p.length_eq,lj]
      have hys:∀ x∈ys,x<es.size:=λx hx=>bp.mp (p.mem_iff.mp hx);refine δ (wpAny_newTuple ?_ (by rw[ν,hy];exact vo hb));refine δ (Cf (o:=o) (θ _ ho) hd hf ?_);refine δ (ce (μ ⟨_,rfl,x2 "set_iterator" _ ⟨⟨_,ae _ rfl,rfl⟩,IW.lookup,?_⟩⟩));refine q _ _ d (λb u e=>θ _ (θ _ e)) ⟨⟨_,ys.map λp=>(es[p]?.map (·.2)).getD .none,ys.map λp=>(es[p]?.map λe=>iv e.2).getD 0,_,λb hb=> ?_,
        Xm hh ?_ ?_ hd hf rfl (by rw[ν]) λi p e=> ?_,⟨ae _ rfl,θ _ (θ _ ho),θ _ (ae _ rfl)⟩,?_,?_⟩,?_⟩
      · simp only[ak,bz,or_false]at hb
        rcases hb with rfl | rfl | rfl
        ·right;rw[sj];exact dq _
        ·exact .inl rfl
        ·exact .inr (ξ _)
      ·rw[sj];exact aw (jn BH)
      ·rw[sj];exact aw (ff _)
      · have hp':p<es.size:=hys p (π e)
        exact⟨es[p],da hp',by rw[ρ,e];simp[hp']⟩
      · have all:∀ (l:List Nat),(∀ x∈l,x<es.size)->nc (l.map λp=>(es[p]?.map (·.2)).getD .none) (l.map λp=>(es[p]?.map λe=>iv e.2).getD 0):=by
          intro l
          induction l with
          | nil=>exact λ_=>.nil
          | cons x r ih =>
            intro hl
            have hx:=hl x (aq ..);obtain⟨tk,z⟩:=W5 hel (e:=es[x]) (by simp)
            have e1:(es[x]?.map (·.2)).getD de=gg (iv es[x].2) tk:=by rw[da hx];exact z
            have e2:(es[x]?.map λe=>iv e.2).getD 0=iv es[x].2:=by rw[da hx];rfl
            rw[cu,cu,e1,e2];exact .cons _ _ (ih λy hy=>hl y (χ _ hy))
        exact all ys hys
      · refine(p.map _).trans (List.Perm.trans (List.Perm.of_eq ?_) hp)
        refine List.ext_getElem (by simp) λi h1 h2=> ?_
        have hi:i<es.size:=by simpa using h1
        simp[hi]
      ·rw[sj];exact dq _
def Xv{a:Addr}{Q:Bool->ε->Prop}(T:s.TypeIs (.ref a) "set")(q:Q false s):wpAny (model P w) A (uj (.ref a)) Q E s:=by
 unfold uj;refine δ (wpAny_specialOf T PySem.F.slot_set_len.lookup ?_);generalize hid:("set.__len__":String)=id0
 wp_delta
 rw[show splitId id0=some ("set","__len__")from by subst hid;decide +kernel];subst hid;refine δ (si (T:="set") (b:=true) T (by rw[yg];kernel_rfl) ?_);refine wpAny_ite_split (λz=>absurd z (by decide)) (λ_=> ?_);refine wpAny_ite_split (λ_=> ?_) (λz=>absurd (by decide +kernel) z);exact δ (Ae T (μ q))
def Xw{a:Addr}{ms:List Int}{R:List Value->ε->Prop}(hh:A.handled=none)(S:IntSet P w s.heap a ms)(hn:ms.length<=sizeLine)
  (q:∀ h' tk d vs ks,(∀ b o,s.heap.get? b=some o->h'.get? b=some o)->s.heap.objs.size<=h'.objs.size->nc vs ks->ks.Perm ms->R vs { s with heap:=h',toks:=tk,drawn:=d }):wpAny (model P w) A (collect (.ref a)) R E s:=by
 have BH:a<s.heap.objs.size:=let ⟨_,_,_,_,ho,_⟩:=S;ω ho
 unfold collect;refine δ (wpAny_runValue (kq entry_proto_collect' ?_));rw[jm PySem.F.plain_proto_collect _]
 show wpAny _ A.in1 (newList [] >>= λl=>again (.builtin "list.__iadd__" ⟨[l,.ref a],[]⟩)) _ _ s;refine δ (ce ?_);refine μ ⟨v_ PySem.F.plain_list_iadd _,kq entry_list_iadd' ?_⟩;rw[jm PySem.F.plain_list_iadd _]
 show wpAny _ A.in1 (uk (.ref s.heap.objs.size) (.ref a) (.ref s.heap.objs.size)) _ _ _;generalize eN:s.heap.objs.size=N at BH ⊢
 have gN:(s.heap.push { cls:=.type "list",data:=.seq ([]:List Value).toArray }).get? N=some { cls:=.type "list",data:=.seq #[] }:=eN ▸ ae _ rfl
 have keep1:∀ b o,s.heap.get? b=some o->(s.heap.push { cls:=.type "list",data:=.seq ([]:List Value).toArray }).get? b=some o:=λb o e=>θ _ e
 have S1:=S.at λo e=>keep1 a o e
 have big:(s.heap.push { cls:=.type "list",data:=.seq ([]:List Value).toArray }).objs.size=N+1:=by rw[sj,eN]
 revert gN keep1 S1 big;generalize s.heap.push { cls:=.type "list",data:=.seq ([]:List Value).toArray }=h0;intro gN keep1 S1 big
 have T1:∀ h':Heap,(∀ b o,h0.get? b=some o->h'.get? b=some o)->∀ tk d,({ s with heap:=h',toks:=tk,drawn:=d }:ε).TypeIs (.ref a) "set":=λh' k tk d=>by
  revert S1;apply u4;rintro o _ _ _ ⟨ho,hex,_⟩;exact⟨o,k _ _ ho,hex.1⟩
 unfold uk;refine δ (Ae (T:="set") (T1 h0 (λ_ _ e=>e) s.toks s.drawn) ?_)
 have ne:wa (.ref N) (.ref a)=false:=by
  simp only[wa,beq_eq_false_iff_ne];exact il BH
 have n1:(jp "set" == jp "list")=false:=by decide
 have n2:(jp "set" == jp "tuple")=false:=by decide
 simp only[ne,n1,n2,dt,iy,if_false];refine δ (Xq (A:=A.in1) (s:={ s with heap:=h0 }) (by simpa using hh) S1 λI h1 d1 k1 W=> ?_);obtain⟨⟨fp,ord,ks,St,hfp,W,st,hi,pk⟩,hI⟩:=W
 have hI:N+1<=I:=big ▸ hI
 have B8:ord.length=ms.length:=by rw[yj hi,pk.length_eq]
 refine δ (d_ (Xv (T1 h1 k1 s.toks d1) ?_));rw[if_pos (by decide)];refine δ (rj ?_);refine δ ?_
 show wpAny _ _ (updateSeq N (·.push .none) >>= λ_=>updateSeq N (·.pop)) _ _ _
 have g1:=k1 _ _ gN;refine δ (wpAny_updateSeq (s:={ s with heap:=h1,drawn:=d1 }) g1 rfl ?_)
 have g2:=fz (jr (·.push de)) g1 rfl;refine wpAny_updateSeq (hz:=by seq_fits) g2 rfl ?_
 have g3:=fz (jr (·.pop)) g2 rfl
 have oth:∀ b o,b≠N->h1.get? b=some o->((h1.update N (jr (·.push de))).update N (jr (·.pop))).get? b=some o:=λb o hb e =>
  (ca _ _ (di hb)).trans ((ca _ _ (di hb)).trans e)
 have Nfp:N∉fp:=λz=>by
  rcases hfp N z with y | y
  ·exact il BH y
  ·have y':h0.objs.size<=N:=y;rw[big]at y';exact absurd y' (Nat.not_succ_le_self _)
 refine μ ⟨v_ PySem.F.plain_extend_loop _,?_⟩;refine codeAny_extend_loopS W.toS (by rw[B8];exact hn) N Nfp (.ref N) ord.length 0 _ #[] _ rfl (a_ _) (W.frame 0 _ _ st λb hb o e=>oth b o (λz=>Nfp (z ▸ hb)) e) g3 (ItemsOf.nil _) λs' CY c m g4 hacc=> ?_
 show wpAny _ A (load N >>= _) _ _ _;refine δ (wpAny_load g4 ?_);refine μ ?_
 have eacc:CY.toList=ord:=by
  refine List.ext_getElem? λi=> ?_;by_cases hlt':i<ord.length
  ·have h3:i<CY.size:=by rw[hacc.1];exact hlt'
   have:=hacc.2 i CY[i] (da h3);rw[jc,da h3,this]
  ·have e1:CY.toList[i]? =none:=bx (by rw[br,hacc.1];exact bu hlt')
   have e2:ord[i]? =none:=bx (bu hlt');rw[e1,e2]
 show R CY.toList s';rw[eacc];obtain⟨h3,gn3,dr3,tk3,os3⟩:=s'
 have a1:gn3=s.gens:=m.gens
 have a2:dr3=d1:=m.drawn
 have a3:os3=s.os:=m.os;subst a1;subst a2;subst a3;refine q _ _ dr3 ord ks (λb o e=> ?_) (by rw[eN];exact fg (ω g4)) hi pk
 have hb:b<N:=eN ▸ ω e;refine m.heap b o (λz=> ?_) (oth b o (aw hb) (k1 _ _ (keep1 _ _ e)));simp only[ak,bz,or_false]at z;rcases z with z | z
 ·exact aw hb z
 ·exact aw (τ (jn hb) hI) z
def Xx{a:Addr}{ms:List Int}{Q:Value->ε->Prop}(hh:A.handled=none)(S:IntSet P w s.heap a ms)(hn:ms.length<64)
  (q:∀ D h' tk d c out ks,(∀ b o,s.heap.get? b=some o->h'.get? b=some o)->s.heap.objs.size<=D->h'.get? D=some (seqObj "list" out c)->nc out.toList ks->ks.Perm ms->ks.Pairwise (· <=·)->Q (.ref D) { s with heap:=h',toks:=tk,drawn:=d }) :
  wpAny (model P w) A (call (.builtin "sorted") [.ref a]) Q E s:=by
 refine Calls.call_function_entry kind_sorted plain_sorted entry_sorted (args_sorted1 _) ?_;unfold jw.«sorted»;refine δ (m:=checkCount "sorted" 1 1 _) (μ ?_);refine δ (Xw (A:=A.in1) (by simpa using hh) S (by rw[ka];exact oB hn rfl) λh1 tk d vs ks k1 size_le hi pk=> ?_)
 have hl:vs.length<64:=by rw[yj hi,pk.length_eq];exact hn
 refine δ (wpAny_newList ?_ (by rw[ka];exact oB hl rfl))
 have g:(h1.push (seqObj "list" vs.toArray 0)).get? h1.objs.size=some (seqObj "list" vs.toArray 0):=ae _ rfl
 show wpAny _ _ _ _ _ { s with heap:=h1.push (seqObj "list" vs.toArray 0),toks:=tk,drawn:=d };refine δ (d_ (dm slot_list_sort ⟨_,g,rfl⟩ entry_list_sort (list_sort_tree g hi hl λout ks' i1 p1 r1=>⟨_,rfl,?_⟩) (args_list_sort _)));obtain⟨c,gc⟩:=sortedHeap_at (n:=0) (out:=out) g;refine μ ⟨_,rfl,q _ _ tk d c out ks' (λb o e=> ?_) size_le gc i1 (p1.trans pk) r1⟩
 have hb:=ω (k1 _ _ e);rw[sortedHeap_old (aw hb) (by rw[sj];exact jn hb)];exact θ _ (k1 _ _ e)
end
end L2
namespace L2
open PySem PyProof.Rows
section
variable{P:au}{w:World}{A:bg}{E:Value->ε->Prop}{s:ε}
def Xy {l:Addr} {its:Array Value} {ns:List Int} {Q:Value->ε->Prop} (hh:A.handled=none) (hl:s.heap.IsList l its) (hi:nc its.toList ns) (hb:its.size+1<r_)
    (q:∀ h' tk,IntSet P w h' s.heap.objs.size (va (λi=>ns.getD i 0) its.size)->(∀ b o,s.heap.get? b=some o->h'.get? b=some o)->Q (.ref s.heap.objs.size) { s with heap:=h',toks:=tk }) :
    wpAny (model P w) A (call (.type "set") [.ref l]) Q E s:=by
  refine u2 ?_ PySem.F.called_set.mro;rintro c tl mro
  have made:=PySem.F.called_set.made
  have sub:=PySem.F.called_set.sub;refine wz (codeAny_of_tree ?_)
  show wpAny _ _ (callAny (.type "set") _) _ _ _;refine μ ⟨Code.quiet_builtin _ (by decide +kernel),kq PySem.F.entry_type_call ?_⟩;rw[Around.under_plain (weight_type_call_type "set" [.ref l] []) rfl]
  have n1:=PySem.F.called_set.notType
  have n2:=PySem.F.called_set.canCreate
  have n3:=PySem.F.typeCall_set_1 (.ref l)
  repeat (any_goals (first | assumption | wp_step))
  generalize eS:({ cls:=.type "set",dict:=none,data:=.set #[] 0 (.fresh 0 0 (MQ w)) }:Obj)=oS;refine kg (Wx (E:=E) (Q:=λx s1=>x=.ref s.heap.objs.size/\s1={ s with heap:=s.heap.push oS }) ⟨rfl,by rw[<-eS]⟩) λr s1 hr=> ?_;cases r with
  | error e=>exact hr
  | ok fl =>
    cases fl with
    | ret x =>
      obtain⟨rfl,rfl⟩:=hr
      have g0:(s.heap.push oS).get? s.heap.objs.size=some oS:=ae _ (by rw[<-eS];rfl)
      have T0:Shared.TypeIs { s with heap:=s.heap.push oS } (.ref s.heap.objs.size) "set":=⟨_,g0,by rw[<-eS]⟩
      have i1:=PySem.F.called_set.init.lookup
      have i2:=PySem.F.called_set.init.bind (.ref s.heap.objs.size)
      repeat (any_goals (first | assumption | wp_step))
      refine kg (yc (R:=wants (λr s2=>r=.none/\∃ h' tk,s2={ s with heap:=h',toks:=tk }/\IntSet P w h' s.heap.objs.size (va (λi=>ns.getD i 0) its.size) /\
        (∀ b o,s.heap.get? b=some o->h'.get? b=some o)) E) PySem.F.called_set.init.plain PySem.F.entry_set_init (check_set_init_1 T0 ?_)) λr2 s2 OS=> ?_
      · obtain⟨ol,gl,cl,nl,dl⟩:=hl
        obtain⟨c1,d1,dt1,sl1⟩:=ol;simp only at cl dl;subst cl;subst dl
        have gl':=θ oS gl
        have e1:=PySem.F.sub_list_set
        have e2:=PySem.F.sub_list_frozenset
        have e3:(jp "list" == jp "dict")=false:=by decide
        have IF:(s.heap.push oS).IsList l its:=⟨_,gl',rfl,nl,rfl⟩
        have BH:l<s.heap.objs.size:=ω gl
        have big:=sj s.heap oS;revert gl' IF g0 T0 big
        have keep0:∀ b o,s.heap.get? b=some o->(s.heap.push oS).get? b=some o:=λb o e=>θ _ e;revert keep0;generalize s.heap.push oS=h0;intro keep0 g0 T0 gl' IF big;subst eS;unfold jw.«set.__init__» noKeywords Ft;generalize hPI:C_=PI
        wp_walk
        subst hPI;refine vn IF ?_;refine δ (wpAny_runValue ?_)
        have hh3:A.in1.in1.in1.handled=none:=by simp[hh]
        have ne1:l≠h0.objs.size:=aw (by rw[big];exact jn BH)
        have nin:s.heap.objs.size∉[h0.objs.size,l]:=by
          simp only[ak,bz,or_false,not_or];exact⟨aw (by rw[big];exact ff _),il BH⟩
        refine Ww ((Ko hh3 _ l ne1 its).toS) s.heap.objs.size nin (λi=>ns.getD i 0) (λi v e=>IntsAre.int_at hi i v (by rw[jc];exact e)) hb (its.size - 0) 0 _ (by omega) (a_ _)
          ⟨⟨_,ae _ rfl,rfl,rfl⟩,IF.push _⟩ (x4 _ (#[]) 0 _ ⟨θ _ g0,⟨rfl,rfl,rfl⟩,rfl,λe he=>by simp at he,by exact .nil,by decide,by rfl,Led.fresh _⟩) λs3 m S3=> ?_
        obtain⟨h3,g3,d3,tk3,os3⟩:=s3
        have a1:g3=s.gens:=m.gens
        have a2:d3=s.drawn:=m.drawn
        have a3:os3=s.os:=m.os;subst a1;subst a2;subst a3
        show wpAny _ _ _ _ _ _;refine μ ?_
        show wpAny _ _ (ret de) _ _ _;refine μ ⟨rfl,x2 h3 tk3 ⟨rfl,S3,λb o e=> ?_⟩⟩
        have hb:=ω e;refine m.heap b o ?_ (θ _ (keep0 _ _ e));simp only[ak,bz,or_false,not_or];exact⟨aw hb,aw (by rw[big];exact jn hb)⟩
      · cases r2 with
        | error e=>exact OS
        | ok fl2 =>
          cases fl2 with
          | ret r =>
            obtain⟨rfl,h',tk,rfl,S',k'⟩:=OS
            repeat (any_goals (first | assumption | wp_step))
            exact q _ _ S' k'
          | _=>exact OS.elim
    | _=>exact hr.elim
end
end L2
namespace L2
section
variable{X:Cx}
def Inv.drawn{AB:List (Addr × Obj)}{σ:St}{H:Hp}{s:ε}(I:Inv X AB σ H s)(d):Inv X AB σ H { s with drawn:=d } :=
 { ok:=I.ok,os:=I.os,bare:=I.bare,base:=I.base,loc:=I.loc,cell:=I.cell,free:=I.free,freeC:=I.freeC,pin:=I.pin,hok:=I.hok,len:=I.len }
def lV:∀ {ns:List Int} {us:List Value},Vals (ns.map V.int) us->nc us ns
 | [],_,.nil=>.nil
 | n::r,_,.cons h t=>by
  obtain⟨tk,rfl⟩:=h;exact .cons _ _ (lV t)
abbrev lW(X:Cx)(a:Addr)(ms:List Int):HO:=.ext λh=>IntSet X.prog X.w h a ms
def Xz(hc:X.calm=true):FX X (.type "set") (λxs H Q=>∃ (p:Addr) (ns:List Int),xs=[.ref p]/\SqL X.K H p (ns.map V.int)/\ns.length<=1000 ∧
  ∀ (a:Addr),H a=none->Q (.ref a) (upd H a (lW X a (va (λi=>ns.getD i 0) ns.length)))):=by
 intro AB s σ H xs us Q I r h;revert h;apply u2;rintro p ns ⟨rfl,hq,hn,q⟩;obtain⟨u,rfl,rx⟩:=KH r;cases rx;obtain⟨its,r',pl,hz⟩:=I.list hq
 have hi:=lV r'
 have B8:its.length=ns.length:=yj hi;refine Xy (I.ok.hd hc) pl.isList hi (by rw[aa,B8];exact cz (l8 hn) (by decide)) λh' tk S k=> ?_
 have hz2:its.toArray.size=ns.length:=by rw[aa,B8]
 rw[hz2]at S;refine x2 (.ref s.heap.objs.size) _ ⟨I.laid k (ξ _) ?_,rfl,q _ (I.hok.fresh (ξ _))⟩;exact⟨S,⟨_,S.choose_spec.choose_spec.choose_spec.choose_spec.1⟩,λh1 h2 z e=>z.at e⟩
def Yb(hc:X.calm=true):FX X (.builtin "sorted") (λxs H Q=>∃ (a:Addr) (ms:List Int),xs=[.ref a]/\H a=some (lW X a ms)/\ms.length<64 ∧
  ∀ (D:Addr) (ks:List Int),H D=none->lw ks ms->ks.Pairwise (· <=·)->Q (.ref D) (upd H D (.lst (ks.map V.int)))):=by
 intro AB s σ H xs us Q I r h;revert h;apply u2;rintro a ms ⟨rfl,ha,hn,q⟩;obtain⟨u,rfl,rx⟩:=KH r;cases rx;obtain⟨S,_,_⟩:=I.hok a _ ha;refine Xx (I.ok.hd hc) S hn λD h' tk d c out ks k hD g hi pk hr=> ?_
 have hl:ks.length<64:=by rw[pk.length_eq];exact hn
 refine x2 (.ref D) _ ⟨(I.laid (t':=tk) k hD ?_).drawn d,rfl,q D ks (I.hok.fresh hD) pk hr⟩;exact⟨by rw[ν,ka];exact oB hl rfl,x2 out.toList c ⟨WE hi,g⟩⟩
def Yc(val:Nat->Int)(n:Nat)(x:Int):x∈va val n↔∃ i,i<n/\val i=x:=by
 have h:=firstMet_any val n x;rw[je,dv,dv]at h;constructor
 ·intro hx;obtain⟨y,hy,e⟩:=h.mp ⟨x,hx,beq_self_eq_true x⟩;obtain⟨i,hi,rfl⟩:=cj.mp hy;exact⟨i,bp.mp hi,eq_of_beq e⟩
 ·rintro ⟨i,hi,rfl⟩;obtain⟨y,hy,e⟩:=h.mpr ⟨val i,cj.mpr ⟨i,bp.mpr hi,rfl⟩,beq_self_eq_true _⟩;exact eq_of_beq e ▸ hy
def W8(val:Nat->Int):∀ n,(va val n).Nodup
 | 0=>by rw[firstMet_zero];exact pb
 | n+1=>by
  rw[firstMet_succ];by_cases h:val n∈va val n
  ·rw[lP h];exact W8 val n
  ·rw[lQ h];exact vp.mpr ⟨W8 val n,by simp,λa ha b hb e=>by rw[ο]at hb;subst hb;subst e;exact h ha⟩
def lX:∀ {l:List Int},l.Pairwise (· <=·)->l.Nodup->l.Pairwise (· <·)
 | [],_,_=>.nil
 | x::r,h,n=>by
  obtain⟨h1,h2⟩:=iz.mp h;obtain⟨n1,n2⟩:=jf.mp n;refine iz.mpr ⟨λy hy=> ?_,lX h2 n2⟩
  have:=h1 y hy
  have:x≠y:=λz=>n1 (z ▸ hy);omega
def PR(K:η)(te:TE):TE:=λσ H Q=>te σ H λx H1=>∃ (p:Addr) (ns:List Int),x=.ref p/\SqL K H1 p (ns.map V.int)/\ns.length<64 /\
 ∀ (a:Addr) (o:HO) (D:Addr) (ks:List Int),H1 a=none->upd H1 a o D=none->ks.Pairwise (· <·)->(∀ x,x∈ks↔x∈ns)->ks.length<=ns.length->Q (.ref D) (upd (upd H1 a o) D (.lst (ks.map V.int)))
def clo(te:TE):TE:=λσ H Q=>∃ C:VK,te σ H C/\∀ x H1,C x H1->Q x H1
def PE.clo{e:Expr}{te:TE}(h:PE X e te):PE X e (clo te):=λAB s σ H Q I ⟨C,q,m⟩=>A1 (h AB s σ H C I q) λv s' ⟨x,H1,I1,r1,q1⟩=>x2 x H1 ⟨I1,r1,m _ _ q1⟩
def W9{e:Expr}{te:TE}{p1 p2 p3 p4:Pos}(hc:X.calm=true)(g1:Gl X "sorted")(m1:X.mg "sorted"=none)(g2:Gl X "set")(m2:X.mg "set"=none)(h:PE X e te)
  (he:af [e] X.env=[(false,eval e X.env)]:=by rfl) :
  PE X (.Call (.Name "sorted" p1) [.Call (.Name "set" p2) [e] [] p3] [] p4) (PR X.K te):=λAB s σ H Q I q=>by
 refine(DU (Yb hc) g1 m1 (by rfl) (BO (JL (Xz hc) g2 m2 (by rfl) (BO h.clo D7 he) (he:=he)) D7)) AB s σ H Q I ?_;refine⟨_,q,λx H1 hzz=> ?_⟩;obtain⟨p,ns,e1,hq,hn,q1⟩:=hzz;subst e1;refine x2 p ns ⟨rfl,hq,oB hn rfl,λa ha=>x2 a _ ⟨rfl,AF,?_,λD ks hD pk hr=> ?_⟩⟩
 ·exact cz (vb ..) hn
 ·have nd:=W8 (λi=>ns.getD i 0) ns.length;refine q1 a _ D ks ha hD (lX hr (pk.nodup_iff.mpr nd)) (λx=> ?_) (by rw[pk.length_eq];exact vb ..);rw[pk.mem_iff,Yc];refine⟨λhzz=> ?_,λhx=> ?_⟩
  ·obtain⟨i,hi,e⟩:=hzz;rw[<-e];simp[Ix,hi]
  ·obtain⟨i,hi,e⟩:=ig hx;exact⟨i,hi,by simp[Ix,hi,e]⟩
end
end L2
namespace L2
section
variable{X:Cx}{tg:Expr}
def S0(K:η):List V->Hp->VK->Prop:=λxs H Q=>∃ (p:Addr) (AE:List (AS × V)),xs=[.ref p]/\H p=some (.dK AE)/\∀ l,H l=none->Q (.ref l) (upd H l (.dK AE))
def Yd:FX X (.type "dict") (S0 X.K):=by
 intro AB s σ H xs us Q I r h;revert h;apply u2;rintro p AE ⟨rfl,hp,q⟩;obtain⟨u,rfl,rx⟩:=KH r;cases rx;exact Pj I (.inl hp) λl s' hl I'=>x2 (.ref l) _ ⟨I',rfl,q l hl⟩
def Yg{K:η}{p:Addr}{H:Hp}{Q:VK}:S0 K [.ref p] H Q=∃ AE,H p=some (.dK AE)/\∀ l,H l=none->Q (.ref l) (upd H l (.dK AE)):=by simp[S0]
end
section
variable{K:η}{tt:TT}{cap:List Nat}{σ:St}{H:Hp}{Q:VK}
def lY{b:Addr}{xs:List V}(p:V->Bool)(hn:xs.length<=sizeLine)(hq:SqL K H b xs)(ht:∀ x∈xs,∀ QB:Bool->Hp->Prop,QB (p x) H->tt (some x::D8 cap σ) H QB)
  (hd:∀ q,H q=none->Q (.ref q) (upd H q (.lst (xs.filter p)))):HE (IN K b) (AM 0) tt (DZ 0) 1 cap σ H Q:=by
 refine⟨λi m σ' ys H'=>m=xs.length - i/\i<=xs.length/\H'=H/\(∃ x0,σ'=x0::D8 cap σ)/\ys=(xs.take i).filter p,⟨xs.length,by simp,a_ _,rfl,⟨none,rfl⟩,by simp⟩,?_⟩;rintro i m σ' ys H' ⟨rfl,hi,rfl,⟨x0,rfl⟩,rfl⟩;by_cases BH:i<xs.length
 ·refine .inr ⟨x2 xs (xs[i]) ⟨hq,by simp[BH]⟩,?_,λx H2 y=> ?_⟩
  ·have:=rf p (xs.take i);rw[dk]at this;omega
  ·obtain⟨e,y⟩:=y;subst e
   have hx:=y xs hq
   have et:xs.take (i+1)=xs.take i++[x]:=by
    obtain⟨h1,h2⟩:=ι.mp hx;rw[<-h2,wb]
   simp only[AM,zn];refine ht x (π hx) _ ?_;cases hp:p x with
   | true =>
    rw[if_pos rfl];refine⟨λv H4=>v=x/\H4=H2,λy H4 ⟨e1,e2⟩=>⟨xs.length - (i+1),by omega,rfl,BH,e2,⟨_,rfl⟩,?_⟩,?_⟩
    ·rw[et,ja,e1];simp[hp]
    ·simp[DZ]
   | false =>
    rw[if_neg ψ];refine⟨xs.length - (i+1),by omega,rfl,BH,rfl,⟨_,rfl⟩,?_⟩;rw[et,ja];simp[hp]
 ·have e:i=xs.length:=by omega
  subst e;refine .inl ⟨⟨xs,hq,ξ _⟩,λq hq'=> ?_⟩;rw[dn];exact hd q hq'
end
section
variable{K:η}{td ty tv te:TE}{D:Ends}{σ:St}{H:Hp}{Q:VK}{QB:Bool->Hp->Prop}
def Yh:NU σ H Q=(∀ p,H p=none->Q (.ref p) (upd H p (.dK []))):=rfl
def Yj:NV σ H Q=(∀ p,H p=none->Q (.ref p) (upd H p (.dT []))):=rfl
def Yk:PR K te σ H Q=(te σ H λx H1=>∃ (p:Addr) (ns:List Int),x=.ref p/\SqL K H1 p (ns.map V.int)/\ns.length<64 /\
 ∀ (a:Addr) (o:HO) (D:Addr) (ks:List Int),H1 a=none->upd H1 a o D=none->ks.Pairwise (· <·)->(∀ x,x∈ks↔x∈ns)->ks.length<=ns.length->Q (.ref D) (upd (upd H1 a o) D (.lst (ks.map V.int)))):=rfl
variable{a b:Addr}{i j:Int}{z:Str}{AE:List (AS × V)}{kvt:List (List AS × V)}{v:V}
def dI(e:H a=some (.dK AE)):DGet H a (.int i) (BT AE (.inl i)):=DGet.k (k:=.inl i) e
def dS(e:H a=some (.dK AE)):DGet H a (.str z) (BT AE (.inr z)):=DGet.k (k:=.inr z) e
def MR(e:H a=some (.dT kvt))(eb:H b=some (.tup [.int i,.int j])):DGet H a (.ref b) (BT kvt [.inl i,.inl j]):=DGet.t (k:=[.inl i,.inl j]) e eb
def PU(e:H a=some (.dK AE))(h:BT AE (.inr z)=some v):DGet H a (.str z) (some v):=h ▸ dS e
def PY(e:H a=some (.dT kvt))(eb:H b=some (.tup [.int i,.int j]))(h:BT kvt [.inl i,.inl j]=some v):DGet H a (.ref b) (some v):=h ▸ MR e eb
def pI(e:H a=some (.dK AE))(hl:AE.length<100000):DPut H a (.int i) v (upd H a (.dK (BY AE (.inl i) v))):=DPut.k (k:=.inl i) e (τ hl (by decide))
def pS(e:H a=some (.dK AE))(hl:AE.length<100000):DPut H a (.str z) v (upd H a (.dK (BY AE (.inr z) v))):=DPut.k (k:=.inr z) e (τ hl (by decide))
def Yl(e:H a=some (.dT kvt))(eb:H b=some (.tup [.int i,.int j]))(hl:kvt.length<100000):DPut H a (.ref b) v (upd H a (.dT (BY kvt [.inl i,.inl j] v))):=DPut.t (k:=[.inl i,.inl j]) e eb (τ hl (by decide))
end
end L2
namespace L2
section
variable{X:Cx}
abbrev S4(K:η):R2:=j2 K false
def lZ(hu:X.A.units+64<cLine):CI X (cw .In) (S4 X.K):=My
end
def SqT.same{K:η}{H H':Hp}{a:Addr}{xs:List V}(e:Same H H')(h:SqT K H a xs):SqT K H' a xs:=by
 rcases h with(h | ⟨o,h⟩) | h
 ·exact .inl (.inl (e _ _ h))
 ·exact .inl (.inr ⟨o,e _ _ h⟩)
 ·exact .inr h
mutual
def Rep.same{K:η}{H H':Hp}(s:Same H H'):∀ {v:V} {d:kj},Rep K H v d->Rep K H' v d
 | _,_,.non=>.non
 | _,_,.bl b=>.bl b
 | _,_,.int i=>.int i
 | _,_,.str x=>.str x
 | _,_,.lst h r=>.lst (s.seq h) (RepAll.same s r)
 | _,_,.tup h r=>.tup (SqT.same s h) (RepAll.same s r)
def RepAll.same{K:η}{H H':Hp}(s:Same H H'):∀ {vs:List V} {ds:List kj},RepAll K H vs ds->RepAll K H' vs ds
 | _,_,.nil=>.nil
 | _,_,.cons h r=>.cons (Rep.same s h) (RepAll.same s r)
end
def Dat(K:η)(H:Hp)(n:Nat)(v:V)(d:kj):Prop:=Rep K H v d/\d.canLay0=true/\d.depth<=n
section
variable{K:η}{H:Hp}{n:Nat}{Q:VK}
def Dat.int(i:Int):Dat K H n (.int i) (.int i):=⟨.int i,rfl,a_ _⟩
def Dat.non:Dat K H n .non .none:=⟨.non,rfl,a_ _⟩
def XA:∀ {xs:List V} {ds:List kj},Paired (Dat K H n) xs ds->RepAll K H xs ds/\ph ds=true/\ud ds<=n
 | _,_,.nil=>⟨.nil,rfl,a_ _⟩
 | _,_,.cons h t=>by
  obtain⟨a1,a2,a3⟩:=XA t;refine⟨.cons h.1 a1,?_,?_⟩
  ·simp[ph,h.2.1,a2]
  ·simp only[ud];exact Nat.max_le.mpr ⟨h.2.2,a3⟩
def Dat.lst{p:Addr}{xs:List V}{ds:List kj}(h:SqL K H p xs)(hs:Paired (Dat K H n) xs ds):Dat K H (n+1) (.ref p) (.list ds):=by
 obtain⟨a1,a2,a3⟩:=XA hs;exact⟨.lst h a1,by simpa [yd]using a2,by simpa [Bf]using a3⟩
def Dat.tup{p:Addr}{xs:List V}{ds:List kj}(h:SqT K H p xs)(hs:Paired (Dat K H n) xs ds):Dat K H (n+1) (.ref p) (.tuple ds):=by
 obtain⟨a1,a2,a3⟩:=XA hs;exact⟨.tup h a1,by simpa [yd]using a2,by simpa [Bf]using a3⟩
def Dat.shp{v:V}{d:kj}(h:Dat K H n v d)(hn:n<=64):shp d:=by
 unfold L2.shp PySem.SeqAt.shaped;rw[h.2.1];simpa using υ h.2.2 hn
def JS:∀ (l:List Int),Paired (Dat K H n) (l.map V.int) (l.map zo)
 | []=>.nil
 | x::r=>.cons (.int x) (JS r)
def MS{p q:Addr}{d:kj}(hn:n<=64)(h1:Dat K H n (.ref p) d)(h2:Dat K H n (.ref q) d)(hq:Q (.bl false) H):EI K (.ref p) (.ref q) H Q:=by
 unfold EI;rw[if_neg (by simp[FO])];refine y2 ⟨h1.1,h2.1,h1.shp hn,h1.shp hn,?_⟩;rw[lC (h1.shp hn)];exact hq
def Ym{p q:Addr}{xs:List V}{ds:List kj}(hn:n<=63)(h1:SqL K H p xs)(hd:Paired (Dat K H n) xs ds)(h2:SqL K H q [])(hq:Q (.bl (decide (xs=[]))) H):EE K (.ref p) (.ref q) H Q:=by
 unfold EE;rw[if_neg (by simp[FO])]
 have e1:=Dat.lst h1 hd
 have e2:Dat K H 1 (.ref q) (.list []):=Dat.lst h2 .nil;refine y2 ⟨e1.1,e2.1,e1.shp (by omega),e2.shp (by omega),?_⟩;cases hd with
 | nil=>exact hq
 | cons _ _=>exact hq
end
end L2
namespace L2
end L2
namespace L2
section
variable{prog:au}{w:World}{A:bg}{E:Value->ε->Prop}{s:ε}{d it:Addr}{od:Obj}{es:Array DictEntry}{ep i:Nat}
end
end L2
namespace L2
def l9:∀ {ys:List Str} {us:List Value},Vals (ys.map V.str) us->StrsAre us ys
 | [],_,.nil=>.nil
 | y::r,_,.cons h t=>by
  obtain⟨tk,rfl⟩:=h;exact .cons _ _ (l9 t)
section
variable{X:Cx}
def mB(K:η):V->List V->Hp->VK->Prop:=λx vs H Q=>∃ (z:Str) (p:Addr) (ys:List Str),x=.str z/\vs=[.ref p]/\SqL K H p (ys.map V.str)/\z.length<=16/\(ys.map (·.length)).sum+ys.length<=1048576/\Q (.str (Txt.join z ys)) H
def Yp:R9 X "str.join" (mB X.K):=by
 intro AB s σ H x vs v us Q I rx rv h;revert h;apply u3;rintro z p ys ⟨rfl,rfl,hp,hz,hw,q⟩;obtain⟨t,rfl⟩:=rx;obtain⟨u,rfl,ru⟩:=rv.one;cases ru;obtain⟨its,r,pl,hz'⟩:=I.list hp;exact join_listW pl.isList (l9 r) hz hw λt' k=>x2 (.str _) H ⟨I.tok k,⟨t',rfl⟩,q⟩
end
section
variable{K:η}{tt:TT}{te:TE}{cap:List Nat}{σ:St}{H:Hp}{Q:VK}
end
end L2
namespace L2
section
variable{X:Cx}{tg:Expr}
end
section
variable{K:η}{tt:TT}{cap:List Nat}{σ:St}{H:Hp}{Q:VK}
end
section
variable{P:au}{w:World}{A:bg}{E:Value->ε->Prop}{s:ε}
end
section
variable{X:Cx}
end
end L2
namespace L2
section
variable{P:au}{w:World}{A:bg}{E:Value->ε->Prop}{s:ε}
def Yq{e it l:Addr}{i:Nat}{items:Array Value}{x old:Value}{Q:Option Value->ε->Prop}(he:IsEnum s.heap e it i old)(hi:s.heap.IsListIter it l i)(hl:s.heap.IsList l items)(ex:items[i]? =some x)(ne:e≠it)
  (q:∀ h',IsEnumOut h' e it (i+1) x s.heap.objs.size->h'.IsListIter it l (i+1)->h'.get? s.heap.objs.size=some { cls:=jp "tuple",data:=Hi #[gg i s.toks,x] }->(∀ b o,b≠e->b≠it->s.heap.get? b=some o->h'.get? b=some o) →
   Q (some (.ref s.heap.objs.size)) { s with heap:=h',toks:=s.toks+1 }):wpAny (model P w) A (mj (.ref e)) Q E s:=by
 have ty:s.TypeIs (.ref e) "enumerate":=⟨_,he,rfl⟩
 unfold mj;exact δ (ju (df (name:=bd "__next__") ty k_ (dm k_ ty xj
  (enumerate_next_item he hi hl ex ne λh' a1 a2 a3 _ a4=>μ (q h' a1 a2 a3 a4)) (wu _))))
def Yv{e it l:Addr}{i:Nat}{items:Array Value}{old:Value}{Q:Fin->ε->Prop}(hh:A.handled=none)(he:IsEnum s.heap e it i old)(hi:s.heap.IsListIter it l i)(hl:s.heap.IsList l items)(ex:items[i]? =none)
  (q:∀ h' x,lq it s.heap h'->(∃ o,h'.get? x=some o/\o.cls=.type "StopIteration")->E (.ref x) { s with heap:=h' }):wpAny (model P w) A (jw.«enumerate.__next__» ⟨[.ref e],[]⟩) Q E s:=by
 show wpAny (model P w) A (field (.ref e) 2 >>= _) _ _ s;refine δ (gy he rfl (x:=.ref it) rfl ?_);exact δ (Vy (k:=true) hh hi hl ex q)
def Yw{e it l:Addr}{i:Nat}{items:Array Value}{old:Value}{Q:Option Value->ε->Prop}(hh:A.handled=none)(he:IsEnum s.heap e it i old)(hi:s.heap.IsListIter it l i)(hl:s.heap.IsList l items)(ex:items[i]? =none)
  (q:∀ h',lq it s.heap h'->Q none { s with heap:=h' }):wpAny (model P w) A (mj (.ref e)) Q E s:=by
 have ty:s.TypeIs (.ref e) "enumerate":=⟨_,he,rfl⟩
 unfold mj;refine δ (ju (df (name:=bd "__next__") ty k_ (dm k_ ty xj (Yv hh he hi hl ex λh' x kk ⟨o,e1,e2⟩=> ?_) (wu _))));exact δ (si (T:="StopIteration") (b:=true) ⟨o,e1,e2⟩ yh (μ (q _ kk)))
end
def PZ(K:η)(a:Addr):It :=
  ⟨λi H=>∃ xs x,SqL K H a xs/\xs[i]? =some x,
   λi H v H'=>∃ t,H t=none/\v=.ref t/\∃ x,H'=upd H t (.tup [.int (i:Int),x])/\∀ xs,SqL K H a xs->xs[i]? =some x,
   λi H=>∃ xs,SqL K H a xs/\xs.length<=i⟩
def EnSt(e it l:Addr)(i:Nat)(h:Heap):Prop:=(∃ old,IsEnum h e it i old)/\h.IsListIter it l i
def EnSt.lt{e it l:Addr}{i:Nat}{h:Heap}(q:EnSt e it l i h):∀ b∈[e,it],b<h.objs.size:=by
 obtain⟨⟨old,h1⟩,o,h2,_⟩:=q;intro b hb;simp only[ak,bz,or_false]at hb;rcases hb with rfl | rfl
 ·exact ω h1
 ·exact ω h2
def Yx{P:au}{w:World}{K:η}{elts:List Expr}{kn:Nat}{pos:Pos}{e it l:Addr}(ne:e≠it) :
  MH P w K (.Tuple elts kn pos) (PZ K l) [e,it] e (λi h=>EnSt e it l i h) where
 mem:=by simp
 obj:=λi h st b hb=>by
  obtain⟨⟨old,h1⟩,h2⟩:=st;obtain⟨o4,e4,d4⟩:=ItK.ob (k:=true) h2;simp only[ak,bz,or_false]at hb;rcases hb with rfl | rfl
  ·exact⟨_,h1,λv q=>by cases q⟩
  ·exact⟨_,e4,λv q=>by rw[d4]at q;cases q⟩
 keep:=λi h h' ⟨⟨old,h1⟩,h2⟩ q=>⟨⟨old,q e (by simp) _ h1⟩,ItK.up (k:=true) h2 λo x=>q it (by simp) o x⟩
 item:=by
  intro X hP hw hK hc i AB s σ H E I hf st hg;subst hP hw hK;revert hg;apply u2;rintro xs x ⟨hx,ex⟩;obtain⟨its,rv,d1⟩:=I.seqK (k:=true) hx;obtain⟨u,hu,ru⟩:=rv.get ex
  have lt:=EnSt.lt st;obtain⟨⟨old,h1⟩,h2⟩:=st;refine Yq h1 h2 d1 (x:=u) (by simpa using hu) ne λh' g1 g2 g3 kk=>⟨_,rfl,?_⟩
  refine wpAny_letOwnedTupleGo_enum g1 λh2' z2 sb=> ?_
  have I1:=I.tnew (ys:=[.int (i:Int),x]) (its:=[gg (i:Int) s.toks,u]) (.cons (show RelV (.int (i:Int)) (gg (i:Int) s.toks)from⟨s.toks,rfl⟩) (.cons ru .nil)) (by show 2<=sizeLine;decide)
  have f':∀ b∈[e,it],b≠s.heap.objs.size:=λb hb=>aw (lt b hb)
  have nz:s.heap.objs.size≠e:=(f' e (by simp)).symm
  have I2:Inv X AB σ (upd H s.heap.objs.size (.tup [.int (i:Int),x])) { s with heap:=h2',toks:=s.toks+1 }:=by
   refine Inv.turnedS (s:={ s with heap:=s.heap.push { cls:=jp "tuple",data:=Hi #[gg i s.toks,u] } }) (t':=s.toks+1) (fp:=[e,it]) I1 (λb o hb eo=> ?_) λb hb=>(hf b hb).upd (f' b hb);simp only[ak,bz,or_false,not_or]at hb;rcases Heap.get?_push_cases eo with⟨e1,e2⟩ | e1
   ·subst e1 e2;exact sb.extBut _ _ nz g3
   ·exact sb.extBut _ _ hb.1 (kk _ _ hb.1 hb.2 e1)
  exact⟨.ref s.heap.objs.size,_,I2,rfl,⟨s.heap.objs.size,I.fresh,rfl,x,rfl,λys' q=>by rw[I.seqK_inj (k:=true) q hx];exact ex⟩,
   ⟨⟨_,z2⟩,ItK.up (k:=true) g2 λo x=>sb.extBut _ _ ne.symm x⟩,λb hb=>((hf b hb).upd (f' b hb)).1⟩
 done:=by
  intro X hP hw hK hc i AB s σ H E I hf st hg;subst hP hw hK;obtain⟨xs,hx,en⟩:=hg;obtain⟨its,rv,d1⟩:=I.seqK (k:=true) hx;obtain⟨⟨old,h1⟩,h2⟩:=st
  have e1:=rv.length;refine Yw (I.ok.hd hc) h1 h2 d1 (by simp;exact e1 ▸ en) λh' kk=>⟨rfl,I.turnedS (t':=s.toks) (fp:=[e,it]) (λb o hb eo=> ?_) hf⟩
  simp only[ak,bz,or_false,not_or]at hb;exact kk _ _ hb.2 eo
 self:=λ_ _ _ _ _ st h=>by
  obtain⟨⟨old,h1⟩,_⟩:=st;exact Ci h1 h
section
variable{X:Cx}
def S5(K:η)(ta:TA):TI:=λσ H R=>ta σ H λvs H1=>∃ a:Addr,vs=[.ref a]/\(∃ xs,SqL K H1 a xs)/\R (PZ K a) H1
def mC{a:Expr}{ta:TA}{p pos p2:Pos}{elts:List Expr}{kn:Nat}(hg:Gl X "enumerate")(hm:X.mg "enumerate"=none)(ha:PA X [a] ta)(hs:af [a] X.env=[(false,eval a X.env)]:=by rfl) :
  PI X (.Tuple elts kn p2) (.Call (.Name "enumerate" p) [a] [] pos) (S5 X.K ta):=by
 intro AB s σ H R I h;refine Call_ (NK I hg hm boot_enumerate (im (A1 (ha pos AB s σ H _ I h) λus s1 hzz=> ?_) (by rw[hs];rfl) (by rfl)));obtain⟨vs,H1,I1,r1,q1⟩:=hzz;obtain⟨l,e,⟨xs,hx⟩,q⟩:=q1;subst e;obtain⟨u,rfl,rx⟩:=KH r1;cases rx;obtain⟨its,rv,d1⟩:=I1.seqK (k:=true) hx;refine call_enumerate_list d1 λh' z1 z2 sz kk=>Ci z1 ?_
 have I2:Inv X AB σ H1 { s1 with heap:=h' }:=I1.kept (t':=s1.toks) kk;refine x5 _ [s1.heap.objs.size+1,s1.heap.objs.size] _ _ H1 ⟨rfl,I2,Yx (il (ff _)),⟨⟨_,z1⟩,z2⟩,λb hb=>I1.fpOk ?_ (I1.hok.fresh ?_),q⟩
 all_goals
  simp only[ak,bz,or_false]at hb;rcases hb with rfl | rfl<;>omega
end
def mD{K:η}{σ:St}{H:Hp}{a:Addr}{xs:List V}{g:TG}{tb:TS}{D:Ends}(Pv:Nat->St->Hp->Prop)(h0:Pv 0 σ H)(ha:∀ i σ H,i<=xs.length->Pv i σ H->SqL K H a xs)
  (hs:∀ i x σ H t,xs[i]? =some x->Pv i σ H->H t=none->g (.ref t) σ (upd H t (.tup [.int (i:Int),x])) λσ2 H2=>tb { D with nx:=Pv (i+1),ct:=Pv (i+1),bk:=D.nx } σ2 H2) (hd:∀ σ H,Pv xs.length σ H->D.nx σ H):KP (PZ K a) g tb D σ H:=by
 refine⟨λi m σ H=>i+m=xs.length/\Pv i σ H,⟨xs.length,by omega,h0⟩,λi m σ H ⟨e,p⟩=> ?_⟩
 have h1:=ha i σ H (by omega) p;by_cases hi:i<xs.length
 ·refine .inr ⟨x2 xs (xs[i]) ⟨h1,ζ hi⟩,Pv (i+1),λσ' H' q=>⟨m - 1,by omega,by omega,q⟩,λv H' ⟨t,ht,e,x,e',q1⟩=> ?_⟩;subst e e';exact hs i x σ H t (q1 _ h1) p ht
 ·have e:i=xs.length:=by omega
  subst e;exact .inl ⟨⟨xs,h1,ξ _⟩,hd _ _ p⟩
def S6(K:η):R2:=λx y H Q=>S4 K x y H Q\/∃ t ts p xs,x=.ref t/\SqT K H t ts/\y=.ref p/\SqT K H p xs/\(∀ z∈xs,z=.non\/∃ i,z=.int i)/\Q (.bl false) H
def mE:∀ {xs:List V} {us:List Value} {u:Value},Vals xs us->u∈us->∃ x∈xs,RelV x u
 | _,_,_,.nil,h=>by cases h
 | _,_,_,.cons r t,h=>by
  rcases ak.mp h with rfl | h
  ·exact⟨_,aq ..,r⟩
  ·obtain⟨x,hx,e⟩:=mE t h;exact⟨x,χ _ hx,e⟩
def Yy{X:Cx}(hu:X.A.units+64<cLine):CI X (cw .In) (S6 X.K):=by
 intro AB s σ H x y v u Q I rx ry h;rcases h with h | ⟨t,ts,p,xs,rfl,ht,rfl,hp,hx,q⟩
 ·exact lZ hu AB s σ H x y v u Q I rx ry h
 ·cases rx;cases ry;obtain⟨its,r,pl,hz⟩:=I.tuple hp;obtain⟨tts,tr,tl,_⟩:=I.tuple ht
  have hin:X.A.in1.units<cLine:=by
   have:X.A.in1.units=X.A.units+1:=rfl;omega
  refine Dr (λ_=>false) pl (λz hz'=> ?_) (x2 (.bl _) H ⟨I,rfl,?_⟩)
  ·obtain⟨z0,h0,r0⟩:=mE r (by simpa using hz');rcases hx z0 h0 with rfl | ⟨i,rfl⟩
   ·cases r0;exact SeqAt.EqAt.none_tuple tl hin
   ·obtain⟨tk,rfl⟩:=r0;exact SeqAt.EqAt.int_tuple _ _ tl hin
  ·have:its.toArray.any (λ_=>false)=false:=by
    rw[Array.any_eq_false];simp
   rw[this];exact q
end L2
namespace L2
section
variable{X:Cx}
def mF:V->List V->Hp->VK->Prop:=λx vs H Q=>∃ z y:Str,x=.str z/\vs=[.str y]/\Q (.int (Txt.find z y)) H
def Yz:R9 X "str.find" mF:=by
 intro AB s σ H x vs v us Q I rx rv h;revert h;apply u2;rintro z y ⟨rfl,rfl,q⟩;obtain⟨t,rfl⟩:=rx;obtain⟨u,rfl,ru⟩:=rv.one;obtain⟨t2,rfl⟩:=ru;exact PySem.SC.find (x2 (.int _) H ⟨I.tok _,⟨_,rfl⟩,q⟩)
end
end L2
namespace L2
section
variable{P:au}{w:World}{A:bg}{E:Value->ε->Prop}{s:ε}
end
section
variable{X:Cx}
end
end L2
namespace L2
section
variable{X:Cx}{AB:List (Addr × Obj)}{σ:St}{H:Hp}{s:ε}
variable{tg iter ED:Expr}{GR:List Expr}{scope:Scope}{pos:Pos}{td:TE}{g:TG}{tt:TT}{te:TE}{tn cn:List Str}{cap:List Nat}
end
end L2
namespace L2
def FnScope.go{N P:List Str}{sc:Scope}(h1:sc.kind=.function:=by exact rfl)(h2:sc.isCoroutine=false:=by exact rfl)(h3:sc.isGenerator=false:=by exact rfl)(h4:N.Nodup:=by decide +kernel)(h5:N.take P.length=P:=by exact rfl)(h6:∀ x∈P,sc.names.lookup x=some .local\/sc.names.lookup x=some .cell:=by decide +kernel)(h7:∀ y∈sc.names,y.2≠.free:=by decide +kernel):FnScope N P sc:=⟨h1,h2,h3,h4,h5,h6,h7⟩
def Room.m{j k:Nat}{A:bg}(r:Room k A)(h:j<=k:=by decide):Room j A:=r.mono h
abbrev FP(P:au)(w:World)(K:η)(mg:Str->Option Value)(base:Heap)(k:Nat)(f:Addr)(fd:dr)(ps:List Str)(sp:Sp):Prop:=FnOk P w K mg base (E9 P w) k f fd ps sp
def Fun.okF{P:au}{w:World}{K:η}{mg:Str->Option Value}{base:Heap}{x qual:Str}{st:Stmt}{f:Addr}{fd:dr}{N ps:List Str}{k:Nat}{sp:Sp}(F:Fun K x qual st f fd)(rd:(St->XK)->TS)(S:FnScope N ps (A7 st))(len:∀ {vs H Q E},sp vs H Q E->vs.length=ps.length)
  (ok:∀ {vs H Q E},sp vs H Q E->rd (λ_=>E) { nx:=λ_ H'=>Q .non H',rt:=Q } (start N vs) H)
  (hb:∀ (CH:Value) (A:bg) (outer:List Env) (s:ε) (H:Hp) (E:XK),Room k (A.deeper (t_ qual (A7 st) s.heap.objs.size f CH))->XOk (IP (E9 P w) P w K mg base N qual (A7 st) f CH A outer s H E) (λ_=>E) ->
   G7 (IP (E9 P w) P w K mg base N qual (A7 st) f CH A outer s H E) (HU st) (rd λ_=>E)):FP P w K mg base (k+1) f fd ps sp :=
 F.okE S (λ_ _ _ _=>len) λCH A outer s H _ _ E hr h=>⟨_,hb CH A outer s H E hr Py,ok h⟩
section
variable{X:Cx}{pos:Pos}
def A5(i:Nat){x:Str}{e:Expr}{te:TE}{pos':Pos}(hN:X.N.Nodup)(he:PE X e te)(hi:X.N[i]? =some x:=by exact rfl)(hx:NI X.env.scope x:=by exact Je rfl)(hs:wg e (some (.Name x pos')) pos.line X.env=pure false:=by rfl)(hf:X.fn x=true\/X.env.scope.names.lookup x=some .local:=by first | exact .inl rfl | exact .inr rfl | assumption) :
  PS X (.Assign [.Name x pos'] e pos) (AX te (AM i)):=O0 hN hi hx he hs hf
def CT(i:Nat){x:Str}(hN:X.N.Nodup)(hi:X.N[i]? =some x:=by exact rfl)(hx:NI X.env.scope x:=by exact Je rfl)(hf:X.fn x=true\/X.env.scope.names.lookup x=some .local:=by first | exact .inl rfl | exact .inr rfl | assumption):PG X (.Name x pos) (AM i):=Hk hN hi hx hf
end
end L2
namespace L2
section
variable{X:Cx}{pos:Pos}
def FZ{a:Expr}{ta:TE}{i:Int}{j pos'}(ha:PE X a ta):PE X (.Subscript a (.Constant (.int i) j pos') pos) (AG (CB X.K) ta (tC (.int i))):=BP BQ ha AR (λ_ _=>rfl)
def FnScope.cp{scope outer:Scope}{N P tn cn:List Str}{cap:List Nat}(_:FnScope N P outer)(h:WU scope outer N cn cap=true:=by decide +kernel)(h1:X.env.scope=outer:=by exact rfl)(h2:X.N=N:=by exact rfl):NW X scope tn cn cap:=Rm h1 h2 h
end
section
variable{X:Cx}{E:St->XK}{k j:Nat}{x m:Str}{ps:List Str}{sp:Sp}{C:Addr}{p pos DJ:Pos}{e o e1 e2 e3:Expr}{es:List Expr}{ta tb tc td:TE}{t:TA}
def AI(h:PE X e ta)(s:af [e] X.env=(false,eval e X.env)::af [] X.env:=by rfl):PA X [e] (BG ta BV):=BO h D7 s
def BU(h:PE X e ta)(h1:PE X e1 tb)(s:af [e,e1] X.env=(false,eval e X.env)::af [e1] X.env:=by rfl)(s1:af [e1] X.env=(false,eval e1 X.env)::af [] X.env:=by rfl):PA X [e,e1] (BG ta (BG tb BV)):=BO h (AI h1 s1) s
def DV(h:PE X e ta)(h1:PE X e1 tb)(h2:PE X e2 tc)(s:af [e,e1,e2] X.env=(false,eval e X.env)::af [e1,e2] X.env:=by rfl)(s1:af [e1,e2] X.env=(false,eval e1 X.env)::af [e2] X.env:=by rfl)(s2:af [e2] X.env=(false,eval e2 X.env)::af [] X.env:=by rfl):PA X [e,e1,e2] (BG ta (BG tb (BG tc BV))):=BO h (BU h1 h2 s1 s2) s
def DL(h:PE X e ta)(h1:PE X e1 tb)(h2:PE X e2 tc)(h3:PE X e3 td)(s:af [e,e1,e2,e3] X.env=(false,eval e X.env)::af [e1,e2,e3] X.env:=by rfl)(s1:af [e1,e2,e3] X.env=(false,eval e1 X.env)::af [e2,e3] X.env:=by rfl)(s2:af [e2,e3] X.env=(false,eval e2 X.env)::af [e3] X.env:=by rfl)(s3:af [e3] X.env=(false,eval e3 X.env)::af [] X.env:=by rfl):PA X [e,e1,e2,e3] (BG ta (BG tb (BG tc (BG td BV)))):=BO h (DV h1 h2 h3 s1 s2 s3) s
def CL(c:SO X.prog X.w X.K X.mg X.base k x ps sp)(hr:Room j X.A)(hx:XOk X E)(ha:PA X (e::es) t)(hj:k<=j:=by decide)(hg:Gl X x:=by exact rfl)(hdb:(x ==("__debug__":Str))=false:=by decide)
  (he:af (e::es) X.env=(false,eval e X.env)::af es X.env:=by rfl) (CK:(gi pos (af es X.env)).any (·.1)=false:=by rfl):PE X (.Call (.Name x p) (e::es) [] pos) (NR sp [] E t):=O9 c (hr.mono hj) hx.passes hg ha hdb he CK
def BB{pl:Sem Bool}(he:PE X o ta)(cl:Cls X.K C)(c:NX X.prog X.w X.K X.mg X.base C k m ps sp)(hr:Room j X.A)(hx:XOk X E)(ha:PA X (e::es) t)(hj:k<=j:=by decide)
  (hst:af (e::es) X.env=(false,eval e X.env)::af es X.env:=by rfl) (CK:(gi pos (af es X.env)).any (·.1)=false:=by rfl)
  (ht:eval (.Call (.Attribute o m DJ) (e::es) [] pos) X.env=(do
   let ov ← eval o X.env
   wx DJ.atName
   let (f,first) ← oy [ov] (rk ov m pl)
   xy pos f first (gi pos (af (e::es) X.env)) (sy pos (ke [] X.env))):=by rfl):PE X (.Call (.Attribute o m DJ) (e::es) [] pos) (KI C m sp [] E ta t):=GJ he cl c (hr.mono hj) hx.passes ha hst CK ht
def ER{pl:Sem Bool}(he:PE X o ta)(cl:Cls X.K C)(c:NX X.prog X.w X.K X.mg X.base C k m ps sp)(hr:Room j X.A)(hx:XOk X E)(hj:k<=j:=by decide)
  (ht:eval (.Call (.Attribute o m DJ) [] [] pos) X.env=(do
   let ov ← eval o X.env
   wx DJ.atName
   let (f,first) ← oy [ov] (rk ov m pl)
   xy pos f first (gi pos (af [] X.env)) (sy pos (ke [] X.env))):=by rfl):PE X (.Call (.Attribute o m DJ) [] [] pos) (KI C m sp [] E ta BV):=Pz he cl c (hr.mono hj) hx.passes ht
end
def Fun.oK(P:au)(w:World){K:η}(mg:Str->Option Value)(base:Heap){x qual:Str}{st:Stmt}{f:Addr}{fd:dr}{N ps:List Str}(k:Nat){sp:Sp}(F:Fun K x qual st f fd)(rd:(St->XK)->TS)(S:FnScope N ps (A7 st))
  (ok:∀ {vs H Q E},sp vs H Q E->rd (λ_=>E) { nx:=λ_ H'=>Q .non H',rt:=Q } (start N vs) H)
  (hb:∀ (CH:Value) (A:bg) (outer:List Env) (s:ε) (H:Hp) (E:XK),Room k (A.deeper (t_ qual (A7 st) s.heap.objs.size f CH))->XOk (IP (E9 P w) P w K mg base N qual (A7 st) f CH A outer s H E) (λ_=>E) ->
   G7 (IP (E9 P w) P w K mg base N qual (A7 st) f CH A outer s H E) (HU st) (rd λ_=>E))
  (len:∀ {vs H Q E},sp vs H Q E->vs.length=ps.length:=by
   intro _ _ _ _ h
   repeat (first | (obtain⟨rfl,_⟩:=h;rfl) | (refine Or.elim h ?_ ?_<;>(clear h;intro h)) | obtain⟨_,h⟩:=h)):FP P w K mg base (k+1) f fd ps sp:=F.okF rd S len ok hb
abbrev BJ(N:List Str)(k:Nat)(sc:Scope):Prop:=FnScope N (N.take k) sc
abbrev EJ(P:au)(w:World)(K:η)(mg:Str->Option Value)(base:Heap)(k:Nat)(x:Str){N ps:List Str}{sc:Scope}(_:FnScope N ps sc)(sp:Sp):Prop:=SO P w K mg base k x ps sp
abbrev CM(P:au)(w:World)(K:η)(mg:Str->Option Value)(base:Heap)(C:Addr)(k:Nat)(x:Str){N ps:List Str}{sc:Scope}(_:FnScope N ps sc)(sp:Sp):Prop:=NX P w K mg base C k x ps sp
abbrev P0(P:au)(w:World)(K:η)(mg:Str->Option Value)(base:Heap)(C:Addr)(k:Nat)(x:Str){N ps:List Str}{sc:Scope}(_:FnScope N ps sc)(sp:Sp):Prop:=WJ P w K mg base C k x ps sp
def Zb{α :Type}{P:List α ->Prop}(h:P []):∀ us:List α,us.length=0->P us
 | [],_=>h
def XB{α :Type}{P:List α ->Prop}(h:∀ a,P [a]):∀ us:List α,us.length=1->P us
 | [a],_=>h a
def XC{α :Type}{P:List α ->Prop}(h:∀ a b,P [a,b]):∀ us:List α,us.length=2->P us
 | [a,b],_=>h a b
def XD{α :Type}{P:List α ->Prop}(h:∀ a b c,P [a,b,c]):∀ us:List α,us.length=3->P us
 | [a,b,c],_=>h a b c
def XF{α :Type}{P:List α ->Prop}(h:∀ a b c d,P [a,b,c,d]):∀ us:List α,us.length=4->P us
 | [a,b,c,d],_=>h a b c d
def XG{α :Type}{P:List α ->Prop}(h:∀ a b c d e,P [a,b,c,d,e]):∀ us:List α,us.length=5->P us
 | [a,b,c,d,e],_=>h a b c d e
def XH{α :Type}{P:List α ->Prop}(h:∀ a b c d e f,P [a,b,c,d,e,f]):∀ us:List α,us.length=6->P us
 | [a,b,c,d,e,f],_=>h a b c d e f
def XI{α :Type}{P:List α ->Prop}(h:∀ a b c d e f g,P [a,b,c,d,e,f,g]):∀ us:List α,us.length=7->P us
 | [a,b,c,d,e,f,g],_=>h a b c d e f g
def XJ(x qual:Str)(st:Stmt)(ps:List Str):Prop:=∀ (kV doc pm:Value) (an:Option Addr) (CH ct:Value) (us:List Value),us.length=ps.length->bindArgs (vt x qual (KN st) (HU st) (A7 st) .none kV doc pm an CH ct) ⟨us,[]⟩=pure (ps.zip us)
structure GF(K:η)(x:Str)(st:Stmt):Prop where
 ex:∃ (f:Addr) (fd:dr),jv K az x=some (some (.ref f))/\Fun K x x st f fd
structure GM(K:η)(C:Addr)(m q:Str)(st:Stmt):Prop where
 ex:∃ (f:Addr) (fd:dr),b_ K (.ref C) m=some (some (.ref f))/\Gs K (.ref f)=true/\Fun K m q st f fd
structure GC(K:η)(C:Addr)(x:Str):Prop where
 ac:jv K az x=some (some (.ref C))
 c:Cls K C
structure GN(K:η)(C:Addr)(x q:Str)(st:Stmt):Prop where
 m:GM K C "__init__" q st
 mks:De K C=true
 kc:mq K (.ref C)=true
 ac:jv K az x=some (some (.ref C))
structure GX(K:η)(C:Addr)(x:Str):Prop where
 ac:jv K az x=some (some (.ref C))
 ex:W.excIn K C [.type "ValueError",.type "Exception",.type "BaseException",.type "object"] "ValueError.__new__"=true
section
variable{K:η}{x q:Str}{st:Stmt}{C f:Addr}{oc:Value}{od an:Option Addr}{osl:Array (Option Value)}{kV doc pm CH ct:Value}
def gf(a:jv K az x=some (some (.ref f)))(l:K.lookup f=some ⟨oc,od,.func (vt x x (KN st) (HU st) (A7 st) .none kV doc pm an CH ct),osl⟩)
  (c:xz K CH x=true) (k:mq K (.ref f)=true):GF K x st:=⟨_,_,a,kF l c k⟩
def gm(a:b_ K (.ref C) x=some (some (.ref f)))(l:K.lookup f=some ⟨oc,od,.func (vt x q (KN st) (HU st) (A7 st) .none kV doc pm an CH ct),osl⟩)
  (c:xz K CH q=true) (k:mq K (.ref f)=true) (i:Gs K (.ref f)=true):GM K C x q st:=⟨_,_,a,i,kF l c k⟩
def gn{y:Str}(a:b_ K (.ref C) "__init__"=some (some (.ref f)))(l:K.lookup f=some ⟨oc,od,.func (vt "__init__" q (KN st) (HU st) (A7 st) .none kV doc pm an CH ct),osl⟩)
  (c:xz K CH q=true) (k:mq K (.ref f)=true) (i:Gs K (.ref f)=true) (m:De K C=true) (n:mq K (.ref C)=true) (s:jv K az y=some (some (.ref C))):GN K C y q st:=⟨gm a l c k i,m,n,s⟩
def gc(a:jv K az x=some (some (.ref C)))(l:wy K C Io=true)(c:xu K C=true)(k:Fa K C=true)(i:b_ K (.ref C) "__setattr__"=some (some (.builtin "object.__setattr__"))):GC K C x:=⟨a,l,c,k,i⟩
end
section
variable{P:au}{w:World}{K:η}{h:Heap}{mg:Str->Option Value}{base:Heap}{x q:Str}{st:Stmt}{C:Addr}{k:Nat}{ps:List Str}{sp:Sp}
def GF.cal(g:GF K x st)(X:K.In h)(G:h.Ns az mg)(ok:∀ {f fd},Fun K x x st f fd->FP P w K mg base k f fd ps sp)
  (b:XJ x x st ps:=by intro _ _ _ _ _ _;first | exact XB λ_=>rfl | exact XC λ_ _=>rfl | exact XD λ_ _ _=>rfl | exact XF λ_ _ _ _=>rfl | exact XG λ_ _ _ _ _=>rfl | exact Zb rfl | exact XH λ_ _ _ _ _ _=>rfl | exact XI λ_ _ _ _ _ _ _=>rfl):SO P w K mg base k x ps sp:=by
 refine u2 ?_ g.ex;rintro f fd ⟨a,F⟩;exact⟨f,fd,ok F,jo X G a,F.kp,F.binds b⟩
def GM.cal(g:GM K C x q st)(ok:∀ {f fd},Fun K x q st f fd->FP P w K mg base k f fd ps sp)
  (b:XJ x q st ps:=by intro _ _ _ _ _ _;first | exact XB λ_=>rfl | exact XC λ_ _=>rfl | exact XD λ_ _ _=>rfl | exact XF λ_ _ _ _=>rfl | exact XG λ_ _ _ _ _=>rfl | exact XH λ_ _ _ _ _ _=>rfl | exact XI λ_ _ _ _ _ _ _=>rfl):NX P w K mg base C k x ps sp:=by
 refine u2 ?_ g.ex;rintro f fd ⟨a,i,F⟩;exact⟨f,fd,ok F,⟨a,i,F.kp⟩,F.binds b⟩
def GN.cal(g:GN K C x q st)(X:K.In h)(G:h.Ns az mg)(ok:∀ {f fd},Fun K "__init__" q st f fd->FP P w K mg base k f fd ps sp)
  (b:XJ "__init__" q st ps:=by intro _ _ _ _ _ _;first | exact XB λ_=>rfl | exact XC λ_ _=>rfl | exact XD λ_ _ _=>rfl | exact XF λ_ _ _ _=>rfl | exact XG λ_ _ _ _ _=>rfl | exact XH λ_ _ _ _ _ _=>rfl | exact XI λ_ _ _ _ _ _ _=>rfl):WJ P w K mg base C k x ps sp:=by
 refine u2 ?_ g.m.ex;rintro f fd ⟨a,i,F⟩;exact⟨f,fd,ok F,⟨g.mks,a,i,g.kc⟩,jo X G g.ac,F.binds b⟩
def GF.law{fa:Addr}(g:GF K x st)(X:K.In h)(G:h.Ns az mg)(hfa:mg x=some (.ref fa))
  (b:∀ (kV doc pm:Value) (an:Option Addr) (CH ct:Value) (s:ε) (v:Value),vi s (vt x x (KN st) (HU st) (A7 st) .none kV doc pm an CH ct) ⟨[v],[]⟩ [("script",v)]) :
  ∃ fd:dr,(∀ (s:ε) (v:Value),vi s fd ⟨[v],[]⟩ [("script",v)])/\Fun K x x st fa fd:=by
 refine u2 ?_ g.ex;rintro f fd ⟨a,F⟩
 have e:=hfa.symm.trans (jo X G a);cases e;refine u9 ?_ F.ex;rintro oc od kV doc pm an CH ct osl ⟨rfl,lk,KC⟩;exact⟨_,b kV doc pm an CH ct,F⟩
end
end L2
namespace L2
section
variable{X:Cx}{o i value:Expr}{td ty tv:TE}{tpos pos:Pos}
end
section
variable{X:Cx}{tg:Expr}
end
section
variable{K:η}{g:TG}{tt:TT}{te:TE}{k:Nat}{cap:List Nat}{σ:St}{H:Hp}{Q:VK}
end
end L2
namespace L2
section
variable{prog:au}{w:World}{K:Type}[DecidableEq K]{knd:HeapKind prog w K}{A:bg}{E:Value->ε->Prop}{s:ε}
end
end L2
namespace L2
end L2
namespace L2
def Zc{i j:Nat}{ta:TA}{D:Ends}{σ:St}{H:Hp}:VY i j ta D σ H=(ta σ H λvs H1=>∃ v w,vs=[v,w]/\D.nx ((σ.set i (some v)).set j (some w)) H1):=rfl
def Fly.kept{bad:Addr->Prop}{H:Hp}{h h':Heap}{e:Addr}{cls:Value}(F:Fly bad H h e cls)(k:∀ b o,h.get? b=some o->h'.get? b=some o):Fly bad H h' e cls:=by
 obtain⟨nb,fr,oe,vs,h1,h2,h3,h4,h5⟩:=F;refine⟨nb,fr,x2 oe vs ⟨k _ _ h1,h2,h3,h4,?_⟩⟩;rcases h5 with z | ⟨T,oT,ts,a,b,c,d,f,g⟩
 ·exact .inl z
 ·exact .inr (x3 T oT ts ⟨a,b,c,d,k _ _ f,g⟩)
def mG{X:Cx}{x y:Str}{p1 p2 pos:Pos}{kk:Nat}{C D:Value}(hg:Gl X x)(hm:X.mg x=some C)(hg':Gl X y)(hm':X.mg y=some D)(hd:(x ==("__debug__":Str))=false:=by decide)(hd':(y ==("__debug__":Str))=false:=by decide):PX X (.Tuple [.Name x p1,.Name y p2] kk pos) (λcls=>ij X.K cls [C,D]):=by
 intro AB s σ H e cls b Q E I F hp h
 have I2:Inv (X.hand e) AB σ H s:=I.hand;refine wpAny_Tuple ?_;refine Ef (NJ (X:=X.hand e) I2 hg hm ?_ hd);refine Ef (NJ (X:=X.hand e) I2 hg' hm' ?_ hd');refine wpAny_items_nil ⟨by rw[ka];show 2<=_;omega,?_⟩
 have kp:∀ q o,s.heap.get? q=some o->(s.heap.push { cls:=.type "tuple",data:=.seq [C,D].toArray }).get? q=some o:=λ_ _ z=>θ _ z;exact(W.exm_tup2 (I.kIn.keeps kp) (Qc (F.kept kp)) (ae s.heap rfl) hp).here (h _ (I.kept (t':=s.toks) kp) (F.kept kp))
def mH{α :Type}{P:List α ->Prop}(h:∀ a b c d e f g i,P [a,b,c,d,e,f,g,i]):∀ us:List α,us.length=8->P us
 | [a,b,c,d,e,f,g,i],_=>h a b c d e f g i
end L2
namespace L2
def DG(x:V)(P:Addr->Prop):Prop:=match x with
 | .ref a=>P a
 | _=>False
def HF(x:V)(P:Int->Prop):Prop:=match x with
 | .int a=>P a
 | _=>False
def KR(x:V)(P:Bool->Prop):Prop:=match x with
 | .bl a=>P a
 | _=>False
def GT(xs:List V)(P:V->Prop):Prop:=match xs with
 | [x]=>P x
 | _=>False
def P4(xs:List V)(P:V->List V->Prop):Prop:=match xs with
 | x::r=>P x r
 | _=>False
def P5(xs:List V)(P:Prop):Prop:=match xs with
 | []=>P
 | _=>False
def G1{x:V}{P:Addr->Prop}:DG x P=∃ a,x=.ref a/\P a:=by cases x<;>simp[DG]
def P7{x:V}{P:Int->Prop}:HF x P=∃ a,x=.int a/\P a:=by cases x<;>simp[HF]
def XL{x:V}{P:Bool->Prop}:KR x P=∃ a,x=.bl a/\P a:=by cases x<;>simp[KR]
def N2{xs:List V}{P:V->Prop}:GT xs P=∃ x,xs=[x]/\P x:=by rcases xs with _ | ⟨x,_ | ⟨y,r⟩⟩<;>simp[GT]
def Zd{xs:List V}{P:V->List V->Prop}:P4 xs P=∃ x r,xs=x::r/\P x r:=by
 rcases xs with _ | ⟨x,r⟩<;>simp[P4]
 exact⟨λh=>⟨x,r,⟨rfl,rfl⟩,h⟩,λ⟨_,_,⟨e,e'⟩,h⟩=>e ▸ e' ▸ h⟩
def Zg{xs:List V}{P:Prop}:P5 xs P=(xs=[]/\P):=by rcases xs with _ | ⟨x,r⟩<;>simp[P5]
section
variable{P:Addr->Prop}{PI':Int->Prop}{PB:Bool->Prop}{P1:V->Prop}{P2:V->V->Prop}{PC':V->List V->Prop}{Z:Prop}{p:Addr}{i:Int}{b:Bool}{x y:V}{r:List V}
def Zh:DG (.ref p) P=P p:=rfl
def Zj:HF (.int i) PI'=PI' i:=rfl
def XM:KR (.bl b) PB=PB b:=rfl
def Zk:GT [x] P1=P1 x:=rfl
def Zl:P4 (x::r) PC'=PC' x r:=rfl
def Zm:P5 [] Z=Z:=rfl
def Zp{A B:Prop}:@ite Prop (true=true) (instDecidableEqBool true true) A B=A:=rfl
def mI{A B:Prop}:@ite Prop (false=true) (instDecidableEqBool false true) A B=B:=rfl
def Zq:(!true)=false:=rfl
def Zv:(!false)=true:=rfl
def Zw{α β :Type}{f: α -> β}{a: α}{l:List α}:Ie f (a::l)=f a::Ie f l:=rfl
def Zx{α β :Type}{f: α -> β}:Ie f []=[]:=rfl
end
section
variable{K:η}{ta tb tc to ti tv tl td ty tx:TE}{s1:TS}{r r':R2}{σ:St}{H:Hp}{Q:VK}{D:Ends}{QB:Bool->Hp->Prop}{as:TA}{g:TG}{gs:G8}{tt:TT}{te:TE}{k i:Nat}{cap:List Nat}{f m:Str}{C:Addr}{sp:Sp}{E:St->XK}{v:V}{vs:List V}{QG:St->Hp->Prop}{X:Cx}{e:Expr}{es:List Expr}{st:Stmt}{tg it:Expr}{QO:Option Int->Hp->Prop}{p q:Addr}{x y:Int}{b b':Bool}{s s':Str}
def A6(K:η)(ta:TE)(f:Str):TE:=λσ H Q=>ta σ H λx H1=>DG x λa=>∃ C dx fs,H1 a=some (.ins C dx fs)/\Cls K C/\NoAttr K C f/\∃ v,fs.lookup f=some v/\Q v H1
def Zy:A6 K ta f=R4 K ta f:=by funext σ H Q;simp only[A6,R4,G1];congr 1;funext x H1;simp
def Zz:A6 K ta f σ H Q=ta σ H λx H1=>DG x λa=>∃ C dx fs,H1 a=some (.ins C dx fs)/\Cls K C/\NoAttr K C f/\∃ v,fs.lookup f=some v/\Q v H1:=rfl
def A9(h:PE X e (R4 K ta f)):PE X e (A6 K ta f):=Zy ▸ h
def AU(C:Addr)(m:Str)(sp:Sp)(E:St->XK)(ta:TE)(t:TA):TE:=λσ H Q=>ta σ H λx H1=>DG x λa=>∃ dx fs,H1 a=some (.ins C dx fs)/\fs.lookup m=none/\t σ H1 λvs H2=>sp (x::vs) H2 Q (E σ)
def zaa:AU C m sp E ta as=KI C m sp [] E ta as:=by funext σ H Q;simp only[AU,KI,G1];congr 1;funext x H1;simp
def zab:AU C m sp E ta as σ H Q=ta σ H λx H1=>DG x λa=>∃ dx fs,H1 a=some (.ins C dx fs)/\fs.lookup m=none/\as σ H1 λvs H2=>sp (x::vs) H2 Q (E σ):=rfl
def AV(h:PE X e (KI C m sp [] E ta as)):PE X e (AU C m sp E ta as):=zaa ▸ h
def B2(sp:Sp)(E:St->XK)(t:TA):TE:=λσ H Q=>t σ H λvs H1=>sp vs H1 Q (E σ)
def zac:B2 sp E as=NR sp [] E as:=by funext σ H Q;simp only[B2,NR,t9]
def zad:B2 sp E as σ H Q=as σ H λvs H1=>sp vs H1 Q (E σ):=rfl
def CF(h:PE X e (NR sp [] E as)):PE X e (B2 sp E as):=zac ▸ h
def KS(C:Addr)(sp:Sp)(E:St->XK)(t:TA):TE:=λσ H Q=>t σ H λvs H1=>∀ x dx,H1 x=none->H1 dx=none->dx≠x->sp (.ref x::vs) (upd (upd H1 dx (.own x)) x (.ins C dx [])) (λv H2=>v=.non/\Q (.ref x) H2) (E σ)
def zae:KS C sp E as=O5 C sp [] E as:=by funext σ H Q;simp only[KS,O5,t9]
def zaf:KS C sp E as σ H Q=as σ H λvs H1=>∀ x dx,H1 x=none->H1 dx=none->dx≠x->sp (.ref x::vs) (upd (upd H1 dx (.own x)) x (.ins C dx [])) (λv H2=>v=.non/\Q (.ref x) H2) (E σ):=rfl
def P8(h:PE X e (O5 C sp [] E as)):PE X e (KS C sp E as):=zae ▸ h
def EZ(K:η)(ta tv:TE)(f:Str):TS:=λD σ H=>tv σ H λy H1=>ta σ H1 λx H2=>DG x λa=>∃ C dx fs,H2 a=some (.ins C dx fs)/\Cls K C/\NoAttr K C f/\fs.length<1000/\D.nx σ (upd H2 a (.ins C dx (BI f y fs)))
def zag:EZ K ta tv f=R5 K ta tv f:=by funext D σ H;simp only[EZ,R5,G1];congr 1;funext y H1;congr 1;funext x H2;simp
def zah:EZ K ta tv f D σ H=tv σ H λy H1=>ta σ H1 λx H2=>DG x λa=>∃ C dx fs,H2 a=some (.ins C dx fs)/\Cls K C/\NoAttr K C f/\fs.length<1000/\D.nx σ (upd H2 a (.ins C dx (BI f y fs))):=rfl
def F1(h:PS X st (R5 K ta tv f)):PS X st (EZ K ta tv f):=zag ▸ h
def BR(t:TE):TT:=λσ H Q=>t σ H λx H'=>KR x λk=>Q k H'
def XN:BR ta=NO ta:=by funext σ H Q;simp only[BR,NO,XL]
def zai:BR ta σ H QB=ta σ H λx H'=>KR x λk=>QB k H':=rfl
def CS(h:PT X e (NO ta)):PT X e (BR ta):=XN ▸ h
def LR(h:PT X e (tB ta)):PT X e (BR ta):=by rw[XN];exact h
def G2(r r':R2)(ta tb tc:TE):TE:=λσ H Q=>ta σ H λx H1=>tb σ H1 λy H2=>r x y H2 λz H3=>KR z λk=>if k=true then tc σ H3 λw' H4=>r' y w' H4 Q else Q (.bl false) H3
def mJ:G2 r r' ta tb tc=NP r r' ta tb tc:=by funext σ H Q;simp only[G2,NP,XL]
def zaj:G2 r r' ta tb tc σ H Q=ta σ H λx H1=>tb σ H1 λy H2=>r x y H2 λz H3=>KR z λk=>if k=true then tc σ H3 λw' H4=>r' y w' H4 Q else Q (.bl false) H3:=rfl
def S8(h:PE X e (NP r r' ta tb tc)):PE X e (G2 r r' ta tb tc):=mJ ▸ h
def P9(h:PT X e (NO (NP r r' ta tb tc))):PT X e (BR (G2 r r' ta tb tc)):=by rw[XN,mJ];exact h
def MT(ta tb:TE):TE:=λσ H Q=>ta σ H λx H1=>KR x λc=>if c=true then tb σ H1 Q else Q (.bl false) H1
def zak:MT ta tb=RL ta tb:=by funext σ H Q;simp only[MT,RL,XL]
def zal:MT ta tb σ H Q=ta σ H λx H1=>KR x λc=>if c=true then tb σ H1 Q else Q (.bl false) H1:=rfl
def XO(h:PE X e (RL ta tb)):PE X e (MT ta tb):=zak ▸ h
def KU(K:η)(x:V)(H:Hp)(Q:Bool->Prop):Prop:=match x with
 | .bl b=>Q b
 | .int i=>Q (i != 0)
 | .non=>Q false
 | x=>∃ k,LG K x H k/\Q k
def zam{x:V}{Q:Bool->Prop}:KU K x H Q=∃ k,LG K x H k/\Q k:=by cases x<;>simp[KU,LG]
def mK{Q:Bool->Prop}:KU K (.bl b) H Q=Q b:=rfl
def zan{Q:Bool->Prop}:KU K (.int x) H Q=Q (x != 0):=rfl
def zao{Q:Bool->Prop}:KU K .non H Q=Q false:=rfl
def zap{Q:Bool->Prop}:KU K (.ref p) H Q=∃ k,LG K (.ref p) H k/\Q k:=rfl
def zaq{Q:Bool->Prop}:KU K (.str s) H Q=∃ k,LG K (.str s) H k/\Q k:=rfl
def GK(K:η)(ta:TE):TT:=λσ H Q=>ta σ H λx H'=>KU K x H' λk=>Q k H'
def zar:GK K ta=WP K ta:=by funext σ H Q;simp only[GK,zam,WP]
def zas:GK K ta σ H QB=ta σ H λx H'=>KU K x H' λk=>QB k H':=rfl
def HW(h:PT X e (WP K ta)):PT X e (GK K ta):=zar ▸ h
def N3(C:Int->Int->Prop)(g:Int->Int->V):R2:=λx y H Q=>HF x λi=>HF y λj=>C i j/\Q (g i j) H
def mM{C:Int->Int->Prop}{g:Int->Int->V}:N3 C g=rI C g:=by funext x y H Q;simp only[N3,rI,P7];simp
def S9(g:Int->Int->V):R2:=λx y H Q=>HF x λi=>HF y λj=>Q (g i j) H
def zat{g:Int->Int->V}:S9 g=KG g:=by funext x y H Q;simp only[S9,KG,P7];simp
def TC(g:Int->V):V->Hp->VK->Prop:=λx H Q=>HF x λi=>Q (g i) H
def zau{g:Int->V}:TC g=rU g:=by funext x H Q;simp only[TC,rU,P7]
abbrev LS:R2:=S9 λi j=>.int (i - j)
abbrev DQ:R2:=N3 (λ_ j=>0<j) λi j=>.int (i % j)
abbrev DW:R2:=N3 i7 λi j=>.int (i / j)
abbrev rPw:R2:=N3 Jd λi j=>.int (i ^ j.toNat)
abbrev MU:V->Hp->VK->Prop:=TC λi=>.int (-i)
def zaw{C:Int->Int->Prop}{g:Int->Int->V}:N3 C g (.int x) (.int y) H Q=(C x y/\Q (g x y) H):=rfl
def zax{g:Int->Int->V}:S9 g (.int x) (.int y) H Q=Q (g x y) H:=rfl
def zay{g:Int->V}:TC g (.int x) H Q=Q (g x) H:=rfl
def QC:CI X (fv .Sub) LS:=by rw[LS,zat];exact Jh
def D0:CI X (fv .Mod) DQ:=by rw[DQ,mM];exact Jl
def D9:CI X (fv .FloorDiv) DW:=by rw[DW,mM];exact Jk
def TF:RX X (unaryOp .USub) MU:=by rw[MU,zau];exact Jp
def DR(K:η):R2:=λx y H Q=>match x,y with
 | .int i,.int j=>Q (.bl (decide (i=j))) H
 | .str i,.str j=>Q (.bl (decide (i=j))) H
 | .bl i,.bl j=>Q (.bl (decide (i=j))) H
 | .non,.int _=>Q (.bl false) H
 | .int _,.non=>Q (.bl false) H
 | .non,.non=>Q (.bl true) H
 | x,y=>EE K x y H Q
def EK(K:η):R2:=λx y H Q=>match x,y with
 | .int i,.int j=>Q (.bl (!decide (i=j))) H
 | .str i,.str j=>Q (.bl (!decide (i=j))) H
 | .bl i,.bl j=>Q (.bl (!decide (i=j))) H
 | .non,.int _=>Q (.bl true) H
 | .int _,.non=>Q (.bl true) H
 | .non,.non=>Q (.bl false) H
 | x,y=>EI K x y H Q
def zaz:DR K=EE K:=by funext x y H Q;cases x<;>cases y<;>simp[DR,Uy,Uz,Vb,Vc,Vd,Vg]
def mO:EK K=EI K:=by funext x y H Q;cases x<;>cases y<;>simp[EK,kY,kZ,Vh,Vj,Vk,k8]
def za0:DR K (.int x) (.int y) H Q=Q (.bl (decide (x=y))) H:=rfl
def za1:DR K (.str s) (.str s') H Q=Q (.bl (decide (s=s'))) H:=rfl
def za2:DR K (.bl b) (.bl b') H Q=Q (.bl (decide (b=b'))) H:=rfl
def za3:DR K .non (.int x) H Q=Q (.bl false) H:=rfl
def za4:DR K (.int x) .non H Q=Q (.bl false) H:=rfl
def za5:DR K .non .non H Q=Q (.bl true) H:=rfl
def za6:DR K (.ref p) (.ref q) H Q=EE K (.ref p) (.ref q) H Q:=rfl
def za7:DR K (.ref p) .non H Q=EE K (.ref p) .non H Q:=rfl
def za8:DR K .non (.ref p) H Q=EE K .non (.ref p) H Q:=rfl
def za9:DR K (.str s) .non H Q=EE K (.str s) .non H Q:=rfl
def zba:DR K .non (.str s) H Q=EE K .non (.str s) H Q:=rfl
def zbb:EK K (.int x) (.int y) H Q=Q (.bl (!decide (x=y))) H:=rfl
def zbc:EK K (.str s) (.str s') H Q=Q (.bl (!decide (s=s'))) H:=rfl
def zbd:EK K (.bl b) (.bl b') H Q=Q (.bl (!decide (b=b'))) H:=rfl
def zbe:EK K .non (.int x) H Q=Q (.bl true) H:=rfl
def zbf:EK K (.int x) .non H Q=Q (.bl true) H:=rfl
def zbg:EK K .non .non H Q=Q (.bl false) H:=rfl
def zbh:EK K (.ref p) (.ref q) H Q=EI K (.ref p) (.ref q) H Q:=rfl
def zbi:EK K (.ref p) .non H Q=EI K (.ref p) .non H Q:=rfl
def zbj:EK K .non (.ref p) H Q=EI K .non (.ref p) H Q:=rfl
def nC{x y:V}(h:EI K x y H Q):EK K x y H Q:=mO ▸ h
def GL(hu:X.A.units+64<cLine):CI X (cw .Eq) (DR X.K):=zaz ▸ Qh hu
def IX(hu:X.A.units+64<cLine):CI X (cw .NotEq) (EK X.K):=mO ▸ Qj hu
def JT:R2:=λx y H Q=>match y with
 | .non=>Q (.bl (decide (x=.non))) H
 | _=>False
def MV:R2:=λx y H Q=>match y with
 | .non=>Q (.bl (!decide (x=.non))) H
 | _=>False
def zbk:JT v .non H Q=Q (.bl (decide (v=.non))) H:=rfl
def zbl:MV v .non H Q=Q (.bl (!decide (v=.non))) H:=rfl
def zbm:JT=kT:=by funext x y H Q;cases y<;>simp[JT,kT]
def zbn:MV=kU:=by funext x y H Q;cases y<;>simp[MV,kU]
def N4:CI X (cw .Is) JT:=zbm ▸ Kc
def XQ:CI X (cw .IsNot) MV:=zbn ▸ Kd
def EL(K:η):List V->Hp->VK->Prop:=λxs H Q=>GT xs λx=>∃ n,R0 K x H n/\Q (.int n) H
def zbo:EL K=WR K:=by funext xs H Q;simp only[EL,WR,N2];simp
def zbp:EL K vs H Q=GT vs λx=>∃ n:Nat,R0 K x H n/\Q (.int n) H:=rfl
def FF:FX X (.builtin "len") (EL X.K):=zbo ▸ Rh
def KW(K:η):List V->Hp->VK->Prop:=λxs H Q=>GT xs λx=>DG x λp=>∃ ys,(SqL K H p ys\/SqT K H p ys)/\∀ l,H l=none->Q (.ref l) (upd H l (.lst ys))
def zbq:KW K=WS K:=by
 funext xs H Q;simp only[KW,WS,N2,G1];exact propext ⟨λ⟨_,e,p,e',ys,h⟩=>⟨p,ys,e' ▸ e,h⟩,λ⟨p,ys,e,h⟩=>⟨_,e,p,rfl,ys,h⟩⟩
def zbr:KW K vs H Q=GT vs λx=>DG x λp=>∃ ys,(SqL K H p ys\/SqT K H p ys)/\∀ l,H l=none->Q (.ref l) (upd H l (.lst ys)):=rfl
def QD:FX X (.type "list") (KW X.K):=zbq ▸ Rj
def MW(K:η):List V->Hp->VK->Prop:=λxs H Q=>GT xs λx=>DG x λp=>∃ ys,((SqL K H p ys/\∀ l,H l=none->Q (.ref l) (upd H l (.tup ys)))\/(SqT K H p ys/\Q (.ref p) H))
def zbs:MW K=WT K:=by
 funext xs H Q;simp only[MW,WT,N2,G1];exact propext ⟨λ⟨_,e,p,e',ys,h⟩=>⟨p,ys,e' ▸ e,h⟩,λ⟨p,ys,e,h⟩=>⟨_,e,p,rfl,ys,h⟩⟩
def zbt:MW K vs H Q=GT vs λx=>DG x λp=>∃ ys,((SqL K H p ys/\∀ l,H l=none->Q (.ref l) (upd H l (.tup ys)))\/(SqT K H p ys/\Q (.ref p) H)):=rfl
def XR:FX X (.type "tuple") (MW X.K):=zbs ▸ Rk
def F9(td ty:TE):TE:=λσ H Q=>td σ H λx H1=>ty σ H1 λy H2=>DG x λa=>∃ v,DGet H2 a y (some v)/\Q v H2
def zbu:F9 td ty=SD td ty:=by funext σ H Q;simp only[F9,SD,G1];congr 1;funext x H1;congr 1;funext y H2;simp
def zbv:F9 td ty σ H Q=td σ H λx H1=>ty σ H1 λy H2=>DG x λa=>∃ v,DGet H2 a y (some v)/\Q v H2:=rfl
def HG(h:PE X e (SD td ty)):PE X e (F9 td ty):=zbu ▸ h
def LT(ty td:TE):TE:=λσ H Q=>ty σ H λy H1=>td σ H1 λx H2=>DG x λa=>∃ o,DGet H2 a y o/\Q (.bl o.isSome) H2
def zbw:LT ty td=SE ty td:=by funext σ H Q;simp only[LT,SE,G1];congr 1;funext x H1;congr 1;funext y H2;simp
def zbx:LT ty td σ H Q=ty σ H λy H1=>td σ H1 λx H2=>DG x λa=>∃ o,DGet H2 a y o/\Q (.bl o.isSome) H2:=rfl
def TJ{op:CmpOp}{a b:Expr}(h:PC X op a b (SE ty td)):PC X op a b (LT ty td):=zbw ▸ h
def LU(ty td:TE):TE:=λσ H Q=>ty σ H λy H1=>td σ H1 λx H2=>DG x λa=>∃ o,DGet H2 a y o/\Q (.bl (!o.isSome)) H2
def zby:LU ty td=SF ty td:=by funext σ H Q;simp only[LU,SF,G1];congr 1;funext x H1;congr 1;funext y H2;simp
def zbz:LU ty td σ H Q=ty σ H λy H1=>td σ H1 λx H2=>DG x λa=>∃ o,DGet H2 a y o/\Q (.bl (!o.isSome)) H2:=rfl
def TK{op:CmpOp}{a b:Expr}(h:PC X op a b (SF ty td)):PC X op a b (LU ty td):=zby ▸ h
def HH(td ty tv:TE):TS:=λD σ H=>tv σ H λv H1=>td σ H1 λx H2=>ty σ H2 λy H3=>DG x λa=>∃ H4,DPut H3 a y v H4/\D.nx σ H4
def zb0:HH td ty tv=SG td ty tv:=by funext D σ H;simp only[HH,SG,G1];congr 1;funext v H1;congr 1;funext x H2;congr 1;funext y H3;simp
def zb1:HH td ty tv D σ H=tv σ H λv H1=>td σ H1 λx H2=>ty σ H2 λy H3=>DG x λa=>∃ H4,DPut H3 a y v H4/\D.nx σ H4:=rfl
def KY(h:PS X st (SG td ty tv)):PS X st (HH td ty tv):=zb0 ▸ h
def KZ(td ty:TE):TE:=λσ H Q=>td σ H λx H1=>DG x λa=>SL H1 a/\ty σ H1 λy H2=>∃ o,DGet H2 a y o/\Q (o.getD .non) H2
def zb2:KZ td ty=SN td ty:=by funext σ H Q;simp only[KZ,SN,G1]
def zb3:KZ td ty σ H Q=td σ H λx H1=>DG x λa=>SL H1 a/\ty σ H1 λy H2=>∃ o,DGet H2 a y o/\Q (o.getD .non) H2:=rfl
def QE(h:PE X e (SN td ty)):PE X e (KZ td ty):=zb2 ▸ h
def FA(ta:TA):TI:=λσ H R=>ta σ H λvs H1=>GT vs λx=>HF x λj=> -(2 ^ 62)<=j/\j<2 ^ 62/\R (GE 0 j.toNat) H1
def zb4:FA as=RV as:=by
 funext σ H R;simp only[FA,RV,N2,P7];congr 1;funext vs H1;exact propext ⟨λ⟨_,e,j,e',h⟩=>⟨j,e' ▸ e,h⟩,λ⟨j,e,h⟩=>⟨_,e,j,rfl,h⟩⟩
def GO(h:PI X tg it (RV as)):PI X tg it (FA as):=zb4 ▸ h
def zb5:EQ (FA as) g tt te k cap σ H Q=as σ H λvs H1=>GT vs λx=>HF x λj=> -(2 ^ 62)<=j/\j<2 ^ 62/\HE (GE 0 j.toNat) g tt te k cap σ H1 Q:=rfl
def zb6:EO (FA as) g s1 D σ H=as σ H λvs H1=>GT vs λx=>HF x λj=> -(2 ^ 62)<=j/\j<2 ^ 62/\KP (GE 0 j.toNat) g s1 D σ H1:=rfl
def F2(K:η)(tl:TE):TI:=λσ H R=>tl σ H λx H1=>DG x λa=>(((∃ xs,SqL K H1 a xs)/\R (IN K a) H1)\/((∃ xs,SqT K H1 a xs)/\R (JK K a) H1))
def zb7:F2 K tl=SS K tl:=by funext σ H R;simp only[F2,SS,G1]
def HI(h:PI X tg it (SS K tl)):PI X tg it (F2 K tl):=zb7 ▸ h
def zb8:EQ (F2 K tl) g tt te k cap σ H Q=tl σ H λx H1=>DG x λa=>(((∃ xs,SqL K H1 a xs)/\HE (IN K a) g tt te k cap σ H1 Q)\/((∃ xs,SqT K H1 a xs)/\HE (JK K a) g tt te k cap σ H1 Q)):=rfl
def zb9:EO (F2 K tl) g s1 D σ H=tl σ H λx H1=>DG x λa=>(((∃ xs,SqL K H1 a xs)/\KP (IN K a) g s1 D σ H1)\/((∃ xs,SqT K H1 a xs)/\KP (JK K a) g s1 D σ H1)):=rfl
def N5(K:η)(ta:TA):TI:=λσ H R=>ta σ H λvs H1=>GT vs λx=>DG x λa=>(∃ xs,SqL K H1 a xs)/\R (PZ K a) H1
def zca:N5 K as=S5 K as:=by
 funext σ H R;simp only[N5,S5,N2,G1];congr 1;funext vs H1;exact propext ⟨λ⟨_,e,j,e',h⟩=>⟨j,e' ▸ e,h⟩,λ⟨j,e,h⟩=>⟨_,e,j,rfl,h⟩⟩
def mP(h:PI X tg it (S5 K as)):PI X tg it (N5 K as):=zca ▸ h
def zcb:EO (N5 K as) g s1 D σ H=as σ H λvs H1=>GT vs λx=>DG x λa=>(∃ xs,SqL K H1 a xs)/\KP (PZ K a) g s1 D σ H1:=rfl
def HX(ta:TE):TO:=λσ H Q=>ta σ H λx H1=>HF x λi=>Q (some i) H1
def zcc:HX ta=R7 ta:=by funext σ H Q;simp only[HX,R7,P7]
def zcd:HX ta σ H QO=ta σ H λx H1=>HF x λi=>QO (some i) H1:=rfl
def LV{o:Option Expr}(h:PO X o (R7 ta)):PO X o (HX ta):=zcc ▸ h
def LW(K:η)(n:Nat)(t:G8):TG:=λv σ H Q=>DG v λa=>∃ xs,SqT K H a xs/\xs.length=n/\t xs σ H Q
def zce:LW K k gs=RR K k gs:=by funext v σ H Q;simp only[LW,RR,G1];simp
def zcf:LW K k gs v σ H QG=DG v λa=>∃ xs,SqT K H a xs/\xs.length=k/\gs xs σ H QG:=rfl
def TM(h:PG X e (RR K k gs)):PG X e (LW K k gs):=zce ▸ h
def LX:G8:=λvs σ H Q=>P5 vs (Q σ H)
def zcg:LX=RO:=by funext vs σ H Q;simp only[LX,RO,Zg]
def zch:LX vs σ H QG=P5 vs (QG σ H):=rfl
def TN(h:LD X es RO):LD X es LX:=zcg ▸ h
def HY(g:TG)(gs:G8):G8:=λvs σ H Q=>P4 vs λv r=>g v σ H λσ' H'=>gs r σ' H' Q
def zci:HY g gs=RP g gs:=by funext vs σ H Q;simp only[HY,RP,Zd]
def zcj:HY g gs vs σ H QG=P4 vs λv r=>g v σ H λσ' H'=>gs r σ' H' QG:=rfl
def LY(h:LD X es (RP g gs)):LD X es (HY g gs):=zci ▸ h
def GU:V->List V->Hp->VK->Prop:=λx vs H Q=>DG x λl=>GT vs λy=>∃ xs,H l=some (.lst xs)/\xs.length<sizeLine/\Q .non (upd H l (.lst (xs++[y])))
def zck:GU=WB:=by
 funext x vs H Q;simp only[GU,WB,N2,G1];exact propext ⟨λ⟨l,e,y,e',xs,h⟩=>⟨l,xs,y,e,e',h⟩,λ⟨l,xs,y,e,e',h⟩=>⟨l,e,y,e',xs,h⟩⟩
def HZ:WA X "list.append" GU:=zck ▸ Nh
end
end L2
namespace L2
abbrev Ad:=String->Addr
def SameBut(F:Addr->Prop)(H H':Hp):Prop:=∀ b o,H b=some o->¬ F b->H' b=some o
structure FG(K:η)(a:Ad):Prop where
 cl:Cls K (a "Plank")
 nC:NoAttr K (a "Plank") "contents"
 nW:NoAttr K (a "Plank") "width"
 nN:NoAttr K (a "Plank") "written"
def pf(cl:Addr)(w n:Int):List (Str × V):=[("contents",.ref cl),("width",.int w),("written",.int n)]
def mQ:¬ ("contents":Str)="width":=by decide +kernel
def XS:¬ ("contents":Str)="written":=by decide +kernel
def XT:¬ ("width":Str)="written":=by decide +kernel
def TQ(cl:Addr)(w n:Int):(pf cl w n).lookup ("contents":Str)=some (V.ref cl):=by simp[pf]
def mR(cl:Addr)(w n:Int):(pf cl w n).lookup ("width":Str)=some (V.int w):=by
 have h:(("width":Str) == "contents")=false:=beq_eq_false_iff_ne.mpr (di mQ);simp[pf,ay,h]
def mS(cl:Addr)(w n:Int):(pf cl w n).lookup ("written":Str)=some (V.int n):=by
 have h:(("written":Str) == "contents")=false:=beq_eq_false_iff_ne.mpr (di XS)
 have h2:(("written":Str) == "width")=false:=beq_eq_false_iff_ne.mpr (di XT);simp[pf,ay,h,h2]
def zcl(cl:Addr)(w n:Int):BI "written" (.int n) (BI "width" (.int w) (BI "contents" (.ref cl) []))=pf cl w n:=by
 simp only[BI,pf];rw[if_neg mQ];simp only[BI];rw[if_neg XS,if_neg XT]
def zcm(cl:Addr)(w n m:Int):BI "written" (.int m) (pf cl w n)=pf cl w m:=by
 simp only[BI,pf];rw[if_neg XS,if_neg XT];simp
def N6(cl:Addr)(w n:Int){m:Str}(h1:¬ m="contents")(h2:¬ m="width")(h3:¬ m="written"):(pf cl w n).lookup m=none:=by
 have e1:=beq_eq_false_iff_ne.mpr h1
 have e2:=beq_eq_false_iff_ne.mpr h2
 have e3:=beq_eq_false_iff_ne.mpr h3;simp[pf,ay,e1,e2,e3]
structure PlankAt(a:Ad)(H:Hp)(p cl:Addr)(w:Nat)(rows:List (List V))(n:Nat):Prop where
 ob:∃ dx,H p=some (.ins (a "Plank") dx (pf cl w n))
 ls:∃ ts:List Addr,H cl=some (.lst (ts.map V.ref))/\Paired (λt r=>H t=some (.tup r)) ts rows
 wd:∀ r∈rows,r.length=w
 sz:rows.length<=1000
 sw:w<=1000
def PlankAt.ne{a:Ad}{H:Hp}{p cl:Addr}{w:Nat}{rows:List (List V)}{n:Nat}(P:PlankAt a H p cl w rows n):p≠cl:=by
 obtain⟨⟨dx,h1⟩,⟨ts,h2,_⟩,_⟩:=P;exact A0 h1 h2 (by intro z;cases z)
def PlankAt.same{a:Ad}{H H':Hp}{p cl:Addr}{w:Nat}{rows:List (List V)}{n:Nat}(P:PlankAt a H p cl w rows n)(s:Same H H'):PlankAt a H' p cl w rows n:=by
 obtain⟨⟨dx,e1⟩,⟨ts,e2,e3⟩,r1,r2,r3⟩:=P;exact⟨⟨dx,s _ _ e1⟩,⟨ts,s _ _ e2,Paired.mapP e3 λt r q=>s _ _ q⟩,r1,r2,r3⟩
def XU(K:η)(a:Ad):Sp:=λvs H Q _=>∃ (p dx:Addr) (m w:Nat),vs=[.ref p,.int m,.int w]/\FG K a/\H p=some (.ins (a "Plank") dx [])/\m<=1000/\1<=w/\w<=1000 ∧
 ∀ cl H',H cl=none->PlankAt a H' p cl w (ah m (ah w .non)) 0->SameBut (· =p) H H'->Q .non H'
def TR(K:η)(a:Ad):Sp:=λvs H Q _=>∃ p cl w rows n,vs=[.ref p]/\FG K a/\PlankAt a H p cl w rows n/\Q (.int rows.length) H
def XV(K:η)(a:Ad):Sp:=λvs H Q _=>∃ (p cl:Addr) (w:Nat) (rows:List (List V)) (n:Nat),vs=[.ref p]/\FG K a/\PlankAt a H p cl w rows n/\Q (.int w) H
def TU(K:η)(a:Ad):Sp:=λvs H Q _=>∃ (p cl:Addr) (w:Nat) (rows:List (List V)) (n:Nat),vs=[.ref p]/\FG K a/\PlankAt a H p cl w rows n/\Q (.int n) H
def N7(K:η)(a:Ad):Sp:=λvs H Q E=>∃ (p cl:Addr) (w:Nat) (rows:List (List V)) (n:Nat) (b:Int),vs=[.ref p,.int b]/\FG K a/\PlankAt a H p cl w rows n /\
 (0<=b->b<rows.length->Q .non H)/\(b<0\/rows.length<=b->E (.ref (a "NoBlock")) none H)
def QF(K:η)(a:Ad):Sp:=λvs H Q E=>∃ (p cl:Addr) (w:Nat) (rows:List (List V)) (n:Nat) (b:Int),vs=[.ref p,.int b]/\FG K a/\PlankAt a H p cl w rows n /\
 (∀ (i:Nat) row,b=i->rows[i]? =some row->∀ l,H l=none->Q (.ref l) (upd H l (.lst row)))/\(b<0\/rows.length<=b->E (.ref (a "NoBlock")) none H)
def XW(K:η)(a:Ad):Sp:=λvs H Q E=>∃ (p cl:Addr) (w:Nat) (rows:List (List V)) (n:Nat) (b:Int) (v:Addr) (xs:List V),vs=[.ref p,.int b,.ref v]/\FG K a/\PlankAt a H p cl w rows n/\SqL K H v xs/\xs.length<=2000 /\
 (∀ (i:Nat),b=i->i<rows.length->xs.length=w->∀ H',PlankAt a H' p cl w (rows.set i xs) (n+1)->SameBut (λx=>x=p\/x=cl) H H'->Q .non H') /\
 (b<0\/rows.length<=b\/xs.length≠w->E (.ref (a "NoBlock")) none H)
end L2
namespace L2
def CU{K:η}{H:Hp}{p:Addr}{xs:List V}{i:Int}{n:Nat}{v:V}{Q:VK}(h:H p=some (.tup xs))(hi:i=n)(hx:xs[n]? =some v)(q:Q v H):CB K (.ref p) (.int i) H Q :=
 .inr (.inl (x4 p xs i v ⟨rfl,rfl,SqT.of h,by rw[hi];exact R8 hx,q⟩))
def N8{C C' dx dx':Addr}{fs fs':List (Str × V)}(h:fs≠fs'):HO.ins C dx fs≠HO.ins C' dx' fs':=by
 intro z;injection z with _ _ z
 exact h z
def mT(xs:List V){k:Int}(h:0<=k):EY xs none (some k)=xs.take k.toNat:=by
 unfold EY
 have e:HT.sIx xs.length xs.length (some k)=min k.toNat xs.length:=by
  show(if k<0 then(k+(xs.length:Int)).toNat else min k.toNat xs.length)=_;rw[if_neg (by omega)]
 rw[e,HT.sIx_none,List.drop_zero,Nat.sub_zero,List.take_eq_take_iff];omega
def XX(xs:List V){k:Int}(h:0<=k):EY xs (some k) none=xs.drop k.toNat:=by
 unfold EY
 have e:HT.sIx xs.length 0 (some k)=min k.toNat xs.length:=by
  show(if k<0 then(k+(xs.length:Int)).toNat else min k.toNat xs.length)=_;rw[if_neg (by omega)]
 rw[e,HT.sIx_none];rcases gq k.toNat xs.length with z | z
 ·rw[ku (fg z),xk (by rw[io];exact ξ _)]
 ·rw[Nat.min_eq_right z,xl (ξ _),xl z];simp
def mU{K:η}{H:Hp}{p:Addr}{xs:List V}{lo hi:Option Int}{Q:VK}(h:SqL K H p xs)(q:∀ r,H r=none->Q (.ref r) (upd H r (.lst (EY xs lo hi)))):IU K (.ref p) lo hi H Q:=.inl (x2 p xs ⟨rfl,h,q⟩)
def SameBut.refl{F:Addr->Prop}(H:Hp):SameBut F H H:=λ_ _ e _=>e
def SameBut.trans{F:Addr->Prop}{H H' H2:Hp}(s:SameBut F H H')(t:SameBut F H' H2):SameBut F H H2:=λb o e n=>t _ _ (s _ _ e n) n
def SameBut.wide{F G:Addr->Prop}{H H':Hp}(s:SameBut F H H')(i:∀ x,F x->G x):SameBut G H H':=λb o e n=>s _ _ e λz=>n (i _ z)
def Same.sb{F:Addr->Prop}{H H':Hp}(s:Same H H'):SameBut F H H':=λb o e _=>s b o e
def SameBut.upd{F:Addr->Prop}{H H':Hp}{p:Addr}{o:HO}(s:SameBut F H H')(h:F p\/H p=none):SameBut F H (upd H' p o):=λb u e n=>by
 have:b≠p:=by
  rcases h with h | h
  ·exact λz=>n (z ▸ h)
  ·exact BL e h
 rw[AO this];exact s _ _ e n
structure Ch where
 blk:Nat
 cell:Nat
 val:V
 nd:List Int
def MX:List Ch->Int->Int->Option Nat
 | [],_,_=>none
 | c::r,i,j=>if(c.blk:Int)=i/\(c.cell:Int)=j then some r.length else MX r i j
def ES(cs:List Ch)(i j:Int):Option Nat:=MX cs.reverse i j
def HJ:List Ch->Nat->List Nat
 | [],_=>[]
 | c::r,b=>if c.blk=b then HJ r b++[r.length]else HJ r b
def DD(cs:List Ch)(b:Nat):List Nat:=HJ cs.reverse b
def XY(cs:List Ch)(c:Ch)(i j:Int):ES (cs++[c]) i j=if(c.blk:Int)=i/\(c.cell:Int)=j then some cs.length else ES cs i j:=by
 simp[ES,MX]
def zcn(cs:List Ch)(c:Ch)(b:Nat):DD (cs++[c]) b=if c.blk=b then DD cs b++[cs.length]else DD cs b:=by
 simp[DD,HJ]
def XZ:∀ {l:List Ch} {i j:Int} {k:Nat},MX l i j=some k->k<l.length
 | [],_,_,_,h=>by cases h
 | c::r,i,j,k,h=>by
  unfold MX at h;split at h
  ·cases h;simp
  ·have:=XZ h;simp only[cf];exact av this
def TV{cs:List Ch}{i j:Int}{k:Nat}(h:ES cs i j=some k):k<cs.length:=by
 have:=XZ h
 rwa [ax]at this
def X0:∀ {l:List Ch} {b k:Nat},k∈HJ l b->k<l.length
 | [],_,_,h=>by cases h
 | c::r,b,k,h=>by
  unfold HJ at h;split at h
  ·rcases bh.mp h with h | h
   ·have:=X0 h;simp only[cf];exact av this
   ·rw[ο.mp h];simp
  ·have:=X0 h;simp only[cf];exact av this
def X1{cs:List Ch}{b k:Nat}(h:k∈DD cs b):k<cs.length:=by
 have:=X0 h
 rwa [ax]at this
def mV:∀ (l:List Ch) (b:Nat),(HJ l b).length<=l.length
 | [],_=>ξ _
 | c::r,b=>by
  have:=mV r b;unfold HJ;split<;>simp<;>omega
def mW(cs:List Ch)(b:Nat):(DD cs b).length<=cs.length:=by
 have:=mV cs.reverse b
 rwa [ax]at this
def GW(pl:Addr)(v:V)(nt:Addr):List (Str × V):=[("place",.ref pl),("value",v),("needs",.ref nt)]
def bf(gp m mi lt ou:Addr):List (Str × V):=[("ground",.ref gp),("made",.ref m),("made_in",.ref mi),("latest",.ref lt),("outs",.ref ou)]
def GY(a b:Str):Bool:=a == b
section
variable{pl nt gp m mi lt ou:Addr}{v:V}
def DE{a b:Str}(h:GY a b=false):(a == b)=false:=h
def zco:(GW pl v nt).lookup ("place":Str)=some (V.ref pl):=by simp[GW]
def mX:(GW pl v nt).lookup ("value":Str)=some v:=by
 simp[GW,ay,DE (a:="value") (b:="place") (by decide +kernel)]
def mY:(GW pl v nt).lookup ("needs":Str)=some (V.ref nt):=by
 simp[GW,ay,DE (a:="needs") (b:="place") (by decide +kernel),DE (a:="needs") (b:="value") (by decide +kernel)]
def N9{f g:Str}{x y:V}{r:List (Str × V)}(h:GY g f=false):BI f y ((g,x)::r)=(g,x)::BI f y r:=by
 have:¬ g=f:=λe=>by rw[e]at h;simp[GY]at h
 simp[BI,this]
def OA{f:Str}{y:V}:BI f y []=[(f,y)]:=rfl
def zcp:BI "needs" (.ref nt) (BI "value" v (BI "place" (.ref pl) []))=GW pl v nt:=by
 rw[OA,N9 (by decide +kernel),OA,N9 (by decide +kernel),N9 (by decide +kernel),OA]
 rfl
def QH:(bf gp m mi lt ou).lookup ("ground":Str)=some (V.ref gp):=by simp[bf]
def LZ:(bf gp m mi lt ou).lookup ("made":Str)=some (V.ref m):=by
 simp[bf,ay,DE (a:="made") (b:="ground") (by decide +kernel)]
def X2:(bf gp m mi lt ou).lookup ("made_in":Str)=some (V.ref mi):=by
 simp[bf,ay,DE (a:="made_in") (b:="ground") (by decide +kernel),DE (a:="made_in") (b:="made") (by decide +kernel)]
def mZ:(bf gp m mi lt ou).lookup ("latest":Str)=some (V.ref lt):=by
 simp[bf,ay,DE (a:="latest") (b:="ground") (by decide +kernel),DE (a:="latest") (b:="made") (by decide +kernel),DE (a:="latest") (b:="made_in") (by decide +kernel)]
def TW:(bf gp m mi lt ou).lookup ("outs":Str)=some (V.ref ou):=by
 simp[bf,ay,DE (a:="outs") (b:="ground") (by decide +kernel),DE (a:="outs") (b:="made") (by decide +kernel),DE (a:="outs") (b:="made_in") (by decide +kernel),DE (a:="outs") (b:="latest") (by decide +kernel)]
def EA{x:Str}(h:(GY x "ground" || GY x "made" || GY x "made_in" || GY x "latest" || GY x "outs")=false:=by decide +kernel):(bf gp m mi lt ou).lookup x=none:=by
 simp only[tf]at h;obtain⟨⟨⟨⟨h1,h2⟩,h3⟩,h4⟩,h5⟩:=h;simp[bf,ay,DE h1,DE h2,DE h3,DE h4,DE h5]
def zcq:BI "outs" (.ref ou) (BI "latest" (.ref lt) (BI "made_in" (.ref mi) (BI "made" (.ref m) (BI "ground" (.ref gp) []))))=bf gp m mi lt ou:=by
 repeat (first | rw[OA] | rw[N9 (by decide +kernel)])
 rfl
end
structure m4(K:η)(C D:Addr):Prop where
 cl:Cls K C
 nG:NoAttr K C "ground"
 nM:NoAttr K C "made"
 nI:NoAttr K C "made_in"
 nL:NoAttr K C "latest"
 nO:NoAttr K C "outs"
 cc:Cls K D
 nP:NoAttr K D "place"
 nV:NoAttr K D "value"
 nN:NoAttr K D "needs"
def ChAt(D:Addr)(H:Hp)(x:Addr)(c:Ch):Prop:=∃ dx pl nt,H x=some (.ins D dx (GW pl c.val nt))/\H pl=some (.tup [.int c.blk,.int c.cell])/\H nt=some (.tup (c.nd.map V.int))
structure BA where
 b:Addr
 gp:Addr
 m:Addr
 mi:Addr
 lt:Addr
 ou:Addr
 ls:List Addr
 cl:Addr
def BA.F(A:BA)(x:Addr):Prop:=x=A.m\/x=A.mi\/x∈A.ls\/x=A.lt\/x=A.ou\/x=A.cl
def KeysOk(DS:List (AS × V))(n:Nat):Prop:=(DS.map (·.1)).Nodup/\∀ p∈DS,∃ x:Nat,p.1=mz (x:Int)/\x<n
def KeysOk.mono{DS:List (AS × V)}{n m:Nat}(h:KeysOk DS n)(hm:n<=m):KeysOk DS m:=⟨h.1,λp hp=>by obtain⟨x,e,hx⟩:=h.2 p hp;exact⟨x,e,υ hx hm⟩⟩
def KeysOk.len{DS:List (AS × V)}{n:Nat}(h:KeysOk DS n):DS.length<=n:=by
 have:=sq (l₂:=(ag n).map λ(k:Nat)=>(mz (k:Int):AS)) h.1 λk hk=>by
  obtain⟨p,hp,rfl⟩:=cj.mp hk;obtain⟨x,e,hx⟩:=h.2 p hp;rw[e];exact cj.mpr ⟨x,bp.mpr hx,rfl⟩
 simpa using this
def KeysOk.put{DS:List (AS × V)}{n:Nat}(h:KeysOk DS n){k:Nat}(hk:k<n)(hn:BT DS (.inl (k:Int))=none)(v:V):KeysOk (BY DS (.inl (k:Int)) v) n:=by
 refine⟨Pw v h.1 hn,λp hp=> ?_⟩;rw[j8 v hn]at hp;rcases bh.mp hp with hp | hp
 ·exact h.2 p hp
 ·rw[ο.mp hp];exact⟨k,rfl,hk⟩
structure BookIn(C D:Addr)(H:Hp)(A:BA)(w:Nat)(cs:List Ch)(outs:Int->Bool):Prop where
 ob:∃ dx,H A.b=some (.ins C dx (bf A.gp A.m A.mi A.lt A.ou))
 made:∃ chs:List Addr,H A.m=some (.lst (chs.map V.ref))/\Paired (ChAt D H) chs cs
 mil:H A.mi=some (.lst (A.ls.map V.ref))
 mic:∀ (i:Nat) l,A.ls[i]? =some l->H l=some (.lst ((DD cs i).map λ(k:Nat)=>V.int k))
 nd:A.ls.Nodup
 lat:∃ AE,H A.lt=some (.dT AE)/\(∀ i j:Int,BT AE [.inl i,.inl j]=(ES cs i j).map λ(k:Nat)=>V.int k)/\AE.length<=cs.length
 out:∃ DS,H A.ou=some (.dK DS)/\(∀ k:Int,(BT DS (.inl k)).isSome=outs k)/\KeysOk DS cs.length
 sz:cs.length<=990
 inn:∀ c∈cs,c.blk<A.ls.length/\c.cell<w
 need:∀ (k:Nat) c,cs[k]? =some c->(∀ x∈c.nd,0<=x/\x<k)/\c.nd.Pairwise (· <·)/\c.nd.length<=100
 ap:A.m≠A.mi/\A.m∉A.ls/\A.mi∉A.ls/\A.cl≠A.m/\A.cl≠A.mi/\A.cl∉A.ls
 chn:∀ (k:Nat) c,cs[k]? =some c->∀ j,ES (cs.take k) c.blk c.cell=some j->(j:Int)∈c.nd
structure BookAt(a:Ad)(C:Addr)(H:Hp)(A:BA)(w:Nat)(rows:List (List V))(n:Nat)(cs:List Ch)(outs:Int->Bool):Prop where
 bk:BookIn C (a "Change") H A w cs outs
 pk:PlankAt a H A.gp A.cl w rows n
 nb:A.ls.length=rows.length
def FB(o:Option HO):Prop:=(∀ xs,o≠some (.tup xs))/\∀ C dx fs,o≠some (.ins C dx fs)
def ChAt.sb{D:Addr}{G:Addr->Prop}{H H':Hp}(s:SameBut G H H')(g:∀ x,G x->FB (H x)){x:Addr}{c:Ch}(h:ChAt D H x c):ChAt D H' x c:=by
 revert h;apply u3;rintro dx pl nt ⟨e1,e2,e3⟩;exact x3 dx pl nt ⟨s _ _ e1 λz=>(g _ z).2 _ _ _ e1,s _ _ e2 λz=>(g _ z).1 _ e2,s _ _ e3 λz=>(g _ z).1 _ e3⟩
def BookIn.sb{C D:Addr}{G:Addr->Prop}{H H':Hp}{A:BA}{w:Nat}{cs:List Ch}{outs:Int->Bool}(B:BookIn C D H A w cs outs)(s:SameBut G H H')(g:∀ x,G x->FB (H x))(f:∀ x,G x->¬ A.F x):BookIn C D H' A w cs outs:=by
 obtain⟨⟨dx,e1⟩,⟨chs,e2,e3⟩,e4,e5,e6,⟨AE,e7,e8⟩,⟨DS,e9,e10⟩,r1,r2,r3,r4,r5⟩:=B;refine⟨⟨dx,s _ _ e1 λz=>(g _ z).2 _ _ _ e1⟩,⟨chs,s _ _ e2 λz=>f _ z (.inl rfl),Paired.mapP e3 λx c h=>h.sb s g⟩,s _ _ e4 λz=>f _ z (.inr (.inl rfl)),λi l h=>s _ _ (e5 i l h) λz=>f _ z (.inr (.inr (.inl (π h)))),e6,
  ⟨AE,s _ _ e7 λz=>f _ z (.inr (.inr (.inr (.inl rfl)))),e8⟩,⟨DS,s _ _ e9 λz=>f _ z (.inr (.inr (.inr (.inr (.inl rfl))))),e10⟩,r1,r2,r3,r4,r5⟩
def PlankAt.sbL{a:Ad}{G:Addr->Prop}{H H':Hp}{p cl:Addr}{w:Nat}{rows:List (List V)}{n:Nat}(P:PlankAt a H p cl w rows n)(s:SameBut G H H')(g:∀ x,G x->FB (H x))(h:¬ G cl):PlankAt a H' p cl w rows n:=by
 obtain⟨⟨dx,e1⟩,⟨ts,e2,e3⟩,r1,r2,r3⟩:=P;exact⟨⟨dx,s _ _ e1 λz=>(g _ z).2 _ _ _ e1⟩,⟨ts,s _ _ e2 h,Paired.mapP e3 λt r q=>s _ _ q λz=>(g _ z).1 _ q⟩,r1,r2,r3⟩
def BookAt.sb{a:Ad}{C:Addr}{G:Addr->Prop}{H H':Hp}{A:BA}{w:Nat}{rows:List (List V)}{n:Nat}{cs:List Ch}{outs:Int->Bool}(B:BookAt a C H A w rows n cs outs)(s:SameBut G H H')(g:∀ x,G x->FB (H x))(f:∀ x,G x->¬ A.F x):BookAt a C H' A w rows n cs outs :=
 ⟨B.bk.sb s g f,B.pk.sbL s g λz=>f _ z (.inr (.inr (.inr (.inr (.inr rfl))))),B.nb⟩
def BookAt.same{a:Ad}{C:Addr}{H H':Hp}{A:BA}{w:Nat}{rows:List (List V)}{n:Nat}{cs:List Ch}{outs:Int->Bool}(B:BookAt a C H A w rows n cs outs)(s:Same H H'):BookAt a C H' A w rows n cs outs :=
 B.sb (G:=λ_=>False) (Same.sb s) (λ_ z=>z.elim) λ_ z=>z.elim
def BookAt.off{a:Ad}{C:Addr}{H:Hp}{A:BA}{w:Nat}{rows:List (List V)}{n:Nat}{cs:List Ch}{outs:Int->Bool}(B:BookAt a C H A w rows n cs outs){x:Addr}(h:H x=none):¬ A.F x:=by
 obtain⟨⟨_,⟨chs,e2,_⟩,e4,e5,_,⟨AE,e7,_⟩,⟨DS,e9,_⟩,_⟩,⟨_,⟨ts,e11,_⟩,_⟩,_⟩:=B;rintro (z | z | z | z | z | z)
 ·rw[z,e2]at h;cases h
 ·rw[z,e4]at h;cases h
 ·obtain⟨i,hi,e⟩:=ig z
  have:=e5 i x (by rw[<-e];exact ζ hi);rw[this]at h;cases h
 ·rw[z,e7]at h;cases h
 ·rw[z,e9]at h;cases h
 ·rw[z,e11]at h;cases h
def zcr{α :Type}{l:List α}{x: α}(h:x∈l):∃ i:Nat,l[i]? =some x:=by
 obtain⟨i,hi,e⟩:=ig h;exact⟨i,by rw[<-e];exact ζ hi⟩
def MY{H:Hp}{x:Addr}{xs:List V}(h:H x=some (.lst xs)):FB (H x):=by
 rw[h];exact⟨λ_ z=>(by cases z),λ_ _ _ z=>(by cases z)⟩
def OB{H:Hp}{x:Addr}{xs:List (AS × V)}(h:H x=some (.dK xs)):FB (H x):=by
 rw[h];exact⟨λ_ z=>(by cases z),λ_ _ _ z=>(by cases z)⟩
def X3{H:Hp}{x:Addr}{xs:List (List AS × V)}(h:H x=some (.dT xs)):FB (H x):=by
 rw[h];exact⟨λ_ z=>(by cases z),λ_ _ _ z=>(by cases z)⟩
def BookAt.loose{a:Ad}{C:Addr}{H:Hp}{A:BA}{w:Nat}{rows:List (List V)}{n:Nat}{cs:List Ch}{outs:Int->Bool}(B:BookAt a C H A w rows n cs outs){x:Addr}(h:A.F x):FB (H x):=by
 obtain⟨⟨_,⟨chs,e2,_⟩,e4,e5,_,⟨AE,e7,_⟩,⟨DS,e9,_⟩,_⟩,⟨_,⟨ts,e11,_⟩,_⟩,_⟩:=B;rcases h with z | z | z | z | z | z
 ·exact MY (z ▸ e2)
 ·exact MY (z ▸ e4)
 ·obtain⟨i,e⟩:=zcr z;exact MY (e5 i x e)
 ·exact X3 (z ▸ e7)
 ·exact OB (z ▸ e9)
 ·exact MY (z ▸ e11)
structure zsm(cs:List Ch)(outs:Int->Bool)(ns:List Int)(R:Int->Bool):Prop where
 all:∀ x∈ns,R x=true
 up:∀ (k:Nat) (c:Ch),cs[k]? =some c->outs k=false->R k=true->∀ y∈c.nd,R y=true
 only:∀ x,R x=true->x∈ns\/∃ (k:Nat) (c:Ch),cs[k]? =some c/\outs k=false/\R k=true/\x∈c.nd
end L2
namespace L2
def IY(nd:List Int)(there:Int->Bool):Option Int:=nd.find? λx=> !there x
structure Pass where
 out:List Nat
 held:List (Nat × Int)
 gone:Int->Bool
def DH(cs:List Ch)(outs:Int->Bool)(s:Pass)(k:Nat):Pass :=
 if outs k || s.gone k then s else
  match (cs[k]?).bind λc=>IY c.nd λx=>outs x || s.gone x with
  | none=>⟨s.out++[k],s.held,λx=>s.gone x || x ==(k:Int)⟩
  | some l=>⟨s.out,s.held++[(k,l)],s.gone⟩
def outcome(cs:List Ch)(outs taken:Int->Bool)(b:Nat):Pass:=(DD cs b).foldl (DH cs outs) ⟨[],[],taken⟩
def G3(cs:List Ch)(outs:Int->Bool)(r:List V)(k:Nat):List V :=
 if outs k then match cs[k]? with
  | some c=>r.set c.cell c.val
  | none=>r
 else r
def FQ(cs:List Ch)(outs:Int->Bool)(b:Nat)(row:List V):List V:=(DD cs b).foldl (G3 cs outs) row
def FH(cs:List Ch)(outs:Int->Bool)(b:Nat):Int->Bool:=λx=>outs x || (outcome cs outs (λ_=>false) b).out.any λ(k:Nat)=>x ==(k:Int)
def zcs{cs:List Ch}{outs:Int->Bool}(r:List V)(k:Nat):(G3 cs outs r k).length=r.length:=by
 unfold G3;split
 ·split
  ·rw[fq]
  ·rfl
 ·rfl
def X4{cs:List Ch}{outs:Int->Bool}:∀ (l:List Nat) (r:List V),(l.foldl (G3 cs outs) r).length=r.length
 | [],r=>rfl
 | k::l,r=>by rw[fe,X4 l,zcs]
def m6{cs:List Ch}{outs:Int->Bool}{b:Nat}{row:List V}:(FQ cs outs b row).length=row.length:=X4 _ _
def TX{cs:List Ch}{outs:Int->Bool}:∀ (l:List Nat) (s:Pass),(l.foldl (DH cs outs) s).out.length+(l.foldl (DH cs outs) s).held.length<=s.out.length+s.held.length+l.length
 | [],s=>by simp
 | k::l,s=>by
  rw[fe]
  have h:=TX (cs:=cs) (outs:=outs) l (DH cs outs s k)
  have h2:(DH cs outs s k).out.length+(DH cs outs s k).held.length<=s.out.length+s.held.length+1:=by
   unfold DH;split
   ·exact dq _
   ·split<;>simp<;>omega
  simp only[cf];omega
def m7{α β :Type}(f: β -> α -> β)(b: β){l:List α}{i:Nat}{x: α}(h:l[i]? =some x):(l.take (i+1)).foldl f b=f ((l.take i).foldl f b) x:=by
 obtain⟨hi,e⟩:=ι.mp h;rw[<-e,<-wb hi,h_]
 rfl
def m8(b:Nat):∀ l:List Ch,HJ l b=(ag l.length).filter λ(k:Nat)=>(l.reverse[k]?).any λc=>c.blk == b
 | []=>rfl
 | c::r=>by
  have ih:=m8 b r
  have e:(ag r.length).filter (λ(k:Nat)=>((c::r).reverse[k]?).any λc=>c.blk == b)=HJ r b:=by
   rw[ih];refine List.filter_congr λk hk=> ?_;rw[dh,am (by rw[ax];exact bp.mp hk)]
  have e2:(c::r).reverse[r.length]? =some c:=by
   rw[dh,ao (by rw[ax];exact ξ _)];simp
  rw[cf,cq,ja,e]
  show(if c.blk=b then HJ r b++[r.length]else HJ r b)=_;by_cases h:c.blk=b
  ·rw[if_pos h];simp[e2,h]
  ·rw[if_neg h];simp[e2,h]
def X5(cs:List Ch)(b:Nat):DD cs b=(ag cs.length).filter λ(k:Nat)=>(cs[k]?).any λc=>c.blk == b:=by
 have:=m8 b cs.reverse;rw[tj,ax]at this;exact this
def zct(cs:List Ch)(b:Nat):(DD cs b).Pairwise (· <·):=by
 rw[X5];exact pi.filter _
def X6{cs:List Ch}{b k:Nat}:k∈DD cs b↔∃ c,cs[k]? =some c/\c.blk=b:=by
 rw[X5,tq,bp];constructor
 ·rintro ⟨h,h2⟩;rw[ζ h]at h2 ⊢;exact⟨_,rfl,by simpa using h2⟩
 ·rintro ⟨c,e,rfl⟩;exact⟨(ι.mp e).1,by rw[e];simp⟩
def X7{cs:List Ch}{outs:Int->Bool}(s:Pass)(k:Nat):DH cs outs s k=s\/(outs k=false/\DH cs outs s k=⟨s.out++[k],s.held,λx=>s.gone x || x ==(k:Int)⟩)\/∃ l,DH cs outs s k=⟨s.out,s.held++[(k,l)],s.gone⟩:=by
 unfold DH;split
 ·exact .inl rfl
 ·rename_i hc;simp only[uc,not_or,Ei]at hc;split
  ·exact .inr (.inl ⟨hc.1,rfl⟩)
  ·exact .inr (.inr ⟨_,rfl⟩)
def m9{cs:List Ch}{outs:Int->Bool}:∀ (l:List Nat) (s:Pass),∃ l',(l.foldl (DH cs outs) s).out=s.out++l'/\l'.Sublist l/\(∀ k∈l',outs k=false)/\∀ x,(l.foldl (DH cs outs) s).gone x=(s.gone x || l'.any λ(k:Nat)=>x ==(k:Int))
 | [],s=>⟨[],by simp,.slnil,by simp,by simp⟩
 | k::l,s=>by
  rw[fe];obtain⟨l',h1,h2,h3,h4⟩:=m9 (cs:=cs) (outs:=outs) l (DH cs outs s k);rcases X7 (cs:=cs) (outs:=outs) s k with e | ⟨ho,e⟩ | ⟨l0,e⟩
  ·rw[e]at h1 h4 ⊢;exact⟨l',h1,h2.cons _,h3,h4⟩
  ·rw[e]at h1 h4 ⊢;refine⟨k::l',by rw[h1];simp,h2.cons_cons _,λx hx=> ?_,λx=> ?_⟩
   ·rcases ak.mp hx with rfl | hx
    ·exact ho
    ·exact h3 x hx
   ·rw[h4,jt,sv]
  ·rw[e]at h1 h4 ⊢;exact⟨l',h1,h2.cons _,h3,h4⟩
def X8{cs:List Ch}{outs:Int->Bool}{b:Nat}:(outcome cs outs (λ_=>false) b).out.Pairwise (· <·)/\(∀ k∈(outcome cs outs (λ_=>false) b).out,outs k=false/\k∈DD cs b)/\∀ x,(outcome cs outs (λ_=>false) b).gone x=(outcome cs outs (λ_=>false) b).out.any λ(k:Nat)=>x ==(k:Int):=by
 obtain⟨l',h1,h2,h3,h4⟩:=m9 (cs:=cs) (outs:=outs) (DD cs b) ⟨[],[],λ_=>false⟩
 have e:(outcome cs outs (λ_=>false) b).out=l':=by unfold outcome;rw[h1];rfl
 rw[e];exact⟨(zct cs b).sublist h2,λk hk=>⟨h3 k hk,h2.subset hk⟩,λx=>by unfold outcome;rw[h4];simp⟩
def ToldAt(H:Hp)(t ol hl:Addr)(out:List Nat)(held:List (Nat × Int)):Prop:=H t=some (.tup [.ref ol,.ref hl])/\H ol=some (.lst (out.map λ(k:Nat)=>V.int k))/\∃ hs:List Addr,H hl=some (.lst (hs.map V.ref))/\Paired (λx (p:Nat × Int)=>H x=some (.tup [.int p.1,.int p.2])) hs held
def ToldAt.same{H H':Hp}{t ol hl:Addr}{out:List Nat}{held:List (Nat × Int)}(h:ToldAt H t ol hl out held)(s:Same H H'):ToldAt H' t ol hl out held:=by
 obtain⟨h1,h2,hs,h3,h4⟩:=h;exact⟨s _ _ h1,s _ _ h2,hs,s _ _ h3,Paired.mapP h4 λx p e=>s _ _ e⟩
def TY(cs:List Ch)(r:List V)(k:Nat):List V:=match cs[k]? with
 | some c=>r.set c.cell c.val
 | none=>r
def TZ(cs:List Ch)(ks:List Nat)(row:List V):List V:=ks.foldl (TY cs) row
def zcu(cs:List Ch)(O:Int->Bool)(b:Nat)(row:List V):FQ cs O b row=TZ cs ((DD cs b).filter λ(k:Nat)=>O k) row:=by
 unfold FQ TZ;rw[List.foldl_filter]
 rfl
def JU(cs:List Ch):List Nat->Nat->Option Ch
 | [],_=>none
 | k::r,j=>match JU cs r j with
  | some c=>some c
  | none=>(cs[k]?).filter λc=>c.cell == j
def X9(cs:List Ch)(k:Nat)(r:List Nat)(j:Nat):JU cs (k::r) j=match JU cs r j with
  | some c=>some c
  | none=>(cs[k]?).filter λc=>c.cell == j:=rfl
def nA(cs:List Ch)(j:Nat):∀ (ks:List Nat) (row:List V),(TZ cs ks row)[j]? =(row[j]?).map λv=>((JU cs ks j).map (·.val)).getD v
 | [],row=>by
  show row[j]? =_;cases row[j]? <;>rfl
 | k::r,row=>by
  show(TZ cs r (TY cs row k))[j]? =_;rw[nA cs j r,X9];cases h:JU cs r j with
  | some c =>
   unfold TY;cases e:cs[k]? with
   | none=>rfl
   | some c0 =>
    dsimp only;rw[Cn];by_cases hj:c0.cell=j
    ·subst hj;rw[if_pos rfl];by_cases hl:c0.cell<row.length
     ·rw[if_pos hl,ζ hl];rfl
     ·rw[if_neg hl,bx (by exact bu hl)]
    ·rw[if_neg hj]
  | none =>
   unfold TY;cases e:cs[k]? with
   | none=>rfl
   | some c0 =>
    dsimp only;rw[Cn];by_cases hj:c0.cell=j
    ·subst hj;rw[if_pos rfl];by_cases hl:c0.cell<row.length
     ·rw[if_pos hl,ζ hl];simp[sx]
     ·rw[if_neg hl,bx (by exact bu hl)];rfl
    ·rw[if_neg hj]
     have:(sx (λ(c:Ch)=>c.cell == j) (some c0))=none:=by simp[sx,hj]
     rw[this]
def nD{cs:List Ch}{j:Nat}{c:Ch}:∀ {ks:List Nat},JU cs ks j=some c->∃ k∈ks,cs[k]? =some c/\c.cell=j/\(ks.Pairwise (· <·)->∀ k'∈ks,k<k'->∀ c',cs[k']? =some c'->c'.cell≠j)
 | [],h=>by cases h
 | k::r,h=>by
  rw[X9]at h;cases e:JU cs r j with
  | some c1 =>
   rw[e]at h;cases h;obtain⟨k1,h1,h2,h3,h4⟩:=nD e;refine⟨k1,χ _ h1,h2,h3,λhp k' hk' BH c' ec=> ?_⟩;obtain⟨p1,p2⟩:=iz.mp hp;rcases ak.mp hk' with rfl | hk'
   ·have:=p1 k1 h1;omega
   ·exact h4 p2 k' hk' BH c' ec
  | none =>
   rw[e]at h;dsimp only at h;cases ec:cs[k]? with
   | none=>rw[ec]at h;cases h
   | some c0 =>
    rw[ec]at h
    have hc:c0.cell=j/\c0=c:=by
     simp only[sx]at h;split at h
     ·rename_i hh;cases h;exact⟨by simpa using hh,rfl⟩
     ·cases h
    obtain⟨hc,rfl⟩:=hc;refine⟨k,aq ..,ec,hc,λhp k' hk' BH c' ec'=> ?_⟩;rcases ak.mp hk' with rfl | hk'
    ·omega
    ·exact lastAt_no e k' hk' c' ec'
where
 lastAt_no {cs:List Ch} {j:Nat}:∀ {ks:List Nat},JU cs ks j=none->∀ k∈ks,∀ c,cs[k]? =some c->c.cell≠j
  | [],_,k,hk=>by cases hk
  | k0::r,h,k,hk=>λc ec hj=>by
   rw[X9]at h;cases e:JU cs r j with
   | some c1=>rw[e]at h;cases h
   | none =>
    rw[e]at h;rcases ak.mp hk with rfl | hk
    ·rw[ec]at h;simp[sx,hj]at h
    ·exact lastAt_no e k hk c ec hj
def nH{i j:Int}:∀ {l:List Ch} {k:Nat} {c:Ch},l.reverse[k]? =some c->(c.blk:Int)=i->(c.cell:Int)=j->∃ j0 c0,MX l i j=some j0/\k<=j0/\l.reverse[j0]? =some c0/\(c0.blk:Int)=i/\(c0.cell:Int)=j
 | [],k,c,h,_,_=>by simp at h
 | c1::r,k,c,h,h1,h2=>by
  have hk:=(ι.mp h).1;rw[ax,cf]at hk;unfold MX;by_cases hp:(c1.blk:Int)=i/\(c1.cell:Int)=j
  ·rw[if_pos hp];refine x2 r.length c1 ⟨rfl,cy hk,?_,hp⟩;rw[dh,ao (by rw[ax];exact ξ _)];simp
  ·rw[if_neg hp]
   have BH:k<r.length:=by
    rcases gq k r.length with z | z
    ·exact z
    ·exfalso
     have:k=r.length:=nj (cy hk) z;subst this;rw[dh,ao (by rw[ax];exact ξ _)]at h;simp at h;subst h;exact hp ⟨h1,h2⟩
   rw[dh,am (by rw[ax];exact BH)]at h;refine u2 ?_ (nH h h1 h2);rintro j0 c0 ⟨e1,e2,e3,e4⟩;refine x2 j0 c0 ⟨e1,e2,?_,e4⟩
   have:=XZ e1;rw[dh,am (by rw[ax];exact this)];exact e3
def YA{cs:List Ch}{k:Nat}{c:Ch}(h:cs[k]? =some c):∃ j0 c0,ES cs c.blk c.cell=some j0/\k<=j0/\cs[j0]? =some c0/\c0.blk=c.blk/\c0.cell=c.cell:=by
 refine u2 ?_ (nH (l:=cs.reverse) (i:=c.blk) (j:=c.cell) (by rw[tj];exact h) rfl rfl);rintro j0 c0 ⟨e1,e2,e3,e4,e5⟩;rw[tj]at e3;exact x2 j0 c0 ⟨e1,e2,e3,bc e4,bc e5⟩
def T2(cs:List Ch)(outs:Int->Bool):Prop:=∀ (k:Nat) (c:Ch),cs[k]? =some c->outs k=true->∀ y∈c.nd,outs y=true
def zcv(cs:List Ch):Prop:=∀ (k:Nat) (c:Ch),cs[k]? =some c->∀ j,ES (cs.take k) c.blk c.cell=some j->(j:Int)∈c.nd
def nJ{cs:List Ch}{outs:Int->Bool}(cut:T2 cs outs)(chn:zcv cs):∀ (d k k':Nat) (c c':Ch),k'<=d->k<k'->cs[k]? =some c->cs[k']? =some c'->c.blk=c'.blk->c.cell=c'.cell->outs k'=true->outs k=true
 | 0,k,k',c,c',hd,BH,_,_,_,_,_=>by omega
 | d+1,k,k',c,c',hd,BH,ec,ec',hb,hc,ho=>by
  have et:(cs.take k')[k]? =some c:=by rw[zp,if_pos BH];exact ec
  refine u2 ?_ (YA et);rintro j0 c0 ⟨e1,e2,e3,e4,e5⟩
  have hj:j0<k':=by
   have:=(ι.mp e3).1;rw[dk]at this;omega
  rw[hb,hc]at e1
  have hin:=cut k' c' ec' ho _ (chn k' c' ec' j0 e1);by_cases z:j0=k
  ·rw[<-z];exact hin
  ·have e3':cs[j0]? =some c0:=by rw[zp,if_pos hj]at e3;exact e3
   exact nJ cut chn d k j0 c c0 (by omega) (by omega) ec e3' e4.symm e5.symm hin
def zcw{cs:List Ch}{outs:Int->Bool}(s:Pass)(k:Nat)(h:(DH cs outs s k).out=s.out++[k]):∀ c,cs[k]? =some c->∀ y∈c.nd,(outs y || s.gone y)=true:=λc ec y hy=>by
 unfold DH at h;split at h
 ·exact absurd h (by intro z;have:=congrArg vj z;simp at this)
 ·rw[ec]at h;simp only[rq]at h;split at h
  ·rename_i hn
   have:=jb.mp hn y hy;cases e:(outs y || s.gone y)with
   | true=>rfl
   | false =>
    have this:¬ (!(outs y || s.gone y))=true:=this;rw[e]at this;exact absurd rfl this
  ·exact absurd h (by intro z;have:=congrArg vj z;simp at this)
def nK{cs:List Ch}{outs:Int->Bool}:∀ (l:List Nat) (s:Pass),(∀ k∈s.out,∀ c,cs[k]? =some c->∀ y∈c.nd,(outs y || s.gone y)=true)->∀ k∈(l.foldl (DH cs outs) s).out,∀ c,cs[k]? =some c->∀ y∈c.nd,(outs y || (l.foldl (DH cs outs) s).gone y)=true
 | [],s,h=>h
 | k::l,s,h=>by
  rw[fe];refine nK l _ ?_;rcases X7 (cs:=cs) (outs:=outs) s k with e | ⟨ho,e⟩ | ⟨l0,e⟩
  ·rw[e];exact h
  ·have hl:=zcw (cs:=cs) (outs:=outs) s k (by rw[e]);rw[e];intro k' hk' c ec y hy;rcases bh.mp hk' with hk' | hk'
   ·have:=h k' hk' c ec y hy;rw[<-sv,this,uh]
   ·rw[ο.mp hk']at ec
    have:=hl c ec y hy;rw[<-sv,this,uh]
  ·rw[e];exact h
def zcx{cs:List Ch}{outs:Int->Bool}(cut:T2 cs outs)(b:Nat):T2 cs (FH cs outs b):=λk c ec ho y hy=>by
 obtain⟨_,_,hg⟩:=X8 (cs:=cs) (outs:=outs) (b:=b);unfold FH at ho ⊢;rw[uc]at ho;rcases ho with ho | ho
 ·rw[cut k c ec ho y hy,uh]
 ·obtain⟨k',hk',e⟩:=dv.mp ho
  have e:(k:Int)=k':=by simpa using e
  have e:k=k':=bc e;subst e
  have:=nK (cs:=cs) (outs:=outs) (DD cs b) ⟨[],[],λ_=>false⟩ (by simp) k hk' c ec y hy;rw[<-hg y];exact this
end L2
namespace L2
end L2
namespace L2
structure D1(K:η)(a:Ad):Prop where
 cl:Cls K (a "Layout")
 n1:NoAttr K (a "Layout") "name_blocks"
 n2:NoAttr K (a "Layout") "record_blocks"
 n3:NoAttr K (a "Layout") "piece_blocks"
 n4:NoAttr K (a "Layout") "width"
section
variable{n r c w:Int}
def lf(n r c w:Int):List (Str × V):=[("name_blocks",.int n),("record_blocks",.int r),("piece_blocks",.int c),("width",.int w)]
def T3:(lf n r c w).lookup ("name_blocks":Str)=some (V.int n):=by simp[lf]
def QI:(lf n r c w).lookup ("record_blocks":Str)=some (V.int r):=by
 simp[lf,ay,DE (a:="record_blocks") (b:="name_blocks") (by decide +kernel)]
def YB:(lf n r c w).lookup ("piece_blocks":Str)=some (V.int c):=by
 simp[lf,ay,DE (a:="piece_blocks") (b:="name_blocks") (by decide +kernel),DE (a:="piece_blocks") (b:="record_blocks") (by decide +kernel)]
def OC:(lf n r c w).lookup ("width":Str)=some (V.int w):=by
 simp[lf,ay,DE (a:="width") (b:="name_blocks") (by decide +kernel),DE (a:="width") (b:="record_blocks") (by decide +kernel),DE (a:="width") (b:="piece_blocks") (by decide +kernel)]
def CC{x:Str}(h:(GY x "name_blocks" || GY x "record_blocks" || GY x "piece_blocks" || GY x "width")=false:=by decide +kernel):(lf n r c w).lookup x=none:=by
 simp only[tf]at h;obtain⟨⟨⟨h1,h2⟩,h3⟩,h4⟩:=h;simp[lf,ay,DE h1,DE h2,DE h3,DE h4]
def zcy:BI "width" (.int w) (BI "piece_blocks" (.int c) (BI "record_blocks" (.int r) (BI "name_blocks" (.int n) [])))=lf n r c w:=by
 repeat (first | rw[OA] | rw[N9 (by decide +kernel)])
 rfl
end
structure LayAt(a:Ad)(H:Hp)(p:Addr)(n r c w:Nat):Prop where
 ob:∃ dx,H p=some (.ins (a "Layout") dx (lf n r c w))
 hn:n<=100
 hr:r<=100
 hc:c<=100
 h1:1<=w
 hw:w<=100
def LayAt.same{a:Ad}{H H':Hp}{p:Addr}{n r c w:Nat}(L:LayAt a H p n r c w)(s:Same H H'):LayAt a H' p n r c w:=by
 obtain⟨⟨dx,e⟩,z1,z2,z3,z4,z5⟩:=L;exact⟨⟨dx,s _ _ e⟩,z1,z2,z3,z4,z5⟩
def LayAt.sb{a:Ad}{F:Addr->Prop}{H H':Hp}{p:Addr}{n r c w:Nat}(L:LayAt a H p n r c w)(s:SameBut F H H')(f:¬ F p):LayAt a H' p n r c w:=by
 obtain⟨⟨dx,e⟩,z1,z2,z3,z4,z5⟩:=L;exact⟨⟨dx,s _ _ e f⟩,z1,z2,z3,z4,z5⟩
def YC(K:η)(a:Ad):Sp:=λvs H Q _=>∃ (p dx:Addr) (n r c w:Nat),vs=[.ref p,.int n,.int r,.int c,.int w]/\D1 K a/\H p=some (.ins (a "Layout") dx [])/\n<=100/\r<=100/\c<=100/\1<=w/\w<=100 ∧
 ∀ H',LayAt a H' p n r c w->SameBut (· =p) H H'->Q .non H'
def IA(x y:Int)(Q:VK)(H:Hp):Prop:=∀ t,H t=none->Q (.ref t) (upd H t (.tup [.int x,.int y]))
def MZ(K:η)(a:Ad):Sp:=λvs H Q _=>∃ (p:Addr) (n r c w k:Nat) (b:Int),vs=[.ref p,.int b,.int k]/\D1 K a/\LayAt a H p n r c w/\IA (b+k / w) (k % w) Q H
def IZ(K:η)(a:Ad):Sp:=λvs H Q _=>∃ (p:Addr) (n r c w k:Nat),vs=[.ref p,.int k]/\D1 K a/\LayAt a H p n r c w/\IA (0+k / w) (k % w) Q H
def JA(K:η)(a:Ad):Sp:=λvs H Q _=>∃ (p:Addr) (n r c w k:Nat),vs=[.ref p,.int k]/\D1 K a/\LayAt a H p n r c w/\IA (n+k / w) (k % w) Q H
def QJ(K:η)(a:Ad):Sp:=λvs H Q _=>∃ (p:Addr) (n r c w k:Nat),vs=[.ref p,.int k]/\D1 K a/\LayAt a H p n r c w/\IA (n+r+k / w) (k % w) Q H
def L4(K:η)(a:Ad):Sp:=λvs H Q _=>∃ (p:Addr) (n r c w k:Nat),vs=[.ref p,.int k]/\D1 K a/\LayAt a H p n r c w/\IA (n+r+c+k / w) (k % w) Q H
def JV(K:η)(a:Ad):Sp:=λvs H Q _=>∃ (p:Addr) (n r c w k:Nat),vs=[.ref p,.int k]/\D1 K a/\LayAt a H p n r c w/\IA (n+r+c+r+k / w) (k % w) Q H
def QK(K:η)(a:Ad):Sp:=λvs H Q _=>∃ (p:Addr) (n r c w:Nat),vs=[.ref p]/\D1 K a/\LayAt a H p n r c w/\Q (.int (n+r+c)) H
def QL(K:η)(a:Ad):Sp:=λvs H Q _=>∃ (p:Addr) (n r c w:Nat),vs=[.ref p]/\D1 K a/\LayAt a H p n r c w/\Q (.int (n+r+c+r+c)) H
def JW(K:η)(a:Ad):Sp:=λvs H Q _=>∃ (p:Addr) (n r c w:Nat),vs=[.ref p]/\D1 K a/\LayAt a H p n r c w/\∀ t,H t=none->Q (.ref t) (upd H t (.tup [.int (n * w),.int (r * w),.int (c * w)]))
def YD(K:η)(a:Ad):Sp:=λvs H Q _=>∃ (p:Addr) (n r c w:Nat),vs=[.ref p]/\D1 K a/\FG K a/\LayAt a H p n r c w /\
 ∀ x cl H',H x=none->H cl=none->PlankAt a H' x cl w (ah (n+r+c+r+c) (ah w .non)) 0->Same H H'->Q (.ref x) H'
end L2
namespace L2
inductive CV where
 | no
 | nm (z:Str) (k:Nat)
 | mk (i:Nat)
 | rc (m:Nat) (ps:List Nat)
 | tx (z:Str)
abbrev Md:=Nat->Nat->CV
def Md.put(M:Md)(kind k:Nat)(x:CV):Md:=λi j=>if i=kind/\j=k then x else M i j
structure AC where
 kind:Nat
 k:Nat
 x:CV
 nd:List Nat
def sh(M0:Md)(C:Nat->Bool):List AC->Md
 | []=>M0
 | a::r=>if C r.length then(sh M0 C r).put a.kind a.k a.x else sh M0 C r
abbrev C2(M0:Md)(as:List AC):Md:=sh M0 (λ_=>true) as
def ET(kind k:Nat):List AC->Option Nat
 | []=>none
 | a::r=>if a.kind=kind/\a.k=k then some r.length else ET kind k r
def HK(C:Nat->Bool):List AC->Prop
 | []=>True
 | a::r=>HK C r/\(C r.length=true->(∀ y∈a.nd,C y=true)/\∀ j,ET a.kind a.k r=some j->C j=true)
section
variable{M0 S:Md}{C:Nat->Bool}{as:List AC}{kind k m0:Nat}{x:CV}
def DI:S.put kind k x kind k=x:=if_pos ⟨rfl,rfl⟩
def FC{i j:Nat}(h:i≠kind):S.put kind k x i j=S i j:=if_neg λz=>h z.1
def EM{i j:Nat}(h:j≠k):S.put kind k x i j=S i j:=if_neg λz=>h z.2
def zcz(h:∀ j,ET kind k as=some j->C j=true):sh M0 C as kind k=C2 M0 as kind k:=by
 induction as with
 | nil=>rfl
 | cons a r ih =>
  unfold ET at h;simp only[sh,if_true];by_cases e:a.kind=kind/\a.k=k
  ·rw[if_pos e]at h;obtain⟨rfl,rfl⟩:=e;rw[h _ rfl];simp only[if_true];rw[DI,DI]
  ·rw[if_neg e]at h
   have:=ih h
   have e':¬ (kind=a.kind/\k=a.k):=λz=>e ⟨z.1.symm,z.2.symm⟩;unfold Md.put;rw[if_neg e'];by_cases c:C r.length=true
   ·rw[if_pos c,if_neg e'];exact this
   ·rw[if_neg c];exact this
def K0{a:AC}(h:HK C (a::as))(c:C as.length=true):sh M0 C as a.kind a.k=C2 M0 as a.kind a.k:=zcz (h.2 c).2
def E3{a:AC}:C2 M0 (a::as)=(C2 M0 as).put a.kind a.k a.x:=rfl
def C8{a:AC}(c:C as.length=true):sh M0 C (a::as)=(sh M0 C as).put a.kind a.k a.x:=if_pos c
def EF{a:AC}(c:¬ C as.length=true):sh M0 C (a::as)=sh M0 C as:=if_neg c
def G4:CV->Nat->Bool
 | .nm _ r',r=>r' == r
 | _,_=>false
def ld(m0:Nat)(S:Md)(r:Nat):Nat:=(ag m0).countP λk=>G4 (S 0 k) r
def T5{r:Nat}(h:kind≠0):ld m0 (S.put kind k x) r=ld m0 S r:=by
 unfold ld
 congr 1
 funext j;rw[FC h.symm]
def YE{r:Nat}:∀ {m0:Nat},k<m0->ld m0 (S.put 0 k x) r+(if G4 (S 0 k) r then 1 else 0)=ld m0 S r+(if G4 x r then 1 else 0):=by
 intro m0;unfold ld
 induction m0 with
 | zero=>intro h;exact nZ h
 | succ n ih =>
  intro h;rw[cq,zq,zq];simp only[List.countP_cons,List.countP_nil,Nat.zero_add];by_cases e:k=n
  ·subst e
   have:(ag k).countP (λj=>G4 ((S.put 0 k x) 0 j) r)=(ag k).countP (λj=>G4 (S 0 j) r):=List.countP_congr λj hj=>by
    rw[EM (by have:=bp.mp hj;exact aw this)]
   rw[this,DI];omega
  ·have:=ih (gj (cy h) e);rw[EM (λz=>e z.symm)];omega
structure Snd(m0:Nat)(S:Md):Prop where
 nl:∀ k z r,k<m0->S 0 k=.nm z r->∃ m ps,S 3 r=.rc m ps
 ct:∀ r m ps,S 3 r=.rc m ps->ld m0 S r<=m
 mr:∀ r m ps,S 3 r=.rc m ps->S 1 r=.mk 1
 nd:∀ r m ps,S 3 r=.rc m ps->ps.Nodup
 pm:∀ r m ps,S 3 r=.rc m ps->∀ p∈ps,S 2 p=.mk 1/\∃ t,S 4 p=.tx t
 dj:∀ r r' m m' ps ps',r≠r'->S 3 r=.rc m ps->S 3 r'=.rc m' ps'->∀ p∈ps,p∉ps'
 un:∀ k k' z r r',k<m0->k'<m0->S 0 k=.nm z r->S 0 k'=.nm z r'->k=k'
def Snd.rmark(I:Snd m0 S){r i:Nat}(h:i=1\/∀ m ps,S 3 r≠.rc m ps):Snd m0 (S.put 1 r (.mk i)):=by
 refine⟨I.nl,λr' m ps e=>I.ct r' m ps e,λr' m ps e=> ?_,I.nd,I.pm,I.dj,I.un⟩
 have e:S 3 r'=.rc m ps:=e;by_cases z:r'=r
 ·subst z;rw[DI];rcases h with h | h
  ·rw[h]
  ·exact absurd e (h m ps)
 ·rw[EM z];exact I.mr r' m ps e
def Snd.pmark(I:Snd m0 S){p i:Nat}(h:i=1\/∀ r m ps,S 3 r=.rc m ps->p∉ps):Snd m0 (S.put 2 p (.mk i)):=by
 refine⟨I.nl,λr' m ps e=>I.ct r' m ps e,I.mr,I.nd,λr' m ps e q hq=>⟨?_,(I.pm r' m ps e q hq).2⟩,I.dj,I.un⟩
 have e:S 3 r'=.rc m ps:=e;by_cases z:q=p
 ·subst z;rw[DI];rcases h with h | h
  ·rw[h]
  ·exact absurd hq (h r' m ps e)
 ·rw[EM z];exact(I.pm r' m ps e q hq).1
def Snd.text(I:Snd m0 S){p:Nat}{t:Str}:Snd m0 (S.put 4 p (.tx t)):=by
 refine⟨I.nl,λr' m ps e=>I.ct r' m ps e,I.mr,I.nd,λr' m ps e q hq=>⟨(I.pm r' m ps e q hq).1,?_⟩,I.dj,I.un⟩;by_cases z:q=p
 ·subst z;exact⟨t,DI⟩
 ·rw[EM z];exact(I.pm r' m ps e q hq).2
def Snd.gone(I:Snd m0 S)(hk:k<m0):Snd m0 (S.put 0 k .no):=by
 have at':∀ {j z r},(S.put 0 k .no) 0 j=.nm z r->S 0 j=.nm z r:=λ{j z r} e=>by
  by_cases h:j=k
  ·subst h;rw[DI]at e;cases e
  ·rw[EM h]at e;exact e
 refine⟨λj z r hj e=>I.nl j z r hj (at' e),λr m ps e=> ?_,I.mr,I.nd,I.pm,I.dj,λj j' z r r' h h' e e'=>I.un j j' z r r' h h' (at' e) (at' e')⟩
 have l:=YE (S:=S) (x:=.no) (r:=r) hk
 have c:=I.ct r m ps e;rw[show G4 .no r=false from rfl]at l;simp only[iy,if_false]at l;omega
def Snd.fill(I:Snd m0 S)(hk:k<m0){z:Str}{r m:Nat}{ps:List Nat}(h3:S 3 r=.rc m ps)(hl:ld m0 S r+1<=m)(hz:∀ j r',j<m0->S 0 j≠.nm z r')(h0:∀ z r,S 0 k≠.nm z r):Snd m0 (S.put 0 k (.nm z r)):=by
 have at':∀ {j y q},(S.put 0 k (.nm z r)) 0 j=.nm y q->(j=k/\y=z/\q=r)\/(j≠k/\S 0 j=.nm y q):=λ{j y q} e=>by
  by_cases h:j=k
  ·subst h;rw[DI]at e;cases e;exact .inl ⟨rfl,rfl,rfl⟩
  ·rw[EM h]at e;exact .inr ⟨h,e⟩
 refine⟨λj y q hj e=> ?_,λq m' ps' e=> ?_,I.mr,I.nd,I.pm,I.dj,λj j' y q q' h h' e e'=> ?_⟩
 ·rcases at' e with⟨_,_,rfl⟩ | ⟨_,e⟩
  ·exact x2 m ps h3
  ·exact I.nl j y q hj e
 ·have e:S 3 q=.rc m' ps':=e
  have l:=YE (S:=S) (x:=.nm z r) (r:=q) hk
  have c:=I.ct q m' ps' e
  have n0:G4 (S 0 k) q=false:=by
   cases e0:S 0 k with
   | nm y q'=>exact absurd e0 (h0 y q')
   | _=>rfl
  rw[n0]at l;simp only[G4]at l;by_cases z:r=q
  ·subst z;rw[e]at h3;cases h3;simp at l;exact l ▸ hl
  ·simp[z]at l;exact l ▸ c
 ·rcases at' e with⟨e1,e2,_⟩ | ⟨e1,e2⟩<;>rcases at' e' with⟨f1,f2,_⟩ | ⟨f1,f2⟩
  ·rw[e1,f1]
  ·subst e2;exact absurd f2 (hz _ _ h')
  ·subst f2;exact absurd e2 (hz _ _ h)
  ·exact I.un j j' y q q' h h' e2 f2
def Snd.recd(I:Snd m0 S){r m':Nat}{ps':List Nat}(hl:ld m0 S r<=m')(hm:S 1 r=.mk 1)(hn:ps'.Nodup)(hp:∀ p∈ps',(S 2 p=.mk 1/\∃ t,S 4 p=.tx t)/\∀ q m ps,q≠r->S 3 q=.rc m ps->p∉ps):Snd m0 (S.put 3 r (.rc m' ps')):=by
 have at':∀ {q m ps},(S.put 3 r (.rc m' ps')) 3 q=.rc m ps->(q=r/\m=m'/\ps=ps')\/(q≠r/\S 3 q=.rc m ps):=λ{q m ps} e=>by
  by_cases h:q=r
  ·subst h;rw[DI]at e;cases e;exact .inl ⟨rfl,rfl,rfl⟩
  ·rw[EM h]at e;exact .inr ⟨h,e⟩
 refine⟨λj z q hj e=> ?_,λq m ps e=> ?_,λq m ps e=> ?_,λq m ps e=> ?_,λq m ps e p h=> ?_,λq q' m m1 ps ps1 ne e e' p h=> ?_,I.un⟩
 ·by_cases h:q=r
  ·subst h;exact x2 m' ps' DI
  ·rw[EM h];exact I.nl j z q hj e
 ·rw[T5 (by decide)];rcases at' e with⟨rfl,rfl,_⟩ | ⟨_,e⟩
  ·exact hl
  ·exact I.ct q m ps e
 ·rcases at' e with⟨rfl,_,_⟩ | ⟨_,e⟩
  ·exact hm
  ·exact I.mr q m ps e
 ·rcases at' e with⟨_,_,rfl⟩ | ⟨_,e⟩
  ·exact hn
  ·exact I.nd q m ps e
 ·rcases at' e with⟨_,_,rfl⟩ | ⟨_,e⟩
  ·exact(hp p h).1
  ·exact I.pm q m ps e p h
 ·rcases at' e with⟨e1,_,rfl⟩ | ⟨e1,e2⟩<;>rcases at' e' with⟨f1,_,rfl⟩ | ⟨f1,f2⟩
  ·exact absurd (e1.trans f1.symm) ne
  ·exact(hp p h).2 q' m1 ps1 (λz=>ne (e1.trans z.symm)) f2
  ·exact λz=>(hp p z).2 q m ps (λy=>ne (y.trans f1.symm)) e2 h
  ·exact I.dj q q' m m1 ps ps1 ne e2 f2 p h
def Snd.count(I:Snd m0 S){r m m':Nat}{ps:List Nat}(h3:S 3 r=.rc m ps)(hl:ld m0 S r<=m'):Snd m0 (S.put 3 r (.rc m' ps)) :=
 I.recd hl (I.mr r m ps h3) (I.nd r m ps h3) λp hp=>⟨I.pm r m ps h3 p hp,λq m1 ps1 ne e=>I.dj r q m m1 ps ps1 ne.symm h3 e p hp⟩
def Snd.less(I:Snd m0 S){r m:Nat}{ps ps':List Nat}(h3:S 3 r=.rc m ps)(hs:ps'.Sublist ps):Snd m0 (S.put 3 r (.rc m ps')) :=
 I.recd (I.ct r m ps h3) (I.mr r m ps h3) ((I.nd r m ps h3).sublist hs) λp hp=>⟨I.pm r m ps h3 p (hs.subset hp),λq m1 ps1 ne e=>I.dj r q m m1 ps ps1 ne.symm h3 e p (hs.subset hp)⟩
def Snd.more(I:Snd m0 S){r m p:Nat}{ps:List Nat}{t:Str}(h3:S 3 r=.rc m ps)(h2:S 2 p=.mk 1)(h4:S 4 p=.tx t)(hu:∀ q m ps,S 3 q=.rc m ps->p∉ps):Snd m0 (S.put 3 r (.rc m (ps++[p]))):=by
 refine I.recd (I.ct r m ps h3) (I.mr r m ps h3) (vp.mpr ⟨I.nd r m ps h3,by simp,λx hx y hy e=> ?_⟩) λy hy=> ?_
 ·rw[ο]at hy;subst hy;subst e;exact hu r m ps h3 hx
 ·rcases bh.mp hy with hy | hy
  ·exact⟨I.pm r m ps h3 y hy,λq m1 ps1 ne e=>I.dj r q m m1 ps ps1 ne.symm h3 e y hy⟩
  ·rw[ο.mp hy];exact⟨⟨h2,t,h4⟩,λq m1 ps1 _ e=>hu q m1 ps1 e⟩
def Snd.drop(I:Snd m0 S){r:Nat}(hl:ld m0 S r=0):Snd m0 (S.put 3 r .no):=by
 have at':∀ {q m ps},(S.put 3 r .no) 3 q=.rc m ps->S 3 q=.rc m ps:=λ{q m ps} e=>by
  by_cases h:q=r
  ·subst h;rw[DI]at e;cases e
  ·rw[EM h]at e;exact e
 refine⟨λj z q hj e=> ?_,λq m ps e=> ?_,λq m ps e=>I.mr q m ps (at' e),λq m ps e=>I.nd q m ps (at' e),λq m ps e=>I.pm q m ps (at' e),λq q' m m1 ps ps1 ne e e'=>I.dj q q' m m1 ps ps1 ne (at' e) (at' e'),I.un⟩
 ·have e:S 0 j=.nm z q:=e;by_cases h:q=r
  ·subst h;exfalso
   have:0<ld m0 S q:=List.countP_pos_iff.mpr ⟨j,bp.mpr hj,by have e:S 0 j=.nm z q:=e;simp[e,G4]⟩;exact absurd (hl ▸ this) (by decide)
  ·rw[EM h];exact I.nl j z q hj e
 ·rw[T5 (by decide)];exact I.ct q m ps (at' e)
structure Hist(m0:Nat)(M0:Md)(as:List AC)(t o:Str->Option Nat):Prop where
 sd:∀ C,HK C as->Snd m0 (sh M0 C as)
 k1:∀ z k r,k<m0->C2 M0 as 0 k=.nm z r->ET 0 k as=o z
 k2:∀ z,(∀ k r,k<m0->C2 M0 as 0 k≠.nm z r)->t z=o z
 k3:∀ C z,HK C as->(∀ j,o z=some j->C j=true)->∀ k r,k<m0->(sh M0 C as 0 k=.nm z r↔C2 M0 as 0 k=.nm z r)
def nQ:∀ as:List AC,HK (λ_=>true) as
 | []=>trivial
 | _::r=>⟨nQ r,λ_=>⟨λ_ _=>rfl,λ_ _=>rfl⟩⟩
variable{t o:Str->Option Nat}
def Hist.now(I:Hist m0 M0 as t o):Snd m0 (C2 M0 as):=I.sd _ (nQ as)
def Hist.step(I:Hist m0 M0 as t o){a:AC}(ha:a.kind≠0)(h:∀ C,HK C (a::as)->C as.length=true->Snd m0 ((sh M0 C as).put a.kind a.k a.x)):Hist m0 M0 (a::as) t o:=by
 have s0:∀ (C:Nat->Bool) (k:Nat),sh M0 C (a::as) 0 k=sh M0 C as 0 k:=λC k=>by
  by_cases c:C as.length=true
  ·rw[C8 c,FC ha.symm]
  ·rw[EF c]
 have s1:∀ k:Nat,C2 M0 (a::as) 0 k=C2 M0 as 0 k:=s0 _;refine⟨λC hC=> ?_,λz k r hk e=> ?_,λz e=>I.k2 z λk r hk=>by rw[<-s1];exact e k r hk,λC z hC ho k r hk=> ?_⟩
 ·by_cases c:C as.length=true
  ·rw[C8 c];exact h C hC c
  ·rw[EF c];exact I.sd C hC.1
 ·rw[s1]at e;unfold ET;rw[if_neg λz=>ha z.1];exact I.k1 z k r hk e
 ·rw[s0,s1];exact I.k3 C z hC.1 ho k r hk
def E4(f:Str->Option Nat)(z:Str)(j:Nat):Str->Option Nat:=λy=>if y=z then some j else f y
def Hist.fill(I:Hist m0 M0 as t o){z:Str}{k r:Nat}{nd:List Nat}(hk:k<m0)(h0:C2 M0 as 0 k=.no)(hz:∀ j r,j<m0->C2 M0 as 0 j≠.nm z r)(ht:∀ j,t z=some j->j∈nd)
  (h:∀ C,HK C (⟨0,k,.nm z r,nd⟩::as)->C as.length=true->∃ m ps,sh M0 C as 3 r=.rc m ps/\ld m0 (sh M0 C as) r+1<=m):Hist m0 M0 (⟨0,k,.nm z r,nd⟩::as) t (E4 o z as.length):=by
 have to:=I.k2 z hz
 have hnk:∀ {j y q},j<m0->C2 M0 as 0 j=.nm y q->j≠k/\y≠z:=λ{j y q} hj e=>⟨λe'=>(by rw[e',h0]at e;cases e),λe'=>hz j q hj (e' ▸ e)⟩
 have free:∀ C,HK C (⟨0,k,.nm z r,nd⟩::as)->C as.length=true->sh M0 C as 0 k=.no/\∀ j q,j<m0->sh M0 C as 0 j≠.nm z q:=λC hC c=>by
  refine⟨by rw[K0 (a:=⟨0,k,.nm z r,nd⟩) hC c];exact h0,λj q hj e=> ?_⟩;exact hz j q hj ((I.k3 C z hC.1 (λi ei=>(hC.2 c).1 i (ht i (by rw[to,ei]))) j q hj).mp e)
 refine⟨λC hC=> ?_,λy j q hj e=> ?_,λy e=> ?_,λC y hC ho j q hj=> ?_⟩
 ·by_cases c:C as.length=true
  ·refine u2 ?_ (h C hC c);rintro m ps ⟨h3,hl⟩;obtain⟨f1,f2⟩:=free C hC c;rw[C8 c];exact(I.sd C hC.1).fill hk h3 hl f2 λz r e=>by rw[f1]at e;cases e
  ·rw[EF c];exact I.sd C hC.1
 ·rw[E3]at e;unfold ET;by_cases z':j=k
  ·subst z';rw[DI]at e;cases e;rw[if_pos ⟨rfl,rfl⟩];exact(if_pos rfl).symm
  ·rw[EM z']at e;rw[if_neg λw=>z' w.2.symm];unfold E4;rw[if_neg (hnk hj e).2];exact I.k1 y j q hj e
 ·have ny:y≠z:=λw=>by
   subst w;exact e k r hk (by rw[E3,DI])
  unfold E4;rw[if_neg ny];refine I.k2 y λj q hj e'=>e j q hj ?_;rw[E3,EM (hnk hj e').1];exact e'
 ·rw[E3];by_cases c:C as.length=true
  ·obtain⟨f1,f2⟩:=free C hC c;rw[C8 c];by_cases z':j=k
   ·subst z';rw[DI,DI]
   ·rw[EM z',EM z'];by_cases w:y=z
    ·subst w;exact⟨λe=>absurd e (f2 j q hj),λe=>absurd e (hz j q hj)⟩
    ·unfold E4 at ho;rw[if_neg w]at ho;exact I.k3 C y hC.1 ho j q hj
  ·rw[EF c];unfold E4 at ho;by_cases w:y=z
   ·subst w;rw[if_pos rfl]at ho;exact absurd (ho _ rfl) c
   ·rw[if_neg w]at ho
    have k3:=I.k3 C y hC.1 ho j q hj;by_cases z':j=k
    ·subst z';rw[DI];refine⟨λe=> ?_,λe=>absurd (by cases e;rfl) w⟩
     have:=k3.mp e;rw[h0]at this;cases this
    ·rw[EM z'];exact k3
def Hist.gone(I:Hist m0 M0 as t o){z:Str}{k r:Nat}{nd:List Nat}(hk:k<m0)(h0:C2 M0 as 0 k=.nm z r):Hist m0 M0 (⟨0,k,.no,nd⟩::as) (E4 t z as.length) (E4 o z as.length):=by
 have un:=I.now.un
 have k1:=I.k1 z k r hk h0
 have only:∀ {j q},j<m0->C2 M0 as 0 j=.nm z q->j=k:=λ{j q} hj e=>un j k z q r hj hk e h0;refine⟨λC hC=> ?_,λy j q hj e=> ?_,λy e=> ?_,λC y hC ho j q hj=> ?_⟩
 ·by_cases c:C as.length=true
  ·rw[C8 c];exact(I.sd C hC.1).gone hk
  ·rw[EF c];exact I.sd C hC.1
 ·rw[E3]at e;by_cases z':j=k
  ·subst z';rw[DI]at e;cases e
  ·rw[EM z']at e;unfold ET E4;rw[if_neg λw=>z' w.2.symm,if_neg λw=>z' (only hj (w ▸ e))];exact I.k1 y j q hj e
 ·unfold E4;by_cases w:y=z
  ·rw[if_pos w,if_pos w]
  ·rw[if_neg w,if_neg w];refine I.k2 y λj q hj e'=>e j q hj ?_
   have:j≠k:=λz'=>by rw[z',h0]at e';cases e';exact w rfl
   rw[E3,EM this];exact e'
 ·rw[E3];unfold E4 at ho;by_cases c:C as.length=true
  ·rw[C8 c]
   have ck:sh M0 C as 0 k=.nm z r:=by rw[K0 (a:=⟨0,k,.no,nd⟩) hC c];exact h0
   by_cases z':j=k
   ·subst z';rw[DI,DI]
   ·rw[EM z',EM z'];by_cases w:y=z
    ·subst w;exact⟨λe=>absurd ((I.sd C hC.1).un j k y q r hj hk e ck) z',λe=>absurd (only hj e) z'⟩
    ·rw[if_neg w]at ho;exact I.k3 C y hC.1 ho j q hj
  ·rw[EF c];by_cases w:y=z
   ·subst w;rw[if_pos rfl]at ho;exact absurd (ho _ rfl) c
   ·rw[if_neg w]at ho
    have k3:=I.k3 C y hC.1 ho j q hj;by_cases z':j=k
    ·subst z';rw[DI];refine⟨λe=> ?_,λe=>by cases e⟩
     have:=k3.mp e;rw[h0]at this;cases this;exact absurd rfl w
    ·rw[EM z'];exact k3
def Snd.ld0(I:Snd m0 S){r:Nat}(h:∀ m ps,S 3 r≠.rc m ps):ld m0 S r=0:=by
 refine List.countP_eq_zero.mpr λk hk e=> ?_;cases e0:S 0 k with
 | nm z q =>
  simp only[e0,G4,beq_iff_eq]at e;subst e;refine u2 ?_ (I.nl k z q (bp.mp hk) e0);rintro m ps e;exact h m ps e
 | _=>simp[e0,G4]at e
def Hist.make(I:Hist m0 M0 as t o){z:Str}{k r:Nat}{nd:List Nat}(hk:k<m0)(h0:C2 M0 as 0 k=.no)(hz:∀ j r,j<m0->C2 M0 as 0 j≠.nm z r)(h1:C2 M0 as 1 r≠.mk 1)(hn:as.length+1∈nd)(ht:∀ j,t z=some j->j∈nd) :
  Hist m0 M0 (⟨0,k,.nm z r,nd⟩::⟨3,r,.rc 1 [],[as.length]⟩::⟨1,r,.mk 1,[]⟩::as) t (E4 o z (as.length+2)):=by
 have I1:=I.step (a:=⟨1,r,.mk 1,[]⟩) (by simp) λC hC _=>(I.sd C hC.1).rmark (.inl rfl)
 have no:∀ C,HK C (⟨3,r,.rc 1 [],[as.length]⟩::⟨1,r,.mk 1,[]⟩::as)->C (as.length+1)=true->ld m0 (sh M0 C (⟨1,r,.mk 1,[]⟩::as)) r=0:=λC hC c=>by
  refine(I1.sd C hC.1).ld0 λm ps e=> ?_;rw[K0 (a:=⟨3,r,.rc 1 [],[as.length]⟩) hC c,E3,FC (by simp)]at e;exact h1 (I.now.mr r m ps e)
 have I2:=I1.step (a:=⟨3,r,.rc 1 [],[as.length]⟩) (by simp) λC hC c=>by
  have cL:C as.length=true:=(hC.2 c).1 _ (by simp);refine(I1.sd C hC.1).recd (by rw[no C hC c];decide) ?_ pb (by simp);rw[C8 cL,DI]
 refine I2.fill hk (by rw[E3,FC (by simp),E3,FC (by simp)];exact h0) (λj q hj=>by rw[E3,FC (by simp),E3,FC (by simp)];exact hz j q hj) ht λC hC c=> ?_
 have cL:C (as.length+1)=true:=(hC.2 c).1 _ hn;refine x2 1 [] ⟨by rw[C8 cL,DI],?_⟩;rw[C8 cL,T5 (by simp),no C hC.1 cL];exact ξ 1
def Hist.link(I:Hist m0 M0 as t o){z:Str}{k r m:Nat}{ps nd:List Nat}(hk:k<m0)(h0:C2 M0 as 0 k=.no)(hz:∀ j r,j<m0->C2 M0 as 0 j≠.nm z r)(h3:C2 M0 as 3 r=.rc m ps)(hn:as.length∈nd)(ht:∀ j,t z=some j->j∈nd) :
  Hist m0 M0 (⟨0,k,.nm z r,nd⟩::⟨3,r,.rc (m+1) ps,[]⟩::as) t (E4 o z (as.length+1)):=by
 have a3:∀ C,HK C (⟨3,r,.rc (m+1) ps,[]⟩::as)->C as.length=true->sh M0 C as 3 r=.rc m ps:=λC hC c=>by
  rw[K0 (a:=⟨3,r,.rc (m+1) ps,[]⟩) hC c];exact h3
 have I1:=I.step (a:=⟨3,r,.rc (m+1) ps,[]⟩) (by simp) λC hC c=>(I.sd C hC.1).count (a3 C hC c) (av ((I.sd C hC.1).ct r m ps (a3 C hC c)));refine I1.fill hk (by rw[E3,FC (by simp)];exact h0) (λj q hj=>by rw[E3,FC (by simp)];exact hz j q hj) ht λC hC c=> ?_
 have cL:C as.length=true:=(hC.2 c).1 _ hn;refine x2 (m+1) ps ⟨by rw[C8 cL,DI],?_⟩;rw[C8 cL,T5 (by simp)];exact l8 ((I.sd C hC.1.1).ct r m ps (a3 C hC.1 cL))
def Hist.fewer(I:Hist m0 M0 as t o){z:Str}{k r m:Nat}{ps nd:List Nat}{b:AC}(hk:k<m0)(h0:C2 M0 as 0 k=.nm z r)(h3:C2 M0 as 3 r=.rc m ps)(hb:b.kind=3/\b.k=r/\as.length∈b.nd){C:Nat->Bool}(hC:HK C (b::⟨0,k,.no,nd⟩::as))(c:C (as.length+1)=true) :
  sh M0 C (⟨0,k,.no,nd⟩::as) 3 r=.rc m ps/\ld m0 (sh M0 C (⟨0,k,.no,nd⟩::as)) r+1<=m/\sh M0 C as 3 r=.rc m ps:=by
 obtain⟨b1,b2,b3⟩:=hb
 have cL:C as.length=true:=(hC.2 c).1 _ b3
 have e3:sh M0 C (⟨0,k,.no,nd⟩::as) 3 r=.rc m ps:=by
  have:=K0 (M0:=M0) hC c;rw[b1,b2]at this;rw[this,E3,FC (by simp)];exact h3
 have f3:sh M0 C as 3 r=.rc m ps:=by
  rw[C8 cL,FC (by simp)]at e3;exact e3
 have f0:sh M0 C as 0 k=.nm z r:=by rw[K0 (a:=⟨0,k,.no,nd⟩) hC.1 cL];exact h0
 refine⟨e3,?_,f3⟩
 have l:=YE (S:=sh M0 C as) (x:=.no) (r:=r) hk;rw[f0,show G4 (.nm z r) r=true from by simp[G4],show G4 .no r=false from rfl]at l;simp only[iy,if_false,if_true]at l
 have c1:=(I.sd C hC.1.1).ct r m ps f3
 have e:ld m0 (sh M0 C (⟨0,k,.no,nd⟩::as)) r=ld m0 ((sh M0 C as).put 0 k .no) r:=by rw[C8 cL]
 exact e ▸ l ▸ c1
def Hist.unlead(I:Hist m0 M0 as t o){z:Str}{k r m:Nat}{ps nd:List Nat}(hk:k<m0)(h0:C2 M0 as 0 k=.nm z r)(h3:C2 M0 as 3 r=.rc (m+1) ps) :
  Hist m0 M0 (⟨3,r,.rc m ps,[as.length]⟩::⟨0,k,.no,nd⟩::as) (E4 t z as.length) (E4 o z as.length):=by
 have I1:=I.gone (nd:=nd) hk h0;exact I1.step (a:=⟨3,r,.rc m ps,[as.length]⟩) (by simp) λC hC c=>by
  obtain⟨e1,e2,_⟩:=I.fewer hk h0 h3 ⟨rfl,rfl,by simp⟩ hC c;exact(I1.sd C hC.1).count e1 (xm e2)
def Hist.unmark{d:Nat}:∀ {ps:List Nat} {bs:List AC},Hist m0 M0 bs t o->(∀ C,HK C bs->C d=true->∀ q m ps',sh M0 C bs 3 q=.rc m ps'->∀ p∈ps,p∉ps')->Hist m0 M0 ((ps.map λp=>(⟨2,p,.mk 0,[d]⟩:AC)).reverse++bs) t o
 | [],bs,I,_=>I
 | p::ps,bs,I,h=>by
  have I1:=I.step (a:=⟨2,p,.mk 0,[d]⟩) (by simp) λC hC c=>(I.sd C hC.1).pmark (.inr λr m ps' e=>h C hC.1 ((hC.2 c).1 d (by simp)) r m ps' e p aq)
  have:=Hist.unmark (ps:=ps) I1 λC hC cd q m ps' e p' hp'=>by
   have e':sh M0 C bs 3 q=.rc m ps':=by
    by_cases c:C bs.length=true
    ·rw[C8 c,FC (by simp)]at e;exact e
    ·rw[EF c]at e;exact e
   exact h C hC.1 cd q m ps' e' p' (χ _ hp')
  rw[cu,dh,fi];exact this
def zc0{cs:List AC}{i j:Nat}(h:∀ a∈cs,a.kind≠i):sh M0 C (cs++as) i j=sh M0 C as i j:=by
 induction cs with
 | nil=>rfl
 | cons a r ih =>
  have ih:=ih λb hb=>h b (χ _ hb);rw[jy];by_cases c:C (r++as).length=true
  ·rw[C8 c,FC (h a aq).symm];exact ih
  ·rw[EF c];exact ih
def Hist.dropped(I:Hist m0 M0 as t o){z:Str}{k r m:Nat}{ps nd:List Nat}(hk:k<m0)(h0:C2 M0 as 0 k=.nm z r)(h3:C2 M0 as 3 r=.rc m ps)(hm:m<=1) :
  Hist m0 M0 (⟨1,r,.mk 0,[as.length+1]⟩::((ps.map λp=>(⟨2,p,.mk 0,[as.length+1]⟩:AC)).reverse++⟨3,r,.no,[as.length]⟩::⟨0,k,.no,nd⟩::as)) (E4 t z as.length) (E4 o z as.length):=by
 have I1:=I.gone (nd:=nd) hk h0
 have I2:=I1.step (a:=⟨3,r,.no,[as.length]⟩) (by simp) λC hC c=>by
  obtain⟨e1,e2,_⟩:=I.fewer hk h0 h3 ⟨rfl,rfl,by simp⟩ hC c;exact(I1.sd C hC.1).drop (Nat.le_zero.mp (xm (υ e2 hm)))
 have I3:=Hist.unmark (d:=as.length+1) (ps:=ps) I2 λC hC cd q m' ps' e p hp=>by
  obtain⟨_,_,f3⟩:=I.fewer hk h0 h3 ⟨rfl,rfl,by simp⟩ hC cd
  have cL:C as.length=true:=(hC.2 cd).1 _ (by simp);rw[C8 cd]at e;by_cases z:q=r
  ·subst z;rw[DI]at e;cases e
  ·rw[EM z,C8 cL,FC (by simp)]at e;exact(I.sd C hC.1.1).dj r q m m' ps ps' (λy=>z y.symm) f3 e p hp
 refine I3.step (a:=⟨1,r,.mk 0,[as.length+1]⟩) (by simp) λC hC c=>(I3.sd C hC.1).rmark (.inr λm' ps' e=> ?_)
 have cd:C (as.length+1)=true:=(hC.2 c).1 _ (by simp);rw[zc0 (λa ha=>by
  obtain⟨p,_,rfl⟩:=cj.mp (En.mp ha);simp),C8 cd,DI]at e
 cases e
def Hist.put(I:Hist m0 M0 as t o){r m p:Nat}{ps:List Nat}{x:Str}(h2:C2 M0 as 2 p≠.mk 1)(h3:C2 M0 as 3 r=.rc m ps) :
  Hist m0 M0 (⟨3,r,.rc m (ps++[p]),[as.length+1]⟩::⟨4,p,.tx x,[as.length]⟩::⟨2,p,.mk 1,[]⟩::as) t o:=by
 have I1:=I.step (a:=⟨2,p,.mk 1,[]⟩) (by simp) λC hC _=>(I.sd C hC.1).pmark (.inl rfl)
 have I2:=I1.step (a:=⟨4,p,.tx x,[as.length]⟩) (by simp) λC hC _=>(I1.sd C hC.1).text;refine I2.step (a:=⟨3,r,.rc m (ps++[p]),[as.length+1]⟩) (by simp) λC hC c=> ?_
 have c1:C (as.length+1)=true:=(hC.2 c).1 _ (by simp)
 have c0:C as.length=true:=(hC.1.2 c1).1 _ (by simp);refine(I2.sd C hC.1).more (t:=x) ?_ ?_ ?_ λq m' ps' e hp=> ?_
 ·rw[K0 (a:=⟨3,r,.rc m (ps++[p]),[as.length+1]⟩) hC c,E3,FC (by simp),E3,FC (by simp)];exact h3
 ·rw[C8 c1,FC (by simp),C8 c0,DI]
 ·rw[C8 c1,DI]
 ·rw[C8 c1,FC (by simp),C8 c0,FC (by simp)]at e
  have:=((I.sd C hC.1.1.1).pm q m' ps' e p hp).1;rw[K0 (a:=⟨2,p,.mk 1,[]⟩) hC.1.1 c0]at this;exact h2 this
def Hist.take(I:Hist m0 M0 as t o){r m p i:Nat}{ps:List Nat}(h3:C2 M0 as 3 r=.rc m ps)(hi:ps[i]? =some p) :
  Hist m0 M0 (⟨2,p,.mk 0,[as.length]⟩::⟨3,r,.rc m (ps.eraseIdx i),[]⟩::as) t o:=by
 have a3:∀ C,HK C (⟨3,r,.rc m (ps.eraseIdx i),[]⟩::as)->C as.length=true->sh M0 C as 3 r=.rc m ps:=λC hC c=>by
  rw[K0 (a:=⟨3,r,.rc m (ps.eraseIdx i),[]⟩) hC c];exact h3
 have I1:=I.step (a:=⟨3,r,.rc m (ps.eraseIdx i),[]⟩) (by simp) λC hC c=>(I.sd C hC.1).less (a3 C hC c) (List.eraseIdx_sublist ..);refine I1.step (a:=⟨2,p,.mk 0,[as.length]⟩) (by simp) λC hC c=>(I1.sd C hC.1).pmark (.inr λq m' ps' e=> ?_)
 have c0:C as.length=true:=(hC.2 c).1 _ (by simp)
 have e3:=a3 C hC.1 c0;rw[C8 c0]at e;by_cases z:q=r
 ·subst z;rw[DI]at e;cases e
  have nd:=(I.sd C hC.1.1).nd q m ps e3;exact λh=>by
   have hl:=(ι.mp hi).1;obtain⟨j,hj,ej⟩:=List.mem_eraseIdx_iff_getElem?.mp h;exact hj ((List.getElem?_inj hl nd).mp (hi.trans ej.symm)).symm
 ·rw[EM z]at e;exact(I.sd C hC.1.1).dj r q m m' ps ps' (λy=>z y.symm) e3 e p (π hi)
end
end L2
namespace L2
section
variable{cs:List Ch}{outs:Int->Bool}{b i:Nat}
def BN(cs:List Ch)(outs:Int->Bool)(b i:Nat):Pass:=((ag i).filter λ(k:Nat)=>(cs[k]?).any λc=>c.blk == b).foldl (DH cs outs) ⟨[],[],λ_=>false⟩
def YF:BN cs outs b 0=⟨[],[],λ_=>false⟩:=rfl
def nR:BN cs outs b cs.length=outcome cs outs (λ_=>false) b:=by
 unfold BN outcome;rw[X5]
def zc1{c:Ch}(ec:cs[i]? =some c)(h:c.blk≠b):BN cs outs b (i+1)=BN cs outs b i:=by
 unfold BN;rw[cq,ja,wv (by rw[ec];simpa using h)];simp
def zc2{c:Ch}(ec:cs[i]? =some c)(h:c.blk=b):BN cs outs b (i+1)=DH cs outs (BN cs outs b i) i:=by
 unfold BN;rw[cq,ja,ww (by rw[ec];simpa using h),h_]
 rfl
def nS:BN cs outs b (i+1)=BN cs outs b i\/BN cs outs b (i+1)=DH cs outs (BN cs outs b i) i:=by
 unfold BN;rw[cq,ja];by_cases hc:((cs[i]?).any λc=>c.blk == b)=true
 ·rw[ww (by exact hc),h_];exact .inr rfl
 ·rw[wv (by exact hc)];simp
def zc3(k:Nat)(h:(BN cs outs b i).gone (k:Int)=true):k<i:=by
 induction i with
 | zero=>simp[YF]at h
 | succ n ih =>
  rcases nS (cs:=cs) (outs:=outs) (b:=b) (i:=n)with e | e
  ·rw[e]at h;have:=ih h;exact av this
  ·rw[e]at h;rcases X7 (cs:=cs) (outs:=outs) (BN cs outs b n) n with e | ⟨_,e⟩ | ⟨l,e⟩
   ·rw[e]at h;have:=ih h;exact av this
   ·rw[e]at h;simp only[uc,beq_iff_eq]at h;rcases h with h | h
    ·have:=ih h;exact av this
    ·omega
   ·rw[e]at h;have:=ih h;exact av this
def OD{k:Nat}(h:i<=k):(BN cs outs b i).gone (k:Int)=false:=by
 cases e:(BN cs outs b i).gone (k:Int)with
 | false=>rfl
 | true=>have:=zc3 k e;exact nL this h
end
section
variable{M0:Md}{C C':Nat->Bool}
def nT:∀ {as:List AC},(∀ j<as.length,C j=C' j)->sh M0 C as=sh M0 C' as
 | [],_=>rfl
 | a::r,h=>by
  have ih:=nT (as:=r) λj hj=>h j (jn hj)
  have e:=h r.length (ff _);by_cases c:C r.length=true
  ·rw[C8 c,C8 (e ▸ c),ih]
  ·rw[EF c,EF (e ▸ c),ih]
def zc4{S:Md}{k1 n1 k2 n2:Nat}{x1 x2:CV}(h:¬ (k1=k2/\n1=n2)):(S.put k1 n1 x1).put k2 n2 x2=(S.put k2 n2 x2).put k1 n1 x1:=by
 funext p q;unfold Md.put;by_cases a:p=k2/\q=n2
 ·rw[if_pos a,if_neg λz=>h ⟨z.1.symm.trans a.1,z.2.symm.trans a.2⟩,if_pos a]
 ·rw[if_neg a];by_cases b:p=k1/\q=n1
  ·rw[if_pos b,if_pos b]
  ·rw[if_neg b,if_neg b,if_neg a]
def nU{i:Nat}{x:AC}:∀ {as:List AC},as.reverse[i]? =some x->(∀ j,C' j=(C j || j == i))->C i=false->(∀ (j:Nat) y,i<j->as.reverse[j]? =some y->C j=true->¬ (y.kind=x.kind/\y.k=x.k))->sh M0 C' as=(sh M0 C as).put x.kind x.k x.x
 | [],e,_,_,_=>by simp at e
 | a::r,e,hC,ci,hn=>by
  rw[dh]at e hn;by_cases hi:i<r.length
  ·rw[am (by rw[ax];exact hi)]at e
   have ih:=nU (as:=r) e hC ci λj y hj ey=>hn j y hj (by rw[am (ι.mp ey).1];exact ey)
   have cr:C' r.length=C r.length:=by
    have:(r.length == i)=false:=by simp;exact il hi
    rw[hC,this,dt]
   by_cases c:C r.length=true
   ·rw[C8 (cr ▸ c),C8 c,ih,zc4];intro z;exact hn r.length a hi (by rw[ao (by rw[ax];exact ξ _),ax,ko];rfl) c ⟨z.1.symm,z.2.symm⟩
   ·rw[EF (cr ▸ c),EF c,ih]
  ·have B8:=(ι.mp e).1;rw[aj,ax]at B8
   have:i=r.length:=by simp at B8;omega
   subst this;rw[ao (by rw[ax];exact ξ _),ax,ko]at e;cases e
   have c1:C' r.length=true:=by rw[hC];simp
   have cg:∀ j<r.length,C' j=C j:=λj hj=>by
    have:(j == r.length)=false:=by simp;exact aw hj
    rw[hC,this,dt]
   rw[C8 c1,EF (by rw[ci];exact ψ),nT cg]
end
end L2
namespace L2
abbrev GA(a:Ad):Addr:=a "Hold"
def M3(ns:List Int)(k:Nat):Int:=ns.getD k 0
def QM(K:η)(a:Ad):Sp:=λvs H Q _=>∃ (s:Addr) (ns:List Int) (k:Nat),vs=[.ref s,.int k]/\SqL K H s (ns.map V.int)/\ns.length<=1000/\Q (.int (M3 ns k)) H
def zc5{K:η}{a:Ad}{s:Addr}{k:Int}{H:Hp}{Q:VK}{E:XK}:QM K a [.ref s,.int k] H Q E=∃ (ns:List Int) (n:Nat),k=n/\SqL K H s (ns.map V.int)/\ns.length<=1000/\Q (.int (M3 ns n)) H:=by simp[QM,and_assoc]
abbrev TB(K:η)(a:Ad):Prop:=m4 K (GA a) (a "Change")
abbrev FD(a:Ad)(H:Hp)(A:BA)(w:Nat)(rows:List (List V))(n:Nat)(cs:List Ch)(outs:Int->Bool):Prop:=BookAt a (GA a) H A w rows n cs outs
def IB:Option Nat->V
 | none=>.non
 | some k=>.int k
def AW(l:List Nat):List V:=l.map λ(k:Nat)=>V.int k
abbrev onPl(rows:List (List V))(w:Nat)(i j:Int):Prop:=0<=i/\i<rows.length/\0<=j/\j<w
def YG(K:η)(a:Ad):Sp:=λvs H Q _=>∃ x dx pl v nt,vs=[.ref x,.ref pl,v,.ref nt]/\TB K a/\H x=some (.ins (a "Change") dx [])/\Q .non (upd H x (.ins (a "Change") dx (GW pl v nt)))
def T6(K:η)(a:Ad):Sp:=λvs H Q _=>∃ (b gp cl dx:Addr) (w:Nat) (rows:List (List V)) (n:Nat),vs=[.ref b,.ref gp]/\TB K a/\FG K a/\PlankAt a H gp cl w rows n/\H b=some (.ins (GA a) dx []) /\
 ∀ (m mi lt ou:Addr) (ls:List Addr) (H':Hp),H m=none->H mi=none->H lt=none->H ou=none->(∀ l∈ls,H l=none)->FD a H' ⟨b,gp,m,mi,lt,ou,ls,cl⟩ w rows n [] (λ_=>false)->SameBut (· =b) H H'->Q .non H'
def YH(K:η)(a:Ad):Sp:=λvs H Q _=>∃ (nl:Addr) (ns:List Int) (o:Option Nat),vs=[.ref nl,IB o]/\SqL K H nl (ns.map V.int)/\ns.length<=60 /\
 ∀ (t:Addr) (ks:List Int) (H':Hp),Same H H'->H' t=some (.tup (ks.map V.int))->ks.Pairwise (· <·)->(∀ x,x∈ks↔x∈ns\/∃ k:Nat,o=some k/\x=k)->ks.length<=ns.length+1->Q (.ref t) H'
def YI(K:η)(a:Ad):Sp:=λvs H Q E=>∃ (A:BA) (w:Nat) (rows:List (List V)) (n:Nat) (cs:List Ch) (outs:Int->Bool) (pl:Addr) (i j:Int),vs=[.ref A.b,.ref pl]/\TB K a/\FG K a/\FD a H A w rows n cs outs/\H pl=some (.tup [.int i,.int j]) /\
 (onPl rows w i j->Q .non H)/\(¬ onPl rows w i j->E (.ref (a "NoBlock")) none H)
def QN(K:η)(a:Ad):Sp:=λvs H Q E=>∃ (A:BA) (w:Nat) (rows:List (List V)) (n:Nat) (cs:List Ch) (outs:Int->Bool) (pl:Addr) (i j:Int),vs=[.ref A.b,.ref pl]/\TB K a/\FG K a/\FD a H A w rows n cs outs/\H pl=some (.tup [.int i,.int j]) /\
 (onPl rows w i j->Q (IB (ES cs i j)) H)/\(¬ onPl rows w i j->E (.ref (a "NoBlock")) none H)
abbrev known(cs:List Ch)(x:Int):Prop:=0<=x/\x<cs.length
def T7(K:η)(a:Ad):Sp:=λvs H Q E=>∃ (A:BA) (w:Nat) (rows:List (List V)) (n:Nat) (cs:List Ch) (outs:Int->Bool) (nl:Addr) (ns:List Int),vs=[.ref A.b,.ref nl]/\TB K a/\FD a H A w rows n cs outs/\SqL K H nl (ns.map V.int) /\
 ((∀ x∈ns,known cs x)->Q .non H)/\((∃ x∈ns,¬ known cs x)->E (.ref (a "NoChange")) none H)
def G5(K:η)(a:Ad):Sp:=λvs H Q E=>∃ (A:BA) (w:Nat) (rows:List (List V)) (n:Nat) (cs:List Ch) (outs:Int->Bool) (pl nl:Addr) (v:V) (ns:List Int) (i j:Int),vs=[.ref A.b,.ref pl,v,.ref nl]/\TB K a/\FG K a/\FD a H A w rows n cs outs/\H pl=some (.tup [.int i,.int j])/\SqL K H nl (ns.map V.int)/\ns.length<=60/\cs.length<990 /\
 (onPl rows w i j->(∀ x∈ns,known cs x)->∀ (nd:List Int) (H':Hp),nd.Pairwise (· <·)->(∀ x,x∈nd↔x∈ns\/∃ k:Nat,ES cs i j=some k/\x=k)->FD a H' A w rows n (cs++[⟨i.toNat,j.toNat,v,nd⟩]) outs->SameBut A.F H H'->Q (.int cs.length) H') /\
 (¬ onPl rows w i j->E (.ref (a "NoBlock")) none H)/\(onPl rows w i j->(∃ x∈ns,¬ known cs x)->E (.ref (a "NoChange")) none H)
def FI(cs:List Ch)(rows:List (List V))(i j:Int):Option V:=match ES cs i j with
 | some k=>(cs[k]?).map (·.val)
 | none=>(rows[i.toNat]?).bind λr=>r[j.toNat]?
def OE(K:η)(a:Ad):Sp:=λvs H Q E=>∃ (A:BA) (w:Nat) (rows:List (List V)) (n:Nat) (cs:List Ch) (outs:Int->Bool) (pl:Addr) (i j:Int),vs=[.ref A.b,.ref pl]/\TB K a/\FG K a/\FD a H A w rows n cs outs/\H pl=some (.tup [.int i,.int j]) /\
 (onPl rows w i j->∀ (v:V) (H':Hp),FI cs rows i j=some v->Same H H'->Q v H')/\(¬ onPl rows w i j->E (.ref (a "NoBlock")) none H)
def YJ(K:η)(a:Ad):Sp:=λvs H Q E=>∃ (A:BA) (w:Nat) (rows:List (List V)) (n:Nat) (cs:List Ch) (outs:Int->Bool) (x:Int),vs=[.ref A.b,.int x]/\TB K a/\FD a H A w rows n cs outs /\
 (∀ (k:Nat) (c:Ch) (l:Addr) (H':Hp),x=k->cs[k]? =some c->H l=none->Same H H'->H' l=some (.lst (c.nd.map V.int))->Q (.ref l) H')/\(¬ known cs x->∀ H',Same H H'->E (.ref (a "NoChange")) none H')
def YK:Option Int->V
 | none=>.non
 | some k=>.int k
abbrev E5(AE:List (AS × V))(x:Int):Bool:=(BT AE (.inl x)).isSome
def YL(K:η)(a:Ad):Sp:=λvs H Q _=>∃ (A:BA) (w:Nat) (rows:List (List V)) (n:Nat) (cs:List Ch) (outs:Int->Bool) (k:Nat) (c:Ch) (g:Addr) (kvg:List (AS × V)),vs=[.ref A.b,.int k,.ref g]/\TB K a/\FD a H A w rows n cs outs/\cs[k]? =some c/\H g=some (.dK kvg) /\
 Q (YK (IY c.nd λx=>outs x || E5 kvg x)) H
def YM(K:η)(a:Ad):Sp:=λvs H Q _=>∃ (A:BA) (w:Nat) (rows:List (List V)) (n:Nat) (cs:List Ch) (outs:Int->Bool) (b:Nat) (tk:Addr) (kvt:List (AS × V)),vs=[.ref A.b,.int b,.ref tk]/\TB K a/\FD a H A w rows n cs outs/\b<rows.length/\H tk=some (.dK kvt)/\kvt.length<=1000 /\
 ∀ (t ol hl:Addr) (H':Hp),H ol=none->H hl=none->ol≠hl->Same H H'->ToldAt H' t ol hl (outcome cs outs (E5 kvt) b).out (outcome cs outs (E5 kvt) b).held->Q (.ref t) H'
def YN(K:η)(a:Ad):Sp:=λvs H Q _=>∃ (A:BA) (w:Nat) (rows:List (List V)) (n:Nat) (cs:List Ch) (outs:Int->Bool) (b:Nat) (vl:Addr) (row:List V),vs=[.ref A.b,.ref vl,.int b]/\TB K a/\FD a H A w rows n cs outs/\b<rows.length/\H vl=some (.lst row)/\row.length=w /\
 ∀ (l:Addr) (H':Hp),H l=none->Same H H'->H' l=some (.lst (FQ cs outs b row))->Q (.ref l) H'
def YO(K:η)(a:Ad):Sp:=λvs H Q E=>∃ (A:BA) (w:Nat) (rows:List (List V)) (n:Nat) (cs:List Ch) (outs:Int->Bool) (b:Int),vs=[.ref A.b,.int b]/\TB K a/\FG K a/\FD a H A w rows n cs outs /\
 (∀ (b':Nat) (row:List V) (t ol hl:Addr) (H':Hp),b=b'->rows[b']? =some row->H ol=none->H hl=none->ol≠hl->ToldAt H' t ol hl (outcome cs outs (λ_=>false) b').out (outcome cs outs (λ_=>false) b').held ->
  FD a H' A w (rows.set b' (FQ cs (FH cs outs b') b' row)) (n+1) cs (FH cs outs b')->SameBut (λx=>A.F x\/x=A.gp) H H'->Q (.ref t) H') /\
 (b<0\/rows.length<=b->E (.ref (a "NoBlock")) none H)
def GoodV:Nat->Hp->V->Prop
 | 0,_,_=>False
 | _+1,_,.int _=>True
 | _+1,_,.non=>True
 | _+1,_,.str z=>jj z=true
 | n+1,H,.ref p=>∃ xs,H p=some (.tup xs)/\xs.length<=100/\∀ v∈xs,GoodV n H v
 | _,_,_=>False
def T8(v:V):Prop:=v=.non\/∃ i,v=.int i
def AY(n r c w kind k:Nat):Nat:=(if kind=0 then 0 else if kind=1 then n+r+c else if kind=2 then n+r+c+r else if kind=3 then n else n+r)+k / w
def AT(n r c w kind:Nat):Nat:=(if kind=0 then n else if kind=1 then r else if kind=2 then c else if kind=3 then r else c) * w
def K3(kind:Nat)(v:V):Bool:=decide (v=.non) || (decide (0<kind) && decide (v=.int 0))
def EU(f:Nat->Bool)(m:Nat):Int:=match (ag m).find? f with
 | some k=>k
 | none=> -1
def nX(H:Hp)(rows:List (List V)):Prop:=∀ r∈rows,∀ v∈r,GoodV 4 H v
def goodH(H:Hp)(cs:List Ch)(rows:List (List V)):Prop:=nX H rows/\∀ c∈cs,GoodV 4 H c.val
def L5(cs:List Ch)(rows:List (List V))(n r c w kind:Nat)(k:Nat):Bool:=match FI cs rows (AY n r c w kind k:Nat) (k % w:Nat)with
 | some v=>K3 kind v
 | none=>false
def OF(K:η)(a:Ad):Sp:=λvs H Q E=>∃ (A:BA) (w:Nat) (rows:List (List V)) (n:Nat) (cs:List Ch) (outs:Int->Bool) (pl vl:Addr) (ts:List Addr) (xs:List V) (f:Nat->Bool) (m:Nat),vs=[.ref A.b,.ref pl,.ref vl]/\TB K a/\FG K a/\FD a H A w rows n cs outs/\H pl=some (.lst (ts.map V.ref))/\ts.length=m/\m<=1000/\H vl=some (.tup xs)/\(∀ z∈xs,T8 z) /\
 (∀ k t,ts[k]? =some t->∃ i j v,H t=some (.tup [.int i,.int j])/\onPl rows w i j/\FI cs rows i j=some v/\GoodV 4 H v/\f k=decide (v∈xs)) /\
 (∀ k:Nat,EU f m=k->∀ H',Same H H'->Q (.int k) H')/\(EU f m= -1->∀ H',Same H H'->E (.ref (a "NoRoom")) none H')
def T9(kind:Nat)(K:η)(a:Ad)(p b:Addr)(H:Hp)(Q:VK)(E:XK):Prop:=∃ (A:BA) (n r c w:Nat) (rows:List (List V)) (nn:Nat) (cs:List Ch) (outs:Int->Bool),b=A.b/\TB K a/\FG K a/\D1 K a/\LayAt a H p n r c w/\n<=6/\r<=6/\c<=6/\w<=6/\FD a H A w rows nn cs outs/\rows.length=n+r+c+r+c/\(∀ i j v,FI cs rows i j=some v->GoodV 4 H v) /\
 (∀ k:Nat,EU (L5 cs rows n r c w kind) (AT n r c w kind)=k->∀ H',Same H H'->Q (.int k) H')/\(EU (L5 cs rows n r c w kind) (AT n r c w kind)= -1->∀ H',Same H H'->E (.ref (a "NoRoom")) none H')
def UA(K:η)(a:Ad):Sp:=λvs H Q E=>∃ p b,vs=[.ref p,.ref b]/\T9 0 K a p b H Q E
def YQ(K:η)(a:Ad):Sp:=λvs H Q E=>∃ p b,vs=[.ref p,.ref b]/\T9 1 K a p b H Q E
def YR(K:η)(a:Ad):Sp:=λvs H Q E=>∃ p b,vs=[.ref p,.ref b]/\T9 2 K a p b H Q E
def M4(c:Nat):Bool:=decide (32<=c) && decide (c<=126) && decide (c≠37)
def QP(c:Nat):Bool:=decide (97<=c) && decide (c<=122)
def B7(z:Str):Bool:=decide (1<=z.length) && decide (z.length<=8) && z.cps.toList.all QP
def L6(z:Str):Bool:=decide (1<=z.length) && decide (z.length<=40) && z.cps.toList.all M4
def YS(K:η)(a:Ad):Sp:=λvs H Q _=>∃ c:Nat,vs=[.str ⟨#[c]⟩]/\Q (.bl (M4 c)) H
def YT(K:η)(a:Ad):Sp:=λvs H Q _=>∃ z:Str,vs=[.str z]/\z.length<=1000/\∀ H',Same H H'->Q (.bl (B7 z)) H'
def YU(K:η)(a:Ad):Sp:=λvs H Q _=>∃ z:Str,vs=[.str z]/\z.length<=1000/\∀ H',Same H H'->Q (.bl (L6 z)) H'
structure QQ(K:η)(a:Ad):Prop where
 cl:Cls K (a "Store")
 n1:NoAttr K (a "Store") "plan"
 n2:NoAttr K (a "Store") "book"
 n3:NoAttr K (a "Store") "taken_out"
def sf(lp b tk:Addr):List (Str × V):=[("plan",.ref lp),("book",.ref b),("taken_out",.ref tk)]
structure SA where
 A:BA
 st:Addr
 lp:Addr
 tk:Addr
structure Hs where
 b:Md
 as:List AC
abbrev Hs.f(M:Hs):Md:=C2 M.b M.as
instance:CoeFun Hs λ_=>Nat->Nat->CV:=⟨Hs.f⟩
def Hs.put(M:Hs)(kind k:Nat)(x:CV)(nd:List Nat):Hs:=⟨M.b,⟨kind,k,x,nd⟩::M.as⟩
def Hs.put_at{M:Hs}{kind k i j:Nat}{x:CV}{nd:List Nat}:(M.put kind k x nd) i j=if i=kind/\j=k then x else M i j:=rfl
def RepC(H:Hp):CV->V->Prop
 | .no,v=>v=.non
 | .nm z k,v=>∃ t,v=.ref t/\H t=some (.tup [.str z,.int k])
 | .mk i,v=>v=.int i
 | .rc m ps,v=>∃ t u,v=.ref t/\H t=some (.tup [.int m,.ref u])/\H u=some (.tup (AW ps))
 | .tx z,v=>v=.str z
def EB:Nat->CV->Prop
 | _,.no=>True
 | 0,.nm _ _=>True
 | 1,.mk i=>i<=1
 | 2,.mk i=>i<=1
 | 3,.rc _ _=>True
 | 4,.tx _=>True
 | _,_=>False
inductive LaidA(n r c w:Nat)(H:Hp):List Ch->List AC->Prop
 | nil:LaidA n r c w H [] []
 | snoc {cs:List Ch} {as:List AC} {ch:Ch} {x:AC}:LaidA n r c w H cs as->ch.blk=AY n r c w x.kind x.k->ch.cell=x.k % w->RepC H x.x ch.val->(∀ y:Int,y∈ch.nd↔(∃ j∈x.nd,y=(j:Nat))\/∃ j:Nat,ET x.kind x.k as=some j/\y=j)->x.kind<5->x.k<AT n r c w x.kind->LaidA n r c w H (cs++[ch]) (x::as)
structure SM(a:Ad)(H:Hp)(S:SA)(n r c w:Nat)(rows:List (List V))(nn:Nat)(cs:List Ch)(outs:Int->Bool)(tks:List (AS × V))(M:Hs):Prop where
 ob:∃ dx,H S.st=some (.ins (a "Store") dx (sf S.lp S.A.b S.tk))
 ly:LayAt a H S.lp n r c w
 bk:FD a H S.A w rows nn cs outs
 tk:H S.tk=some (.dK tks)
 tl:tks.length<=cs.length
 tv:∀ z v,BT tks (.inr z)=some v->∃ k:Nat,v=.int k/\k<cs.length
 ap:¬ S.A.F S.tk
 sz:n<=6/\r<=6/\c<=6/\w<=6/\rows.length=n+r+c+r+c
 gd:goodH H cs rows
 rp:∀ kind k v,kind<5->k<AT n r c w kind->FI cs rows (AY n r c w kind k:Nat) (k % w:Nat)=some v->RepC H (M kind k) v
 ok:∀ kind k,kind<5->k<AT n r c w kind->EB kind (M kind k)
 la:LaidA n r c w H cs M.as
def FR(M:Hs)(k:Nat):Option (Str × Nat):=match M 0 k with
 | .nm z r=>some (z,r)
 | _=>none
def cellOf(M:Hs)(m:Nat)(z:Str):Option Nat:=(ag m).find? λk=>(FR M k).any λp=>decide (p.1=z)
def EV(kind:Nat):CV->Bool
 | .no=>true
 | .mk i=>decide (0<kind) && decide (i=0)
 | _=>false
def EG(M:Hs)(kind m:Nat):Int:=EU (λk=>EV kind (M kind k)) m
abbrev DM(K:η)(a:Ad):Prop:=TB K a/\FG K a/\D1 K a/\QQ K a
abbrev nY(cs:List Ch)(i j:Int)(x:Int):Prop:=∃ k:Nat,ES cs i j=some k/\x=k
structure SX where
 S:SA
 n:Nat
 r:Nat
 c:Nat
 w:Nat
 rows:List (List V)
 nn:Nat
 outs:Int->Bool
abbrev SX.at(X:SX)(a:Ad)(H:Hp)(cs:List Ch)(tks:List (AS × V))(M:Hs):Prop:=SM a H X.S X.n X.r X.c X.w X.rows X.nn cs X.outs tks M
abbrev SX.m0(X:SX):Nat:=X.n * X.w
def YV(K:η)(a:Ad):Sp:=λvs H Q _=>∃ (x dx lp gp cl:Addr) (n r c w:Nat) (rows:List (List V)) (nn:Nat) (M:Md),vs=[.ref x,.ref lp,.ref gp]/\DM K a/\H x=some (.ins (a "Store") dx [])/\LayAt a H lp n r c w/\PlankAt a H gp cl w rows nn/\(n<=6/\r<=6/\c<=6/\w<=6/\rows.length=n+r+c+r+c)/\nX H rows/\(∀ kind k v,kind<5->k<AT n r c w kind->FI [] rows (AY n r c w kind k:Nat) (k % w:Nat)=some v->RepC H (M kind k) v)/\(∀ kind k,kind<5->k<AT n r c w kind->EB kind (M kind k)) ∧
 ∀ (S:SA) (H':Hp),S.st=x->S.lp=lp->S.A.gp=gp->S.A.cl=cl->(∀ y o,H y=some o->y=cl\/¬ S.A.F y)->H S.tk=none->SM a H' S n r c w rows nn [] (λ_=>false) [] ⟨M,[]⟩->SameBut (· =x) H H'->Q .non H'
def YW(K:η)(a:Ad):Sp:=λvs H Q _=>∃ (x dx lp b tk:Addr),vs=[.ref x]/\QQ K a/\H x=some (.ins (a "Store") dx (sf lp b tk))/\Q (.ref b) H
def UB(K:η)(a:Ad):Sp:=λvs H Q _=>∃ (X:SX) (cs:List Ch) (tks:List (AS × V)) (M:Hs),vs=[.ref X.S.st]/\DM K a/\X.at a H cs tks M /\
 ∀ (l:Addr) (xs:List V) (H':Hp),Same H H'->H' l=some (.lst xs)->xs.length=X.m0->(∀ k v,xs[k]? =some v->RepC H' (M 0 k) v)->Q (.ref l) H'
def QR(K:η)(a:Ad):Sp:=λvs H Q _=>∃ (X:SX) (cs:List Ch) (tks:List (AS × V)) (M:Hs) (z:Str),vs=[.ref X.S.st,.str z]/\DM K a/\X.at a H cs tks M/\∀ (H':Hp),Same H H'->Q (IB (cellOf M X.m0 z)) H'
def M5(K:η)(a:Ad):Sp:=λvs H Q E=>∃ (X:SX) (cs:List Ch) (tks:List (AS × V)) (M:Hs) (z:Str),vs=[.ref X.S.st,.str z]/\DM K a/\X.at a H cs tks M /\
 (∀ cell k,cellOf M X.m0 z=some cell->cell<X.m0->M 0 cell=.nm z k->∀ H',Same H H'->Q (.int k) H')/\(cellOf M X.m0 z=none->∀ H',Same H H'->E (.ref (a "NoName")) none H')
def L7(K:η)(a:Ad):Sp:=λvs H Q _=>∃ (X:SX) (cs:List Ch) (tks:List (AS × V)) (M:Hs) (rec:Nat),vs=[.ref X.S.st,.int rec]/\DM K a/\X.at a H cs tks M/\rec<X.r * X.w/\∀ v H',RepC H' (M 3 rec) v->Same H H'->Q v H'
def UC(K:η)(a:Ad):Sp:=λvs H Q E=>∃ (X:SX) (cs:List Ch) (tks:List (AS × V)) (M:Hs) (z:Str) (gl:Addr) (zs:List Str),vs=[.ref X.S.st,.str z,.ref gl]/\DM K a/\X.at a H cs tks M/\H gl=some (.lst (zs.map V.str))/\zs.length<=60/\(∀ y∈zs,y.length<=1000) /\
 (zs.all B7=true->cellOf M X.m0 z=none->∀ H',Same H H'->Q .non H')/\(zs.all B7=false->∀ H',Same H H'->E (.ref (a "NoName")) none H')/\(zs.all B7=true->(∃ k,cellOf M X.m0 z=some k)->∀ H',Same H H'->E (.ref (a "Twice")) none H')
def UD(X:SX)(a:Ad)(H:Hp)(cs:List Ch)(tks:List (AS × V))(M':Hs)(Q:VK):Prop:=∀ (ch:Ch) (H':Hp),X.at a H' (cs++[ch]) tks M'->SameBut X.S.A.F H H'->Q (.int cs.length) H'
def D2(tks:List (AS × V))(z:Str):List Nat:=match BT tks (.inr z)with
 | some (.int k)=>[k.toNat]
 | _=>[]
abbrev EW(ns:List Int):List Nat:=ns.map Int.toNat
def UE(K:η)(a:Ad):Sp:=λvs H Q _=>∃ (X:SX) (cs:List Ch) (tks:List (AS × V)) (M:Hs) (cell rec need:Nat) (z:Str),vs=[.ref X.S.st,.int cell,.str z,.int rec,.int need]/\DM K a/\X.at a H cs tks M/\cell<X.m0/\need<cs.length/\cs.length<980/\jj z=true/\UD X a H cs tks (M.put 0 cell (.nm z rec) (need::D2 tks z)) Q
def QS(K:η)(a:Ad):Sp:=λvs H Q _=>∃ (X:SX) (cs:List Ch) (tks:List (AS × V)) (M:Hs) (rec m m':Nat) (more:Int) (ps:List Nat) (nl:Addr) (ns:List Int),vs=[.ref X.S.st,.int rec,.int more,.ref nl]/\DM K a/\X.at a H cs tks M/\rec<X.r * X.w/\M 3 rec=.rc m ps/\(m:Int)+more=m'/\ps.length<=100/\H nl=some (.lst (ns.map V.int))/\ns.length<=60/\(∀ x∈ns,known cs x)/\cs.length<980/\UD X a H cs tks (M.put 3 rec (.rc m' ps) (EW ns)) Q
def UF(K:η)(a:Ad):Sp:=λvs H Q _=>∃ (X:SX) (cs:List Ch) (tks:List (AS × V)) (M:Hs) (rec m:Nat) (ps ps':List Nat) (pl nl:Addr) (ns:List Int),vs=[.ref X.S.st,.int rec,.ref pl,.ref nl]/\DM K a/\X.at a H cs tks M/\rec<X.r * X.w/\M 3 rec=.rc m ps/\H pl=some (.tup (AW ps'))/\ps'.length<=100/\H nl=some (.lst (ns.map V.int))/\ns.length<=60/\(∀ x∈ns,known cs x)/\cs.length<980/\UD X a H cs tks (M.put 3 rec (.rc m ps') (EW ns)) Q
def UG(K:η)(a:Ad):Sp:=λvs H Q _=>∃ (X:SX) (cs:List Ch) (tks:List (AS × V)) (M:Hs) (cell:Nat) (z:Str) (nl:Addr) (ns:List Int),vs=[.ref X.S.st,.str z,.ref nl]/\DM K a/\X.at a H cs tks M/\cellOf M X.m0 z=some cell/\cell<X.m0/\H nl=some (.lst (ns.map V.int))/\ns.length<=60/\(∀ x∈ns,known cs x)/\cs.length<980 /\
 ∀ (ch:Ch) (H':Hp),X.at a H' (cs++[ch]) (BY tks (.inr z) (.int cs.length)) (M.put 0 cell .no (EW ns))->SameBut (λx=>X.S.A.F x\/x=X.S.tk) H H'->Q (.int cs.length) H'
def Hs.unmark(M:Hs)(d:Nat)(ps:List Nat):Hs:=ps.foldl (λM p=>M.put 2 p (.mk 0) [d]) M
def YX(K:η)(a:Ad):Sp:=λvs H Q _=>∃ (X:SX) (cs:List Ch) (tks:List (AS × V)) (M:Hs) (rec m gone:Nat) (ps:List Nat),vs=[.ref X.S.st,.int rec,.int gone]/\DM K a/\X.at a H cs tks M/\rec<X.r * X.w/\M 3 rec=.rc m ps/\gone<cs.length/\(∀ p∈ps,p<X.c * X.w)/\ps.length<=36/\cs.length<940 /\
 ∀ (ex:List Ch) (l:Addr) (H':Hp),H l=none->H' l=some (.lst (AW ((ag (ps.length+2)).map (cs.length+·))))->ex.length=ps.length+2->X.at a H' (cs++ex) tks (((M.put 3 rec .no [gone]).unmark cs.length ps).put 1 rec (.mk 0) [cs.length])->SameBut X.S.A.F H H'->Q (.ref l) H'
def M6(X:SX)(a:Ad)(H:Hp)(cs:List Ch)(d:Nat)(tks':List (AS × V))(M':Hs)(Q:VK):Prop:=∀ (ex:List Ch) (l:Addr) (H':Hp),ex.length=d->H l=none->H' l=some (.lst (AW ((ag d).map (cs.length+·))))->X.at a H' (cs++ex) tks' M'->SameBut (λx=>X.S.A.F x\/x=X.S.tk) H H'->Q (.ref l) H'
def F3(a:Ad)(H:Hp)(c:String)(E:XK):Prop:=∀ H',Same H H'->E (.ref (a c)) none H'
def YY(K:η)(a:Ad):Sp:=λvs H Q E=>∃ (X:SX) (cs:List Ch) (tks:List (AS × V)) (M:Hs) (z:Str),vs=[.ref X.S.st,.str z]/\DM K a/\X.at a H cs tks M/\z.length<=1000/\cs.length<930 /\
 (B7 z=true->cellOf M X.m0 z=none->∀ rec cell:Nat,EG M 1 (X.r * X.w)=rec->EG M 0 X.m0=cell->rec<X.r * X.w->cell<X.m0->M6 X a H cs 3 tks (((M.put 1 rec (.mk 1) []).put 3 rec (.rc 1 []) [cs.length]).put 0 cell (.nm z rec) ((cs.length+1)::D2 tks z)) Q) /\
 (B7 z=false->F3 a H "NoName" E)/\(B7 z=true->(∃ k,cellOf M X.m0 z=some k)->F3 a H "Twice" E) ∧
 (B7 z=true->cellOf M X.m0 z=none->(EG M 1 (X.r * X.w)= -1\/EG M 0 X.m0= -1)->F3 a H "NoRoom" E)
def UH(K:η)(a:Ad):Sp:=λvs H Q E=>∃ (X:SX) (cs:List Ch) (tks:List (AS × V)) (M:Hs) (y z:Str),vs=[.ref X.S.st,.str y,.str z]/\DM K a/\X.at a H cs tks M/\y.length<=1000/\z.length<=1000/\cs.length<930 /\
 (B7 y=true->B7 z=true->cellOf M X.m0 z=none->∀ old rec cell:Nat,cellOf M X.m0 y=some old->old<X.m0->M 0 old=.nm y rec->rec<X.r * X.w/\∃ m ps,M 3 rec=.rc m ps/\ps.length<=100/\(EG M 0 X.m0=cell->cell<X.m0->M6 X a H cs 2 tks ((M.put 3 rec (.rc (m+1) ps) []).put 0 cell (.nm z rec) (cs.length::D2 tks z)) Q)) /\
 ((B7 y && B7 z)=false->F3 a H "NoName" E)/\(B7 y=true->B7 z=true->(∃ k,cellOf M X.m0 z=some k)->F3 a H "Twice" E)/\(B7 y=true->B7 z=true->cellOf M X.m0 z=none->cellOf M X.m0 y=none->F3 a H "NoName" E) ∧
 (B7 y=true->B7 z=true->cellOf M X.m0 z=none->(∃ k,cellOf M X.m0 y=some k)->EG M 0 X.m0= -1->F3 a H "NoRoom" E)
def YZ(K:η)(a:Ad):Sp:=λvs H Q E=>∃ (X:SX) (cs:List Ch) (tks:List (AS × V)) (M:Hs) (z:Str),vs=[.ref X.S.st,.str z]/\DM K a/\X.at a H cs tks M/\cs.length<930 /\
 (∀ cell rec:Nat,cellOf M X.m0 z=some cell->cell<X.m0->M 0 cell=.nm z rec->rec<X.r * X.w/\∃ m ps,M 3 rec=.rc m ps/\(∀ p∈ps,p<X.c * X.w)/\ps.length<=36 /\
  (1<m->M6 X a H cs 2 (BY tks (.inr z) (.int cs.length)) ((M.put 0 cell .no []).put 3 rec (.rc (m - 1) ps) [cs.length]) Q)/\(m<=1->M6 X a H cs (ps.length+3) (BY tks (.inr z) (.int cs.length)) ((((M.put 0 cell .no []).put 3 rec .no [cs.length]).unmark (cs.length+1) ps).put 1 rec (.mk 0) [cs.length+1]) Q)) /\
 (cellOf M X.m0 z=none->F3 a H "NoName" E)
def Y0(K:η)(a:Ad):Sp:=λvs H Q E=>∃ (X:SX) (cs:List Ch) (tks:List (AS × V)) (M:Hs) (z t:Str),vs=[.ref X.S.st,.str z,.str t]/\DM K a/\X.at a H cs tks M/\t.length<=1000/\jj t=true/\cs.length<930 /\
 (∀ cell rec:Nat,cellOf M X.m0 z=some cell->cell<X.m0->M 0 cell=.nm z rec->L6 t=true->∀ p:Nat,EG M 2 (X.c * X.w)=p->p<X.c * X.w->rec<X.r * X.w/\∃ m ps,M 3 rec=.rc m ps/\ps.length<=90/\M6 X a H cs 3 tks (((M.put 2 p (.mk 1) []).put 4 p (.tx t) [cs.length]).put 3 rec (.rc m (ps++[p])) [cs.length+1]) Q) /\
 (cellOf M X.m0 z=none->F3 a H "NoName" E)/\((∃ k,cellOf M X.m0 z=some k)->L6 t=false->F3 a H "NoPiece" E)/\((∃ k,cellOf M X.m0 z=some k)->L6 t=true->EG M 2 (X.c * X.w)= -1->F3 a H "NoRoom" E)
def Y1(K:η)(a:Ad):Sp:=λvs H Q E=>∃ (X:SX) (cs:List Ch) (tks:List (AS × V)) (M:Hs) (z:Str) (x:Int),vs=[.ref X.S.st,.str z,.int x]/\DM K a/\X.at a H cs tks M/\cs.length<930 /\
 (∀ cell rec:Nat,cellOf M X.m0 z=some cell->cell<X.m0->M 0 cell=.nm z rec->rec<X.r * X.w/\∃ m ps,M 3 rec=.rc m ps/\ps.length<=100/\((x<0\/ps.length<=x)->F3 a H "NoPiece" E)/\(∀ (k p:Nat),x=k->ps[k]? =some p->p<X.c * X.w/\M6 X a H cs 2 tks ((M.put 3 rec (.rc m (ps.eraseIdx k)) []).put 2 p (.mk 0) [cs.length]) Q)) ∧
 (cellOf M X.m0 z=none->F3 a H "NoName" E)
def Y2(K:η)(a:Ad):Sp:=λvs H Q E=>∃ (X:SX) (cs:List Ch) (tks:List (AS × V)) (M:Hs) (y z:Str),vs=[.ref X.S.st,.str y,.str z]/\DM K a/\X.at a H cs tks M/\y.length<=1000/\z.length<=1000/\cs.length<920 /\
 (B7 y=true->B7 z=true->cellOf M X.m0 z=none->∀ old rec cell:Nat,cellOf M X.m0 y=some old->old<X.m0->M 0 old=.nm y rec->rec<X.r * X.w/\∃ m ps,M 3 rec=.rc m ps/\ps.length<=100/\(EG M 0 X.m0=cell->cell<X.m0->M6 X a H cs 4 (BY tks (.inr y) (.int (cs.length+2:Nat))) ((((M.put 3 rec (.rc (m+1) ps) []).put 0 cell (.nm z rec) (cs.length::D2 tks z)).put 0 old .no [cs.length+1]).put 3 rec (.rc m ps) [cs.length+2]) Q)) /\
 ((B7 y && B7 z)=false->F3 a H "NoName" E)/\(B7 y=true->B7 z=true->(∃ k,cellOf M X.m0 z=some k)->F3 a H "Twice" E)/\(B7 y=true->B7 z=true->cellOf M X.m0 z=none->cellOf M X.m0 y=none->F3 a H "NoName" E) ∧
 (B7 y=true->B7 z=true->cellOf M X.m0 z=none->(∃ k,cellOf M X.m0 y=some k)->EG M 0 X.m0= -1->F3 a H "NoRoom" E)
def SX.wr(X:SX)(cs:List Ch)(b:Nat)(row:List V):SX:={ X with rows:=X.rows.set b (FQ cs (FH cs X.outs b) b row),nn:=X.nn+1,outs:=FH cs X.outs b }
def Y3(K:η)(a:Ad):Sp:=λvs H Q _=>∃ (X:SX) (cs:List Ch) (tks:List (AS × V)) (M:Hs) (b:Nat) (row:List V),vs=[.ref X.S.st,.int b]/\DM K a/\X.at a H cs tks M/\X.rows[b]? =some row/\∀ t ol hl H',ToldAt H' t ol hl (outcome cs X.outs (λ_=>false) b).out (outcome cs X.outs (λ_=>false) b).held->(X.wr cs b row).at a H' cs tks M->SameBut (λx=>X.S.A.F x\/x=X.S.A.gp) H H'->Q (.ref t) H'
def Y4(K:η)(a:Ad):Sp:=λvs H Q _=>∃ x:Int,vs=[.int x]/\∀ (l:Addr) (zs:List Str) (H':Hp),H l=none->Same H H'->H' l=some (.lst (zs.map V.str))->zs.length=5->(∀ z∈zs,B7 z=true)->Q (.ref l) H'
def L8:Str:=bd " !\"#$&'()*+,-./0123456789:;<=>?@ABCDEFGHIJKLMNOPQRSTUVWXYZ[\\]^_`"++bd "abcdefghijklmnopqrstuvwxyz{|}~"
def JB(x:Int):Nat:=(if x / 5 % 8=3 then 40 - x / 40 % 2 else 1+x % 5).toNat
def JX(x:Int)(i:Nat):Nat:=(L8.cps.toList[((x / 3+(1+x / 19 % 93) * ((0+(i:Int)) / (1+x / 7 % 3))) % 94).toNat]?).getD 0
def JY(x:Int):Str:=Txt.join (bd "") ((ag (JB x)).map λi=>⟨#[JX x i]⟩)
def UI(x:Int):Int:=if x / 28 % 2=0 then x % 4 - 1 else x % 14 - 1
def UJ(K:η)(a:Ad):Sp:=λvs H Q _=>∃ x:Int,vs=[.int x]/\∀ H',Same H H'->Q (.str (JY x)) H'
def UK(K:η)(a:Ad):Sp:=λvs H Q _=>∃ x:Int,vs=[.int x]/\Q (.int (UI x)) H
structure TD(K:η)(a:Ad):Prop where
 n1:ij K (.ref (a "NoName")) [.ref (a "NoName"),.ref (a "Twice")]=some true
 t1:ij K (.ref (a "Twice")) [.ref (a "NoName"),.ref (a "Twice")]=some true
 p1:ij K (.ref (a "NoPiece")) [.ref (a "NoName"),.ref (a "Twice")]=some false
 p2:ij K (.ref (a "NoPiece")) [.ref (a "NoPiece"),.ref (a "NoRoom")]=some true
 r1:ij K (.ref (a "NoRoom")) [.ref (a "NoName"),.ref (a "Twice")]=some false
 r2:ij K (.ref (a "NoRoom")) [.ref (a "NoPiece"),.ref (a "NoRoom")]=some true
def HL(tks:List (AS × V)):Str->Option Nat:=λz=>(D2 tks z).head?
def RowsAre(H:Hp)(n r c w:Nat)(rows:List (List V))(S:Md):Prop:=∀ kind k v,kind<5->k<AT n r c w kind->(rows[AY n r c w kind k]?).bind (λq=>q[k % w]?)=some v->RepC H (S kind k) v
structure C45(a:Ad)(H:Hp)(X:SX)(cs:List Ch)(tks:List (AS × V))(M:Hs):Prop where
 st:X.at a H cs tks M
 hi:∃ o,Hist X.m0 M.b M.as (HL tks) o
 b0:M.b=λ_ _=>.no
 cut:T2 cs X.outs
 rows:RowsAre H X.n X.r X.c X.w X.rows (sh M.b (λj=>X.outs (j:Nat)) M.as)
 few:X.c * X.w<=12
 ok:∀ x∈M.as,EB x.kind x.x
inductive Dn(X:SX)(tks:List (AS × V))(M:Hs)(y z:Str)(x:Int)(N:Nat):Nat->List (AS × V)->Hs->Prop
 | make {kind rec cell:Nat} (h:kind<2) (h1:cellOf M X.m0 y=none) (h2:EG M 1 (X.r * X.w)=rec) (h3:EG M 0 X.m0=cell) (h4:rec<X.r * X.w) (h5:cell<X.m0):Dn X tks M y z x N kind tks (((M.put 1 rec (.mk 1) []).put 3 rec (.rc 1 []) [N]).put 0 cell (.nm y rec) ((N+1)::D2 tks y))
 | link {old rec cell m:Nat} {ps:List Nat} (h1:cellOf M X.m0 z=none) (h2:cellOf M X.m0 y=some old) (h3:old<X.m0) (h4:M 0 old=.nm y rec) (h5:M 3 rec=.rc m ps) (h6:EG M 0 X.m0=cell) (h7:cell<X.m0) (h8:rec<X.r * X.w):Dn X tks M y z x N 2 tks ((M.put 3 rec (.rc (m+1) ps) []).put 0 cell (.nm z rec) (N::D2 tks z))
 | move {old rec cell m:Nat} {ps:List Nat} (h1:cellOf M X.m0 z=none) (h2:cellOf M X.m0 y=some old) (h3:old<X.m0) (h4:M 0 old=.nm y rec) (h5:M 3 rec=.rc m ps) (h6:EG M 0 X.m0=cell) (h7:cell<X.m0) (h8:rec<X.r * X.w):Dn X tks M y z x N 7 (BY tks (.inr y) (.int (N+2:Nat))) ((((M.put 3 rec (.rc (m+1) ps) []).put 0 cell (.nm z rec) (N::D2 tks z)).put 0 old .no [N+1]).put 3 rec (.rc m ps) [N+2])
 | cutOne {cell rec m:Nat} {ps:List Nat} (h1:cellOf M X.m0 y=some cell) (h2:cell<X.m0) (h3:M 0 cell=.nm y rec) (h4:M 3 rec=.rc m ps) (h5:1<m) (h6:rec<X.r * X.w):Dn X tks M y z x N 3 (BY tks (.inr y) (.int N)) ((M.put 0 cell .no []).put 3 rec (.rc (m - 1) ps) [N])
 | cutAll {cell rec m:Nat} {ps:List Nat} (h1:cellOf M X.m0 y=some cell) (h2:cell<X.m0) (h3:M 0 cell=.nm y rec) (h4:M 3 rec=.rc m ps) (h5:m<=1) (h6:rec<X.r * X.w) (h7:∀ p∈ps,p<X.c * X.w) (h8:ps.length<=12):Dn X tks M y z x N 3 (BY tks (.inr y) (.int N)) ((((M.put 0 cell .no []).put 3 rec .no [N]).unmark (N+1) ps).put 1 rec (.mk 0) [N+1])
 | put {kind cell rec m p:Nat} {ps:List Nat} (h:kind=4\/kind=5) (h1:cellOf M X.m0 y=some cell) (h2:cell<X.m0) (h3:M 0 cell=.nm y rec) (h4:M 3 rec=.rc m ps) (h5:EG M 2 (X.c * X.w)=p) (h6:p<X.c * X.w) (h7:rec<X.r * X.w) (h8:ps.length<=12):Dn X tks M y z x N kind tks (((M.put 2 p (.mk 1) []).put 4 p (.tx (JY x)) [N]).put 3 rec (.rc m (ps++[p])) [N+1])
 | take {cell rec m k p:Nat} {ps:List Nat} (h1:cellOf M X.m0 y=some cell) (h2:cell<X.m0) (h3:M 0 cell=.nm y rec) (h4:M 3 rec=.rc m ps) (h5:UI x=k) (h6:ps[k]? =some p) (h7:rec<X.r * X.w) (h8:p<X.c * X.w) (h9:ps.length<=12):Dn X tks M y z x N 6 tks ((M.put 3 rec (.rc m (ps.eraseIdx k)) []).put 2 p (.mk 0) [N])
def UL(K:η)(a:Ad):Sp:=λvs H Q _=>∃ (X:SX) (cs:List Ch) (tks:List (AS × V)) (M:Hs) (kind:Nat) (y z:Str) (x:Int),vs=[.ref X.S.st,.int kind,.str y,.str z,.int x]/\DM K a/\TD K a/\C45 a H X cs tks M/\cs.length<920/\kind<8/\B7 y=true/\B7 z=true /\
 (∀ H',Same H H'->Q .non H') /\
 ∀ d ex tks' M' l H',C45 a H' X (cs++ex) tks' M'->ex.length=d->d<=15->Dn X tks M y z x cs.length kind tks' M'->SameBut (λx=>X.S.A.F x\/x=X.S.tk) H H'->H l=none->H' l=some (.lst (AW ((ag d).map (cs.length+·))))->Q (.ref l) H'
abbrev pK(n r c w kind k:Nat):List AS:=[.inl ((AY n r c w kind k:Nat):Int),.inl ((k % w:Nat):Int)]
inductive LaidL(n r c w:Nat)(B:Addr->Prop)(H:Hp):List Addr->List AC->Prop
 | nil:LaidL n r c w B H [] []
 | snoc {rs:List Addr} {as:List AC} {t pl nl:Addr} {x:AC} {v:V} {nds:List Int}:LaidL n r c w B H rs as->H t=some (.tup [.ref pl,v,.ref nl])->H pl=some (.tup [.int (AY n r c w x.kind x.k:Nat),.int (x.k % w:Nat)])->RepC H x.x v->H nl=some (.lst (nds.map V.int))->¬ B nl->nds.Pairwise (· <·)->(∀ y:Int,y∈nds↔(∃ j∈x.nd,y=(j:Nat))\/∃ j:Nat,ET x.kind x.k as=some j/\y=j)->x.kind<5->x.k<AT n r c w x.kind->LaidL n r c w B H (rs++[t]) (x::as)
structure LM(B:Addr->Prop)(H:Hp)(hd la rw:Addr)(n r c w:Nat)(M:Hs):Prop where
 hn:∃ kh,H hd=some (.dT kh)/\kh.length<=M.as.length/\∀ kind k,kind<5->k<AT n r c w kind->(ET kind k M.as=none/\BT kh (pK n r c w kind k)=none)\/∃ v,BT kh (pK n r c w kind k)=some v/\RepC H (M kind k) v/\ET kind k M.as≠none
 ls:∃ kl,H la=some (.dT kl)/\kl.length<=M.as.length/\∀ kind k,kind<5->k<AT n r c w kind->BT kl (pK n r c w kind k)=(ET kind k M.as).map λ(j:Nat)=>V.int j
 rs:∃ rs:List Addr,H rw=some (.lst (rs.map V.ref))/\LaidL n r c w B H rs M.as
 b0:M.b=λ_ _=>.no
 ap:hd≠la
 nb:B hd/\B la/\B rw
 ok:∀ kind k,kind<5->k<AT n r c w kind->EB kind (M kind k)
abbrev LF(hd la rw:Addr)(y:Addr):Prop:=y=hd\/y=la\/y=rw
def FS(K:η)(a:Ad):Sp:=λvs H Q _=>∃ (B:Addr->Prop) (hd la rw pl nl:Addr) (n r c w kind k:Nat) (M:Hs) (x:CV) (v:V) (ns:List Int),vs=[.ref hd,.ref la,.ref rw,.ref pl,v,.ref nl]/\LM B H hd la rw n r c w M/\kind<5/\k<AT n r c w kind/\EB kind x/\H pl=some (.tup [.int (AY n r c w kind k:Nat),.int (k % w:Nat)])/\RepC H x v/\H nl=some (.lst (ns.map V.int))/\ns.length<=60/\(∀ y∈ns,0<=y)/\M.as.length<=980/\(∀ y,H y=none->¬ B y) /\
 ∀ H',LM B H' hd la rw n r c w (M.put kind k x (EW ns))->SameBut (LF hd la rw) H H'->Q (.int M.as.length) H'
def PlL(H:Hp)(p:Addr)(n r c w kind:Nat):Prop:=∃ ts:List Addr,H p=some (.lst (ts.map V.ref))/\ts.length=AT n r c w kind/\∀ (k:Nat) t,ts[k]? =some t->H t=some (.tup [.int (AY n r c w kind k:Nat),.int (k % w:Nat)])
def QT(K:η)(a:Ad):Sp:=λvs H Q _=>∃ (B:Addr->Prop) (hd la rw p:Addr) (n r c w kind:Nat) (M:Hs),vs=[.int (AT n r c w kind:Nat),.ref hd,.ref p,.bl (decide (0<kind))]/\LM B H hd la rw n r c w M/\kind<3/\PlL H p n r c w kind/\AT n r c w kind<=1000/\Q (.int (EG M kind (AT n r c w kind))) H
def K4(M:Hs)(m:Nat)(z:Str):Int:=match cellOf M m z with
 | some k=>k
 | none=> -1
def UM(K:η)(a:Ad):Sp:=λvs H Q _=>∃ (B:Addr->Prop) (ly hd la rw:Addr) (n r c w:Nat) (M:Hs) (z:Str),vs=[.ref ly,.ref hd,.str z]/\D1 K a/\LayAt a H ly n r c w/\LM B H hd la rw n r c w M/\n * w<=1000/\∀ H',Same H H'->Q (.int (K4 M (n * w) z)) H'
def TkL(H:Hp)(td:Addr)(tks:List (AS × V))(N:Nat):Prop:=∃ kt,H td=some (.dK kt)/\kt.length<=N/\∀ z,BT kt (.inr z)=(HL tks z).map λ(j:Nat)=>V.int j
def QU(K:η)(a:Ad):Sp:=λvs H Q _=>∃ (B:Addr->Prop) (ly hd la rw td:Addr) (n r c w rec need cell:Nat) (M:Hs) (tks:List (AS × V)) (z:Str),vs=[.ref ly,.ref hd,.ref la,.ref rw,.ref td,.str z,.int rec,.int need]/\D1 K a/\LayAt a H ly n r c w/\LM B H hd la rw n r c w M/\TkL H td tks 1000/\n * w<=1000/\EG M 0 (n * w)=cell/\cell<n * w/\M.as.length<=980/\(∀ y,H y=none->¬ B y) /\
 ∀ H',LM B H' hd la rw n r c w (M.put 0 cell (.nm z rec) (need::D2 tks z))->SameBut (LF hd la rw) H H'->Q (.int M.as.length) H'
def UN(K:η)(a:Ad):Sp:=λvs H Q _=>∃ (B:Addr->Prop) (ly hd la rw td:Addr) (X:SX) (M M':Hs) (tks tks':List (AS × V)) (y z:Str) (x:Int) (kind N:Nat),vs=[.ref ly,.ref hd,.ref la,.ref rw,.ref td,.str y]/\D1 K a/\LayAt a H ly X.n X.r X.c X.w/\LM B H hd la rw X.n X.r X.c X.w M/\TkL H td tks N/\N<=900/\X.n<=6/\X.r<=6/\X.c<=6/\X.w<=6/\kind<2/\Dn X tks M y z x M.as.length kind tks' M'/\M.as.length<=930/\(∀ y,H y=none->¬ B y) /\
 ∀ H',LM B H' hd la rw X.n X.r X.c X.w M'->TkL H' td tks' (N+1)->SameBut (λy=>LF hd la rw y\/y=td) H H'->Q .non H'
def UO(K:η)(a:Ad):Sp:=λvs H Q _=>∃ (B:Addr->Prop) (ly hd la rw td:Addr) (X:SX) (M M':Hs) (tks tks':List (AS × V)) (y z:Str) (x:Int) (kind N:Nat),vs=[.ref ly,.ref hd,.ref la,.ref rw,.ref td,.int kind,.str y,.str z]/\D1 K a/\LayAt a H ly X.n X.r X.c X.w/\LM B H hd la rw X.n X.r X.c X.w M/\TkL H td tks N/\N<=900/\X.n<=6/\X.r<=6/\X.c<=6/\X.w<=6/\(kind=2\/kind=3\/kind=7)/\Dn X tks M y z x M.as.length kind tks' M'/\M.as.length<=930/\(∀ y,H y=none->¬ B y) /\
 ∀ H',LM B H' hd la rw X.n X.r X.c X.w M'->TkL H' td tks' (N+1)->SameBut (λy=>LF hd la rw y\/y=td) H H'->Q .non H'
def UP(K:η)(a:Ad):Sp:=λvs H Q _=>∃ (B:Addr->Prop) (ly hd la rw td:Addr) (X:SX) (M M':Hs) (tks tks':List (AS × V)) (y z:Str) (x:Int) (kind N:Nat),vs=[.ref ly,.ref hd,.ref la,.ref rw,.int kind,.str y,.int x]/\D1 K a/\LayAt a H ly X.n X.r X.c X.w/\LM B H hd la rw X.n X.r X.c X.w M/\TkL H td tks N/\N<=900/\X.n<=6/\X.r<=6/\X.c<=6/\X.w<=6/\4<=kind/\kind<7/\Dn X tks M y z x M.as.length kind tks' M'/\M.as.length<=930/\(∀ y,H y=none->¬ B y) /\
 ∀ H',LM B H' hd la rw X.n X.r X.c X.w M'->TkL H' td tks' (N+1)->SameBut (λy=>LF hd la rw y\/y=td) H H'->Q .non H'
def UQ(K:η)(a:Ad):Sp:=λvs H Q _=>∃ (B:Addr->Prop) (hd la rw l:Addr) (X:SX) (cs:List Ch) (tks:List (AS × V)) (M:Hs) (N d:Nat),vs=[.ref X.S.A.b,.ref l,.ref rw,.int N]/\DM K a/\C45 a H X cs tks M/\LM B H hd la rw X.n X.r X.c X.w M/\cs.length=N+d/\H l=some (.lst (AW ((ag d).map (N+·))))/\∀ H',Same H H'->Q (.bl true) H'
def UR(K:η)(a:Ad):Sp:=λvs H Q _=>∃ (B:Addr->Prop) (hd la rw:Addr) (X:SX) (cs:List Ch) (tks:List (AS × V)) (M:Hs) (N:Nat),vs=[.ref X.S.A.b,.ref hd,.ref la,.ref rw,.int N]/\DM K a/\C45 a H X cs tks M/\LM B H hd la rw X.n X.r X.c X.w M/\N<=cs.length/\∀ H',Same H H'->Q (.bl true) H'
def ShL(H:Hp)(sd:Addr)(n r c w:Nat)(S:Md)(N:Nat):Prop:=∃ ks,H sd=some (.dT ks)/\ks.length<=N/\∀ kind k,kind<5->k<AT n r c w kind->RepC H (S kind k) ((BT ks (pK n r c w kind k)).getD .non)
def Y5(K:η)(a:Ad):Sp:=λvs H Q _=>∃ (X:SX) (cs:List Ch) (tks:List (AS × V)) (M:Hs) (sd:Addr) (N:Nat),vs=[.ref X.S.lp,.ref X.S.A.gp,.ref sd]/\DM K a/\C45 a H X cs tks M/\ShL H sd X.n X.r X.c X.w (sh M.b (λj=>X.outs (j:Nat)) M.as) N/\∀ H',Same H H'->Q (.bl true) H'
def GnL(H:Hp)(gn:Addr)(outs:Int->Bool)(N:Nat):Prop:=∃ gs:List Bool,H gn=some (.lst (gs.map V.bl))/\gs.length<=N/\(∀ (k:Nat) b,gs[k]? =some b->outs k=b)/\∀ k:Nat,gs.length<=k->outs k=false
def QW(K:η)(a:Ad):Sp:=λvs H Q _=>∃ (B:Addr->Prop) (hd la rw gn sd:Addr) (X:SX) (cs:List Ch) (tks:List (AS × V)) (M:Hs) (b N:Nat),vs=[.ref X.S.lp,.ref X.S.A.gp,.ref X.S.st,.ref rw,.ref gn,.ref sd,.int b]/\DM K a/\C45 a H X cs tks M/\LM B H hd la rw X.n X.r X.c X.w M/\b<X.n+X.r+X.c+X.r+X.c/\GnL H gn X.outs cs.length/\ShL H sd X.n X.r X.c X.w (sh M.b (λj=>X.outs (j:Nat)) M.as) N/\N<=70000/\sd≠hd/\sd≠la/\gn≠rw/\(B gn/\B sd/\¬ X.S.A.F gn/\¬ X.S.A.F sd)/\(∀ x,X.S.A.F x\/x=X.S.tk\/x=X.S.A.gp->B x) /\
 ∀ rows nn outs H',C45 a H' { X with rows:=rows,nn:=nn,outs:=outs } cs tks M->GnL H' gn outs cs.length->ShL H' sd X.n X.r X.c X.w (sh M.b (λj=>outs (j:Nat)) M.as) (N+990)->SameBut (λx=>X.S.A.F x\/x=X.S.A.gp\/x=gn\/x=sd) H H'->Q (.bl true) H'
def zc7(K:η)(a:Ad):Sp:=λvs H Q _=>∃ (s:Addr) (ns:List Int),vs=[.ref s]/\DM K a/\TD K a/\SqL K H s (ns.map V.int)/\ns.length<=63/\∀ H',Q (.bl true) H'
end L2
namespace L2
abbrev FK:=η
abbrev XE:=St->XK
abbrev RT:=FK->Ad->XE->XE->TS
def A3{f g:RT}(h:∀ K a E E1,f K a E E1=g K a E E1){K a E E1 D σ H}:f K a E E1 D σ H=g K a E E1 D σ H:=by rw[h]
abbrev FT:TE:=tC (.int 0)
abbrev DC:TE:=tC (.int 1)
abbrev M7:TE:=tC (.int 2)
abbrev JC:TE:=tC (.int 3)
abbrev oF:TE:=tC (.int 4)
abbrev QX:TE:=tC (.int 5)
abbrev QY:TE:=tC (.int 6)
abbrev QZ:TE:=tC (.int 7)
abbrev Y6:TE:=tC (.int 8)
abbrev Q0:TE:=tC (.int 9)
abbrev EC(n:Int):TE:=tC (.int n)
abbrev AJ(x0:TE):TA:=BG x0 BV
abbrev BX(x0 x1:TE):TA:=BG x0 (BG x1 BV)
abbrev D3(x0 x1 x2:TE):TA:=BG x0 (BG x1 (BG x2 BV))
abbrev DN(x0 x1 x2 x3:TE):TA:=BG x0 (BG x1 (BG x2 (BG x3 BV)))
abbrev CW(K:η)(x:TE)(n:Int):TE:=AG (CB K) x (tC (.int n))
abbrev AD:TE:=DZ 0
abbrev AQ:TE:=DZ 1
abbrev FU:TE:=DZ 10
abbrev M8:TE:=DZ 11
abbrev JZ:TE:=DZ 12
abbrev OG:TE:=DZ 13
abbrev L9:TE:=DZ 14
abbrev M9:TE:=DZ 15
abbrev Y7:TE:=DZ 16
abbrev Q1:TE:=DZ 17
abbrev oI:TE:=DZ 18
abbrev zc8:TE:=DZ 19
abbrev A4:TE:=DZ 2
abbrev BD:TE:=DZ 3
abbrev BS:TE:=DZ 4
abbrev CN:TE:=DZ 5
abbrev DX:TE:=DZ 6
abbrev F4:TE:=DZ 7
abbrev G6:TE:=DZ 8
abbrev FJ:TE:=DZ 9
section
variable{K:FK}{a:Ad}{n:Nat}{E E1:XE}{D:Ends}{σ:St}{H:Hp}
local macro_rules
 |`(command|example : $x:term := $t:term)=>do
  let i:=Lean.mkIdent
  let n:=x.raw.getId
  return Lean.mkNullNode #[←`(command|def $(i n):ident : RT := fun $(i `K):ident $(i `a):ident $(i `E):ident $(i `E1):ident => $t),←`(command|theorem $(i (n.appendAfter "_")):ident : type_of%(@A3 _ _ $(i (n++`eq_1))) := rfl)]
example:oJ:=(EZ K AD AQ "place")
example:oM:=(EZ K AD A4 "value")
example:oN:=(EZ K AD BD "needs")
def Y8(K:FK)(a:Ad)(E:XE):TS:=(AH (oJ K a E E) (AH (oM K a E E) (oN K a E E)))
example:oO:=(HV (a "NoChange") E (AJ (tC (.str "there is no change of such a number"))))
example:oQ:=(B0 (GD (BR (G2 F8 HA FT A4 (C0 (EL K) (AJ (A6 K AD "made")))))) (oO K a E E) CO)
example:oU:=(EO (F2 K AQ) (AM 2) (oQ K a E E))
def Y9(K:FK)(a:Ad)(E:XE):TS:=(oU K a E E)
example:oW:=(BE (C0 (MW K) (AJ (PR K AD))))
example:oY:=(B0 (BR (AG JT AQ (tC .non))) (oW K a E E) CO)
example:o0:=(BE (C0 (MW K) (AJ (PR K (AG (B1 K) (C0 (KW K) (AJ AD)) (BW (AJ AQ)))))))
def US(K:FK)(a:Ad)(E:XE):TS:=(AH (oY K a E E) (o0 K a E E))
example:pA:=(BE BD)
example:pB:=(B0 (LB (BR (LU BD (A6 K AD "outs"))) (BR (LU BD A4))) (pA K a E E) CO)
example:pC:=(EO (F2 K (A6 K (AG (CB K) (A6 K AD "made") AQ) "needs")) (AM 3) (pB K a E E))
example:pD:=(BE (tC .non))
def ZE(K:FK)(a:Ad)(E:XE):TS:=(AH (pC K a E E) (pD K a E E))
example:pE:=(AX (C0 (KW K) (AJ AQ)) (AM 3))
example:pF:=(AX (A6 K (AG (CB K) (A6 K AD "made") BS) "value") (OY BD (CW K (A6 K (AG (CB K) (A6 K AD "made") BS) "place") 1) SR))
example:pG:=(B0 (BR (LT BS (A6 K AD "outs"))) (pF K a E E) CO)
example:pH:=(EO (F2 K (AG (CB K) (A6 K AD "made_in") A4)) (AM 4) (pG K a E E))
example:pJ:=(BE BD)
def ZK(K:FK)(a:Ad)(E:XE):TS:=(AH (pE K a E E) (AH (pH K a E E) (pJ K a E E)))
example:pL:=(BE (MT (G2 F8 F8 (tC (.str " ")) AD (tC (.str "~"))) (AG (EK K) (C0 (SW K) (AJ AD)) (EC 37))))
def ZL(K:FK)(a:Ad)(E:XE):TS:=(pL K a E E)
example:pM:=(BE (MT (G2 F8 F8 DC (C0 (EL K) (AJ AD)) Y6) (C0 (PN K) (AJ (EQ (SV AD) (AM 0) DY (G2 F8 F8 (tC (.str "a")) AD (tC (.str "z"))) 1 [])))))
def ZM(K:FK)(a:Ad)(E:XE):TS:=(pM K a E E)
example:pN:=(BE (A6 K AD "book"))
def ZN(K:FK)(a:Ad)(E:XE):TS:=(pN K a E E)
example:pO:=(EZ K AD (EQ (FA (AJ AQ)) (AM 0) DY (AG (HB K) (DP (AJ (tC .non))) AQ) 1 [2]) "contents")
example:pP:=(EZ K AD A4 "width")
example:pQ:=(EZ K AD FT "written")
def ZO(K:FK)(a:Ad)(E:XE):TS:=(AH (pO K a E E) (AH (pP K a E E) (pQ K a E E)))
example:pR:=(BE (C0 (EL K) (AJ (A6 K AD "contents"))))
def ZP(K:FK)(a:Ad)(E:XE):TS:=(pR K a E E)
example:pT:=(BE (A6 K AD "width"))
def ZQ(K:FK)(a:Ad)(E:XE):TS:=(pT K a E E)
example:pU:=(BE (A6 K AD "written"))
def ZR(K:FK)(a:Ad)(E:XE):TS:=(pU K a E E)
example:pV:=(HV (a "NoBlock") E (AJ (tC (.str "there is no such block"))))
example:pW:=(B0 (GD (BR (G2 F8 HA FT AQ (C0 (EL K) (AJ (A6 K AD "contents")))))) (pV K a E E) CO)
def ZS(K:FK)(a:Ad)(E:XE):TS:=(pW K a E E)
example:pX:=(EZ K AD AQ "name_blocks")
example:pY:=(EZ K AD A4 "record_blocks")
example:pZ:=(EZ K AD BD "piece_blocks")
example:p0:=(EZ K AD BS "width")
def ZT(K:FK)(a:Ad)(E:XE):TS:=(AH (pX K a E E) (AH (pY K a E E) (AH (pZ K a E E) (p0 K a E E))))
example:qA:=(BE (DP (D3 (AG (HB K) (A6 K AD "name_blocks") (A6 K AD "width")) (AG (HB K) (A6 K AD "record_blocks") (A6 K AD "width")) (AG (HB K) (A6 K AD "piece_blocks") (A6 K AD "width")))))
def ZU(K:FK)(a:Ad)(E:XE):TS:=(qA K a E E)
example:qB:=(BE (AG (B1 K) (AG (B1 K) (A6 K AD "name_blocks") (A6 K AD "record_blocks")) (A6 K AD "piece_blocks")))
def ZV(K:FK)(a:Ad)(E:XE):TS:=(qB K a E E)
example:qC:=(BE (DP (BX (AG (B1 K) AQ (AG DW A4 (A6 K AD "width"))) (AG DQ A4 (A6 K AD "width")))))
def ZW(K:FK)(a:Ad)(E:XE):TS:=(qC K a E E)
example:qD:=(BE (AG (CB K) AD AQ))
example:qE:=(B0 (BR (AG HA AQ (C0 (EL K) (AJ AD)))) (qD K a E E) CO)
example:qF:=(BE FT)
def ZX(K:FK)(a:Ad)(E:XE):TS:=(AH (qE K a E E) (qF K a E E))
example:qG:=(AX (tC (.str "abcdefghijklmnopqrstuvwxyz")) (AM 1))
example:qH:=(AX (tC (.str "")) (AM 2))
example:qI:=(AX (AG DW AD QY) (AM 3))
example:qJ:=(AX (AG (B1 K) A4 (AG (CB K) AQ (AG DQ (AG (B1 K) BD (AG (HB K) (AG (HB K) QZ BS) (AG DQ (AG DW BD (EC 26)) QX))) (EC 26)))) (AM 2))
example:qK:=(AX (AG (B1 K) (AG DW BD (EC 29)) (AG (HB K) JC BS)) (AM 3))
example:qL:=(EO (FA (AJ (AG (B1 K) DC (AG DQ AD QY)))) (AM 4) (AH (qJ K a E E) (qK K a E E)))
example:qM:=(AX (AG DQ (AG DW AD QZ) (C0 (EL K) (AJ A4))) (AM 5))
example:qN:=(AX (AG (CB K) AQ (AG DQ (AG DW AD (EC 11)) (EC 26))) (AM 6))
example:qO:=(AX (AG (CB K) AQ (AG DQ (AG (B1 K) (AG (B1 K) (AG DW AD (EC 11)) DC) (AG DQ (AG DW AD (EC 13)) (EC 25))) (EC 26))) (AM 7))
example:qP:=(AX (AG (CB K) AQ (AG DQ (AG (B1 K) (AG (B1 K) (GH K "str" mF AQ (AJ (AG (CB K) A4 CN))) DC) (AG DQ (AG DW AD (EC 17)) (EC 25))) (EC 26))) (AM 8))
example:qQ:=(BE (BW (BG A4 (DN (AG (B1 K) A4 F4) (AG (B1 K) DX A4) (AG (B1 K) (AG (B1 K) (JN (IU K) A4 JM (HX CN)) G6) (JN (IU K) A4 (HX (AG (B1 K) CN DC)) JM)) (AG (B1 K) (AG (B1 K) A4 F4) DX)))))
def ZY(K:FK)(a:Ad)(E:XE):TS:=(AH (qG K a E E) (AH (qH K a E E) (AH (qI K a E E) (AH (qL K a E E) (AH (qM K a E E) (AH (qN K a E E) (AH (qO K a E E) (AH (qP K a E E) (qQ K a E E)))))))))
example:qR:=(AX (tC (.str " !\"#$&'()*+,-./0123456789:;<=>?@ABCDEFGHIJKLMNOPQRSTUVWXYZ[\\]^_`")) (AM 1))
example:qS:=(AX (AG (B1 K) AQ (tC (.str "abcdefghijklmnopqrstuvwxyz{|}~"))) (AM 1))
example:qT:=(AX (AG (B1 K) DC (AG DQ AD QX)) (AM 2))
example:qU:=(AX (AG LS (EC 40) (AG DQ (AG DW AD (EC 40)) M7)) (AM 2))
example:qV:=(B0 (BR (AG (DR K) (AG DQ (AG DW AD QX) Y6) JC)) (qU K a E E) CO)
example:ZZ:=(AX (AG (B1 K) DC (AG DQ (AG DW AD (EC 19)) (EC 93))) (AM 3))
example:Z0:=(AX (AG (B1 K) DC (AG DQ (AG DW AD QZ) JC)) (AM 4))
example:Z1:=(BE (GH K "str" (mB K) (tC (.str "")) (AJ (EQ (FA (AJ A4)) (AM 0) DY (AG (CB K) AQ (AG DQ (AG (B1 K) (AG DW A4 JC) (AG (HB K) BD (AG DW AD BS))) (EC 94))) 1 [1,0,3,4]))))
def Z2(K:FK)(a:Ad)(E:XE):TS:=(AH (qR K a E E) (AH (qS K a E E) (AH (qT K a E E) (AH (qV K a E E) (AH (ZZ K a E E) (AH (Z0 K a E E) (Z1 K a E E)))))))
example:qW:=(BE (AG LS (AG DQ AD oF) DC))
example:qX:=(B0 (BR (AG (DR K) (AG DQ (AG DW AD (EC 28)) M7) FT)) (qW K a E E) CO)
example:qY:=(BE (AG LS (AG DQ AD (EC 14)) DC))
def Z3(K:FK)(a:Ad)(E:XE):TS:=(AH (qX K a E E) (qY K a E E))
example:Z4:=(BE BS)
example:qZ:=(B0 (IM (BR (AG JT (KZ AQ (AG (CB K) A4 BS)) (tC .non))) (LB (GK K BD) (BR (AG (DR K) (KZ AQ (AG (CB K) A4 BS)) FT)))) (Z4 K a E E) CO)
example:rA:=(EO (FA (AJ AD)) (AM 4) (qZ K a E E))
example:Z5:=(BE (NN MU DC))
def Z6(K:FK)(a:Ad)(E:XE):TS:=(AH (rA K a E E) (Z5 K a E E))
example:rB:=(AX (AG (B1 K) CN (BW (AJ (F9 AQ BD)))) (AM 5))
example:rC:=(B0 (BR (LT BD AQ)) (rB K a E E) CO)
example:Z7:=(HH AQ BD (C0 (EL K) (AJ A4)))
example:Z8:=(DF (GH K "list" GU A4 (AJ (DP (D3 BD BS (PR K CN))))))
example:Z9:=(HH AD BD BS)
example:aA:=(BE (F9 AQ BD))
def aB(K:FK)(a:Ad)(E:XE):TS:=(AH (rC K a E E) (AH (Z7 K a E E) (AH (Z8 K a E E) (AH (Z9 K a E E) (aA K a E E)))))
example:rD:=(EZ K AD AQ "ground")
example:rE:=(EZ K AD (BW BV) "made")
example:rF:=(EZ K AD (EQ (FA (AJ (AU (a "Plank") "blocks" (TR K a) E AQ BV))) (AM 0) DY (BW BV) 1 []) "made_in")
example:rG:=(EZ K AD NV "latest")
example:rH:=(EZ K AD NU "outs")
def aC(K:FK)(a:Ad)(E:XE):TS:=(AH (rD K a E E) (AH (rE K a E E) (AH (rF K a E E) (AH (rG K a E E) (rH K a E E)))))
example:rJ:=(DF (AU (a "Hold") "ask_for_changes" (T7 K a) E AD (AJ (BW (AJ AQ)))))
example:rK:=(BE (C0 (KW K) (AJ (A6 K (AG (CB K) (A6 K AD "made") AQ) "needs"))))
def aD(K:FK)(a:Ad)(E:XE):TS:=(AH (rJ K a E E) (rK K a E E))
example:rM:=(HV (a "NoBlock") E (AJ (tC (.str "there is no such place on the plank"))))
example:rN:=(B0 (IM (GD (BR (G2 F8 HA FT (CW K AQ 0) (AU (a "Plank") "blocks" (TR K a) E (A6 K AD "ground") BV)))) (GD (BR (G2 F8 HA FT (CW K AQ 1) (AU (a "Plank") "cells" (XV K a) E (A6 K AD "ground") BV))))) (rM K a E E) CO)
def aE(K:FK)(a:Ad)(E:XE):TS:=(rN K a E E)
example:rO:=(AX (C0 (S0 K) (AJ A4)) (AM 3))
example:rP:=(AX (BW BV) (AM 4))
example:rQ:=(AX (BW BV) (AM 5))
example:rR:=(AX (AU (a "Hold") "lack_of" (YL K a) E AD (BX DX BD)) (AM 7))
example:rS:=(HH BD DX (tC (.bl true)))
example:rT:=(DF (GH K "list" GU BS (AJ DX)))
example:rV:=(DF (GH K "list" GU CN (AJ (DP (BX DX F4)))))
example:rW:=(B0 (BR (AG JT F4 (tC .non))) (AH (rS K a E E) (rT K a E E)) (rV K a E E))
example:rX:=(B0 (LB (BR (LU DX (A6 K AD "outs"))) (BR (LU DX BD))) (AH (rR K a E E) (rW K a E E)) CO)
example:rY:=(EO (F2 K (AG (CB K) (A6 K AD "made_in") AQ)) (AM 6) (rX K a E E))
example:rZ:=(BE (DP (BX BS CN)))
def aQ(K:FK)(a:Ad)(E:XE):TS:=(AH (rO K a E E) (AH (rP K a E E) (AH (rQ K a E E) (AH (rY K a E E) (rZ K a E E)))))
example:r8:=(BE (MT (G2 F8 F8 DC (C0 (EL K) (AJ AD)) (EC 40)) (C0 (PN K) (AJ (EQ (SV AD) (AM 0) DY (B2 (YS K a) (λ_=>E0) (AJ AD)) 1 [])))))
def aR(K:FK)(a:Ad)(E:XE):TS:=(r8 K a E E)
example:sA:=(DF (AU (a "Plank") "ask_for_block" (N7 K a) E AD (AJ AQ)))
example:sB:=(BE (C0 (KW K) (AJ (AG (CB K) (A6 K AD "contents") AQ))))
def aS(K:FK)(a:Ad)(E:XE):TS:=(AH (sA K a E E) (sB K a E E))
example:sC:=(DF (AU (a "Plank") "ask_for_block" (N7 K a) E AD (AJ AQ)))
example:sD:=(HV (a "NoBlock") E (AJ (tC (.str "the list is not as long as a block"))))
example:sE:=(B0 (BR (AG (EK K) (C0 (EL K) (AJ A4)) (A6 K AD "width"))) (sD K a E E) CO)
example:sF:=(AX (C0 (MW K) (AJ A4)) (OY (A6 K AD "contents") AQ SR))
example:sG:=(V3 K AD DC R6 "written")
def aT(K:FK)(a:Ad)(E:XE):TS:=(AH (sC K a E E) (AH (sE K a E E) (AH (sF K a E E) (sG K a E E))))
example:sI:=(BE (AU (a "Layout") "place_from" (MZ K a) E AD (BX FT AQ)))
def aU(K:FK)(a:Ad)(E:XE):TS:=(sI K a E E)
example:sJ:=(BE (AU (a "Layout") "place_from" (MZ K a) E AD (BX (A6 K AD "name_blocks") AQ)))
def aV(K:FK)(a:Ad)(E:XE):TS:=(sJ K a E E)
example:sK:=(BE (AU (a "Layout") "place_from" (MZ K a) E AD (BX (AG (B1 K) (A6 K AD "name_blocks") (A6 K AD "record_blocks")) AQ)))
def aW(K:FK)(a:Ad)(E:XE):TS:=(sK K a E E)
example:sL:=(BE (AU (a "Layout") "place_from" (MZ K a) E AD (BX (AU (a "Layout") "blocks_ahead_of_marks" (QK K a) E AD BV) AQ)))
def aX(K:FK)(a:Ad)(E:XE):TS:=(sL K a E E)
example:sM:=(BE (AU (a "Layout") "place_from" (MZ K a) E AD (BX (AG (B1 K) (AU (a "Layout") "blocks_ahead_of_marks" (QK K a) E AD BV) (A6 K AD "record_blocks")) AQ)))
def aY(K:FK)(a:Ad)(E:XE):TS:=(sM K a E E)
example:sN:=(BE (AG (B1 K) (AG (B1 K) (AU (a "Layout") "blocks_ahead_of_marks" (QK K a) E AD BV) (A6 K AD "record_blocks")) (A6 K AD "piece_blocks")))
def aZ(K:FK)(a:Ad)(E:XE):TS:=(sN K a E E)
example:sO:=(DF (AU (a "Hold") "ask_for_place" (YI K a) E AD (AJ AQ)))
example:sP:=(BE (KZ (A6 K AD "latest") AQ))
def a0(K:FK)(a:Ad)(E:XE):TS:=(AH (sO K a E E) (sP K a E E))
example:sQ:=(AX (AU (a "Plank") "read" (QF K a) E (A6 K AD "ground") (AJ AQ)) (AM 2))
example:sR:=(AX (AU (a "Hold") "outcome" (YM K a) E AD (BX AQ NU)) (AM 3))
example:sS:=(HH (A6 K AD "outs") BS (tC (.bl true)))
example:sT:=(EO (F2 K (CW K BD 0)) (AM 4) (sS K a E E))
example:sU:=(DF (AU (a "Plank") "write" (XW K a) E (A6 K AD "ground") (BX AQ (AU (a "Hold") "laid_over" (YN K a) E AD (BX A4 AQ)))))
example:sV:=(BE BD)
def bA(K:FK)(a:Ad)(E:XE):TS:=(AH (sQ K a E E) (AH (sR K a E E) (AH (sT K a E E) (AH (sU K a E E) (sV K a E E)))))
example:sW:=(BE (KS (a "Plank") (XU K a) E (BX (AU (a "Layout") "blocks" (QL K a) E AD BV) (A6 K AD "width"))))
def bB(K:FK)(a:Ad)(E:XE):TS:=(sW K a E E)
example:sX:=(AX (KZ AQ (AU (a "Layout") "name_at" (IZ K a) E AD (AJ BD))) (AM 4))
example:sY:=(BE BD)
example:sZ:=(B0 (LB (BR (AG MV BS (tC .non))) (BR (AG (DR K) (CW K BS 0) A4))) (sY K a E E) CO)
example:tD:=(EO (FA (AJ (CW K (AU (a "Layout") "counts" (JW K a) E AD BV) 0))) (AM 3) (AH (sX K a E E) (sZ K a E E)))
example:tE:=(BE (NN MU DC))
def bC(K:FK)(a:Ad)(E:XE):TS:=(AH (tD K a E E) (tE K a E E))
example:tF:=(AX (EQ (FA (AJ (CW K (AU (a "Layout") "counts" (JW K a) E AD BV) 0))) (AM 0) DY (AU (a "Layout") "name_at" (IZ K a) (λ_=>E0) AQ (AJ AD)) 1 [0]) (AM 8))
example:tG:=(AX (AG (CB K) G6 (B2 (QT K a) E (DN (C0 (EL K) (AJ G6)) AQ G6 (tC (.bl false))))) (AM 9))
example:tH:=(AX (BW (AJ F4)) (AM 10))
example:tI:=(DF (GH K "list" GU FU (AJ (F9 BS CN))))
example:tJ:=(B0 (BR (LT CN BS)) (tI K a E E) CO)
example:bD:=(BE (B2 (FS K a) E (BG AQ (BG A4 (DN BD FJ (DP (BX CN DX)) FU)))))
def bE(K:FK)(a:Ad)(E:XE):TS:=(AH (tF K a E E) (AH (tG K a E E) (AH (tH K a E E) (AH (tJ K a E E) (bD K a E E)))))
example:zfu:=(BE (tC (.bl false)))
example:tK:=(B0 (IM (GD (GK K (C0 (MN K) (BX AQ (tC (.ty "list")))))) (BR (AG (EK K) AQ (EQ (O1 (BX BD (C0 (EL K) (AJ A4)))) (AM 0) DY AD 1 [])))) (zfu K a E E) CO)
example:zfw:=(BE (tC (.bl false)))
example:tL:=(B0 (IM (GK K (C0 (MN K) (BX (AG (CB K) AQ (AG LS BS BD)) (tC (.ty "bool"))))) (BR (AG (EK K) (AU (a "Hold") "needed" (YJ K a) E AD (AJ BS)) (CW K (AG (CB K) A4 BS) 2)))) (zfw K a E E) CO)
example:tM:=(EO (O1 (BX BD (C0 (EL K) (AJ A4)))) (AM 4) (tL K a E E))
example:tN:=(BE (tC (.bl true)))
def bF(K:FK)(a:Ad)(E:XE):TS:=(AH (tK K a E E) (AH (tM K a E E) (tN K a E E)))
example:tO:=(AX (AU (a "Plank") "read" (QF K a) E AQ (AJ BD)) (AM 4))
example:zf1:=(BE (tC (.bl false)))
example:tP:=(B0 (IM (BR (AG (EK K) (AG (CB K) BS CN) (KZ A4 (DP (BX BD CN))))) (GK K (C0 (MN K) (BX (AG (CB K) BS CN) (tC (.ty "bool")))))) (zf1 K a E E) CO)
example:tQ:=(EO (FA (AJ (C0 (EL K) (AJ BS)))) (AM 5) (tP K a E E))
example:tR:=(EO (FA (AJ (AU (a "Layout") "blocks" (QL K a) E AD BV))) (AM 3) (AH (tO K a E E) (tQ K a E E)))
example:tS:=(BE (tC (.bl true)))
def bG(K:FK)(a:Ad)(E:XE):TS:=(AH (tR K a E E) (tS K a E E))
example:tT:=(AX (AU (a "Hold") "newest" (QN K a) E AD (AJ AQ)) (AM 4))
example:tU:=(DF (AU (a "Hold") "ask_for_changes" (T7 K a) E AD (AJ BD)))
example:tV:=(AX (C0 (EL K) (AJ (A6 K AD "made"))) (AM 5))
example:tW:=(DF (GH K "list" GU (A6 K AD "made") (AJ (KS (a "Change") (YG K a) E (D3 AQ A4 (B2 (YH K a) E (BX BD BS)))))))
example:tX:=(DF (GH K "list" GU (AG (CB K) (A6 K AD "made_in") (CW K AQ 0)) (AJ CN)))
example:tY:=(HH (A6 K AD "latest") AQ CN)
example:tZ:=(BE CN)
def bH(K:FK)(a:Ad)(E:XE):TS:=(AH (tT K a E E) (AH (tU K a E E) (AH (tV K a E E) (AH (tW K a E E) (AH (tX K a E E) (AH (tY K a E E) (tZ K a E E)))))))
example:t4:=(AX (AU (a "Hold") "newest" (QN K a) E AD (AJ AQ)) (AM 2))
example:t5:=(BE (AG (CB K) (AU (a "Plank") "read" (QF K a) E (A6 K AD "ground") (AJ (CW K AQ 0))) (CW K AQ 1)))
example:t7:=(B0 (BR (AG JT A4 (tC .non))) (t5 K a E E) CO)
example:t8:=(BE (A6 K (AG (CB K) (A6 K AD "made") A4) "value"))
def bI(K:FK)(a:Ad)(E:XE):TS:=(AH (t4 K a E E) (AH (t7 K a E E) (t8 K a E E)))
example:uA:=(EZ K AD AQ "plan")
example:uB:=(EZ K AD (KS (a "Hold") (T6 K a) E (AJ A4)) "book")
example:uC:=(EZ K AD NU "taken_out")
def bJ(K:FK)(a:Ad)(E:XE):TS:=(AH (uA K a E E) (AH (uB K a E E) (uC K a E E)))
example:uD:=(BE (AU (a "Hold") "write" (YO K a) E (A6 K AD "book") (AJ AQ)))
def bK(K:FK)(a:Ad)(E:XE):TS:=(uD K a E E)
example:uE:=(AX (EQ (FA (AJ (CW K (AU (a "Layout") "counts" (JW K a) E AD BV) 1))) (AM 0) DY (AU (a "Layout") "record_mark" (L4 K a) (λ_=>E0) AQ (AJ AD)) 1 [0]) (AM 6))
example:uF:=(AX (B2 (QT K a) E (DN (C0 (EL K) (AJ DX)) AQ DX (tC (.bl true)))) (AM 7))
example:uG:=(AX (B2 (FS K a) E (BG AQ (BG A4 (DN BD (AG (CB K) DX F4) DC (BW BV))))) (AM 8))
example:uH:=(AX (B2 (FS K a) E (BG AQ (BG A4 (DN BD (AU (a "Layout") "record_at" (JA K a) E AD (AJ F4)) (DP (BX DC (DP BV))) (BW (AJ G6)))))) (AM 9))
example:uI:=(DF (B2 (QU K a) E (BG AD (BG AQ (BG A4 (BG BD (DN BS CN F4 FJ)))))))
def bL(K:FK)(a:Ad)(E:XE):TS:=(AH (uE K a E E) (AH (uF K a E E) (AH (uG K a E E) (AH (uH K a E E) (uI K a E E)))))
example:uJ:=(AX (AU (a "Layout") "name_at" (IZ K a) E AD (AJ (B2 (UM K a) E (D3 AD AQ DX)))) (AM 8))
example:uK:=(AX (CW K (F9 AQ G6) 1) (AM 9))
example:uL:=(AX (AU (a "Layout") "record_at" (JA K a) E AD (AJ FJ)) (AM 10))
example:uM:=(AX (F9 AQ FU) (LW K 2 (HY (AM 11) (HY (AM 12) LX))))
example:uN:=(AX (B2 (FS K a) E (BG AQ (BG A4 (DN BD FU (DP (BX (AG (B1 K) M8 DC) JZ)) (BW BV))))) (AM 13))
example:uO:=(AX (B2 (QU K a) E (BG AD (BG AQ (BG A4 (BG BD (DN BS F4 FJ OG)))))) (AM 14))
example:uP:=(HH BS DX (B2 (FS K a) E (BG AQ (BG A4 (DN BD G6 (tC .non) (BW (AJ L9)))))))
example:bM:=(DF (B2 (FS K a) E (BG AQ (BG A4 (DN BD FU (DP (BX M8 JZ)) (BW (AJ (F9 BS DX))))))))
example:uQ:=(B0 (BR (AG (DR K) CN QZ)) (AH (uP K a E E) (bM K a E E)) CO)
example:uS:=OX
example:uU:=(B0 (BR (AG (EK K) CN JC)) (AH (uN K a E E) (AH (uO K a E E) (AH (uQ K a E E) (uS K a E E)))) CO)
example:uV:=(HH BS DX (B2 (FS K a) E (BG AQ (BG A4 (DN BD G6 (tC .non) (BW BV))))))
example:uW:=(DF (B2 (FS K a) E (BG AQ (BG A4 (DN BD FU (DP (BX (AG LS M8 DC) JZ)) (BW (AJ (F9 BS DX))))))))
example:uX:=OX
example:uY:=(B0 (BR (AG PK M8 DC)) (AH (uW K a E E) (uX K a E E)) CO)
example:uZ:=(AX (B2 (FS K a) E (BG AQ (BG A4 (DN BD FU (tC .non) (BW (AJ (F9 BS DX))))))) (AM 15))
example:vA:=(DF (B2 (FS K a) E (BG AQ (BG A4 (DN BD (AU (a "Layout") "piece_mark" (JV K a) E AD (AJ Y7)) FT (BW (AJ M9)))))))
example:vB:=(EO (F2 K JZ) (AM 16) (vA K a E E))
example:vC:=(DF (B2 (FS K a) E (BG AQ (BG A4 (DN BD (AU (a "Layout") "record_mark" (L4 K a) E AD (AJ FJ)) FT (BW (AJ M9)))))))
def bN(K:FK)(a:Ad)(E:XE):TS:=(AH (uJ K a E E) (AH (uK K a E E) (AH (uL K a E E) (AH (uM K a E E) (AH (uU K a E E) (AH (uV K a E E) (AH (uY K a E E) (AH (uZ K a E E) (AH (vB K a E E) (vC K a E E))))))))))
example:vE:=(AX (AU (a "Layout") "record_at" (JA K a) E AD (AJ (CW K (F9 AQ (AU (a "Layout") "name_at" (IZ K a) E AD (AJ (B2 (UM K a) E (D3 AD AQ CN))))) 1))) (AM 7))
example:vF:=(AX (F9 AQ F4) (LW K 2 (HY (AM 8) (HY (AM 9) LX))))
example:vG:=(AX (B2 (UK K a) E (AJ DX)) (AM 10))
example:vH:=(AX (B2 (FS K a) E (BG AQ (BG A4 (DN BD F4 (DP (BX G6 (AG (B1 K) (JN (IU K) FJ JM (HX FU)) (JN (IU K) FJ (HX (AG (B1 K) FU DC)) JM)))) (BW BV))))) (AM 11))
example:vI:=(DF (B2 (FS K a) E (BG AQ (BG A4 (DN BD (AU (a "Layout") "piece_mark" (JV K a) E AD (AJ (AG (CB K) FJ FU))) FT (BW (AJ M8)))))))
example:vJ:=OX
example:vK:=(B0 (BR (AG (DR K) BS QY)) (AH (vG K a E E) (AH (vH K a E E) (AH (vI K a E E) (vJ K a E E)))) CO)
example:vL:=(AX (EQ (FA (AJ (CW K (AU (a "Layout") "counts" (JW K a) E AD BV) 2))) (AM 0) DY (AU (a "Layout") "piece_mark" (JV K a) (λ_=>E0) AQ (AJ AD)) 1 [0]) (AM 12))
example:vM:=(AX (B2 (QT K a) E (DN (C0 (EL K) (AJ JZ)) AQ JZ (tC (.bl true)))) (AM 13))
example:vN:=(AX (B2 (FS K a) E (BG AQ (BG A4 (DN BD (AG (CB K) JZ OG) DC (BW BV))))) (AM 14))
example:vO:=(AX (B2 (FS K a) E (BG AQ (BG A4 (DN BD (AU (a "Layout") "piece_at" (QJ K a) E AD (AJ OG)) (B2 (UJ K a) E (AJ DX)) (BW (AJ L9)))))) (AM 15))
example:vP:=(DF (B2 (FS K a) E (BG AQ (BG A4 (DN BD F4 (DP (BX G6 (AG (B1 K) FJ (DP (AJ OG))))) (BW (AJ M9)))))))
def bO(K:FK)(a:Ad)(E:XE):TS:=(AH (vE K a E E) (AH (vF K a E E) (AH (vK K a E E) (AH (vL K a E E) (AH (vM K a E E) (AH (vN K a E E) (AH (vO K a E E) (vP K a E E))))))))
example:vQ:=(BE BD)
example:vR:=(B0 (BR (AG (S6 K) (AU (a "Hold") "in_hand" (OE K a) E AD (AJ BS)) A4)) (vQ K a E E) CO)
example:vS:=(EO (N5 K (AJ AQ)) (LW K 2 (HY (AM 3) (HY (AM 4) LX))) (vR K a E E))
example:vT:=(HV (a "NoRoom") E (AJ (tC (.str "nothing of what is to be taken is free"))))
def bP(K:FK)(a:Ad)(E:XE):TS:=(AH (vS K a E E) (vT K a E E))
example:vU:=(BE (EQ (FA (AJ (CW K (AU (a "Layout") "counts" (JW K a) E (A6 K AD "plan") BV) 0))) (AM 0) DY (AU (a "Hold") "in_hand" (OE K a) (λ_=>E0) (A6 K AQ "book") (AJ (AU (a "Layout") "name_at" (IZ K a) (λ_=>E0) (A6 K AQ "plan") (AJ AD)))) 1 [0]))
def bQ(K:FK)(a:Ad)(E:XE):TS:=(vU K a E E)
example:vV:=(BE (AU (a "Hold") "in_hand" (OE K a) E (A6 K AD "book") (AJ (AU (a "Layout") "record_at" (JA K a) E (A6 K AD "plan") (AJ AQ)))))
def bR(K:FK)(a:Ad)(E:XE):TS:=(vV K a E E)
example:vW:=(AX (BW (AJ BS)) (AM 5))
example:vX:=(DF (GH K "list" GU CN (AJ (F9 (A6 K AD "taken_out") A4))))
example:vY:=(B0 (BR (LT A4 (A6 K AD "taken_out"))) (vX K a E E) CO)
example:bS:=(BE (AU (a "Hold") "change" (G5 K a) E (A6 K AD "book") (D3 (AU (a "Layout") "name_at" (IZ K a) E (A6 K AD "plan") (AJ AQ)) (DP (BX A4 BD)) CN)))
def bT(K:FK)(a:Ad)(E:XE):TS:=(AH (vW K a E E) (AH (vY K a E E) (bS K a E E)))
example:zht:=(BE (tC (.bl false)))
example:vZ:=(B0 (IM (BR (AG (EK K) (AU (a "Hold") "in_hand" (OE K a) E AD (AJ (CW K CN 0))) (F9 AQ (CW K CN 0)))) (BR (AG (EK K) (AU (a "Hold") "newest" (QN K a) E AD (AJ (CW K CN 0))) (F9 A4 (CW K CN 0))))) (zht K a E E) CO)
example:v3:=(EO (F2 K (JN (IU K) BD (HX BS) JM)) (AM 5) (vZ K a E E))
example:v4:=(BE (tC (.bl true)))
def bU(K:FK)(a:Ad)(E:XE):TS:=(AH (v3 K a E E) (v4 K a E E))
example:v5:=(AX (BW BV) (AM 7))
example:v6:=(AX (BW BV) (AM 8))
example:v7:=(DF (GH K "list" GU BS (AJ (tC (.bl false)))))
example:v8:=(B0 (BR (AG (DR K) FJ (C0 (EL K) (AJ BS)))) (v7 K a E E) CO)
example:v9:=(AX (EQ (F2 K (CW K (AG (CB K) BD FJ) 2)) (AM 0) (GD (GK K (AG (CB K) AQ AD))) AD 1 [4]) (AM 10))
example:wA:=(AX (tC (.bl true)) (OY BS FJ SR))
example:wB:=(DF (GH K "list" GU F4 (AJ FJ)))
example:wC:=(HH CN (CW K (AG (CB K) BD FJ) 0) (CW K (AG (CB K) BD FJ) 1))
example:wD:=(DF (GH K "list" GU G6 (AJ (DP (BX FJ (CW K FU 0))))))
example:wE:=(B0 (BR (AG (DR K) FU (BW BV))) (AH (wA K a E E) (AH (wB K a E E) (wC K a E E))) (wD K a E E))
example:bV:=(B0 (LB (GD (GK K (AG (CB K) BS FJ))) (BR (AG (DR K) (CW K (CW K (AG (CB K) BD FJ) 0) 0) DX))) (AH (v9 K a E E) (wE K a E E)) CO)
example:wF:=(EO (FA (AJ (C0 (EL K) (AJ BD)))) (AM 9) (AH (v8 K a E E) (bV K a E E)))
example:wG:=(AX (AU (a "Plank") "writings" (TU K a) E AQ BV) (AM 11))
example:wH:=(AX (AU (a "Store") "write" (Y3 K a) E A4 (AJ DX)) (AM 12))
example:zib:=(BE (tC (.bl false)))
example:wI:=(B0 (IM (GD (GK K (C0 (MN K) (BX JZ (tC (.ty "tuple")))))) (IM (BR (AG (EK K) JZ (DP (BX F4 G6)))) (BR (AG (EK K) (AU (a "Plank") "writings" (TU K a) E AQ BV) (AG (B1 K) M8 DC))))) (zib K a E E) CO)
example:wJ:=(BE (B2 (Y5 K a) E (D3 AD AQ CN)))
def bW(K:FK)(a:Ad)(E:XE):TS:=(AH (v5 K a E E) (AH (v6 K a E E) (AH (wF K a E E) (AH (wG K a E E) (AH (wH K a E E) (AH (wI K a E E) (wJ K a E E)))))))
example:wK:=(AX (EQ (FA (AJ (CW K (AU (a "Layout") "counts" (JW K a) E AD BV) 0))) (AM 0) DY (AU (a "Layout") "name_at" (IZ K a) (λ_=>E0) AQ (AJ AD)) 1 [0]) (AM 2))
example:wL:=(BE (B2 (OF K a) E (D3 AQ A4 (DP (AJ (tC .non))))))
def bX(K:FK)(a:Ad)(E:XE):TS:=(AH (wK K a E E) (wL K a E E))
example:wM:=(AX (EQ (FA (AJ (CW K (AU (a "Layout") "counts" (JW K a) E AD BV) 1))) (AM 0) DY (AU (a "Layout") "record_mark" (L4 K a) (λ_=>E0) AQ (AJ AD)) 1 [0]) (AM 2))
example:wN:=(BE (B2 (OF K a) E (D3 AQ A4 (DP (BX (tC .non) FT)))))
def bY(K:FK)(a:Ad)(E:XE):TS:=(AH (wM K a E E) (wN K a E E))
example:wO:=(AX (EQ (FA (AJ (CW K (AU (a "Layout") "counts" (JW K a) E AD BV) 2))) (AM 0) DY (AU (a "Layout") "piece_mark" (JV K a) (λ_=>E0) AQ (AJ AD)) 1 [0]) (AM 2))
example:wP:=(BE (B2 (OF K a) E (D3 AQ A4 (DP (BX (tC .non) FT)))))
def bZ(K:FK)(a:Ad)(E:XE):TS:=(AH (wO K a E E) (wP K a E E))
example:wQ:=(BE A4)
example:wR:=(B0 (LB (BR (AG MV BD (tC .non))) (BR (AG (DR K) (CW K BD 0) AQ))) (wQ K a E E) CO)
example:wS:=(EO (N5 K (AJ (AU (a "Store") "name_cells" (UB K a) E AD BV))) (LW K 2 (HY (AM 2) (HY (AM 3) LX))) (wR K a E E))
example:wT:=(BE (tC .non))
def cA(K:FK)(a:Ad)(E:XE):TS:=(AH (wS K a E E) (wT K a E E))
example:wU:=(AX (AU (a "Store") "standing" (L7 K a) E AD (AJ AQ)) (AM 4))
example:wV:=(BE (AU (a "Hold") "change" (G5 K a) E (A6 K AD "book") (D3 (AU (a "Layout") "record_at" (JA K a) E (A6 K AD "plan") (AJ AQ)) (DP (BX (AG (B1 K) (CW K BS 0) A4) (CW K BS 1))) BD)))
def cB(K:FK)(a:Ad)(E:XE):TS:=(AH (wU K a E E) (wV K a E E))
example:wW:=(BE (AU (a "Hold") "change" (G5 K a) E (A6 K AD "book") (D3 (AU (a "Layout") "record_at" (JA K a) E (A6 K AD "plan") (AJ AQ)) (DP (BX (CW K (AU (a "Store") "standing" (L7 K a) E AD (AJ AQ)) 0) A4)) BD)))
def cC(K:FK)(a:Ad)(E:XE):TS:=(wW K a E E)
example:wX:=(AX (CW K (AU (a "Store") "standing" (L7 K a) E AD (AJ AQ)) 1) (AM 3))
example:wY:=(AX (AU (a "Hold") "change" (G5 K a) E (A6 K AD "book") (D3 (AU (a "Layout") "record_at" (JA K a) E (A6 K AD "plan") (AJ AQ)) (tC .non) (BW (AJ A4)))) (AM 4))
example:wZ:=(AX (BW (AJ BS)) (AM 5))
example:w5:=(DF (GH K "list" GU CN (AJ (AU (a "Hold") "change" (G5 K a) E (A6 K AD "book") (D3 DX FT (BW (AJ BS)))))))
example:w6:=(EO (F2 K (AG (B1 K) (EQ (F2 K BD) (AM 0) DY (AU (a "Layout") "piece_mark" (JV K a) (λ_=>E0) (A6 K AQ "plan") (AJ AD)) 1 [0]) (BW (AJ (AU (a "Layout") "record_mark" (L4 K a) E (A6 K AD "plan") (AJ AQ)))))) (AM 6) (w5 K a E E))
example:w8:=(BE CN)
def cD(K:FK)(a:Ad)(E:XE):TS:=(AH (wX K a E E) (AH (wY K a E E) (AH (wZ K a E E) (AH (w6 K a E E) (w8 K a E E)))))
example:w9:=(HV (a "NoName") E (AJ (tC (.str "the text is no name"))))
example:xA:=(B0 (GD (GK K (C0 (PN K) (AJ (EQ (F2 K A4) (AM 0) DY (B2 (YT K a) (λ_=>E0) (AJ AD)) 1 []))))) (w9 K a E E) CO)
example:xB:=(HV (a "Twice") E (AJ (tC (.str "the new name stands already"))))
example:xC:=(B0 (BR (AG MV (AU (a "Store") "cell_of" (QR K a) E AD (AJ AQ)) (tC .non))) (xB K a E E) CO)
def cE(K:FK)(a:Ad)(E:XE):TS:=(AH (xA K a E E) (xC K a E E))
example:xD:=(AX (AU (a "Store") "cell_of" (QR K a) E AD (AJ AQ)) (AM 2))
example:xE:=(HV (a "NoName") E (AJ (tC (.str "no such name stands"))))
example:xF:=(B0 (BR (AG JT A4 (tC .non))) (xE K a E E) CO)
example:xG:=(BE (CW K (AG (CB K) (AU (a "Store") "name_cells" (UB K a) E AD BV) A4) 1))
def cF(K:FK)(a:Ad)(E:XE):TS:=(AH (xD K a E E) (AH (xF K a E E) (xG K a E E)))
example:xH:=(AX (AU (a "Hold") "change" (G5 K a) E (A6 K AD "book") (D3 (AU (a "Layout") "name_at" (IZ K a) E (A6 K AD "plan") (AJ (AU (a "Store") "cell_of" (QR K a) E AD (AJ AQ)))) (tC .non) A4)) (AM 3))
example:xI:=(HH (A6 K AD "taken_out") AQ BD)
example:xJ:=(BE BD)
def cG(K:FK)(a:Ad)(E:XE):TS:=(AH (xH K a E E) (AH (xI K a E E) (xJ K a E E)))
example:xK:=(DF (AU (a "Store") "ask_for_new_name" (UC K a) E AD (BX AQ (BW (AJ AQ)))))
example:xL:=(AX (B2 (YQ K a) E (BX (A6 K AD "plan") (A6 K AD "book"))) (AM 2))
example:xM:=(AX (B2 (UA K a) E (BX (A6 K AD "plan") (A6 K AD "book"))) (AM 3))
example:xN:=(AX (AU (a "Hold") "change" (G5 K a) E (A6 K AD "book") (D3 (AU (a "Layout") "record_mark" (L4 K a) E (A6 K AD "plan") (AJ A4)) DC (BW BV))) (AM 4))
example:xO:=(AX (AU (a "Hold") "change" (G5 K a) E (A6 K AD "book") (D3 (AU (a "Layout") "record_at" (JA K a) E (A6 K AD "plan") (AJ A4)) (DP (BX DC (DP BV))) (BW (AJ BS)))) (AM 5))
example:xP:=(BE (BW (D3 BS CN (AU (a "Store") "fill_cell" (UE K a) E AD (DN BD AQ A4 CN)))))
def cH(K:FK)(a:Ad)(E:XE):TS:=(AH (xK K a E E) (AH (xL K a E E) (AH (xM K a E E) (AH (xN K a E E) (AH (xO K a E E) (xP K a E E))))))
example:xQ:=(DF (AU (a "Store") "ask_for_new_name" (UC K a) E AD (BX A4 (BW (BX AQ A4)))))
example:xR:=(AX (AU (a "Store") "record_of" (M5 K a) E AD (AJ AQ)) (AM 3))
example:xS:=(AX (B2 (UA K a) E (BX (A6 K AD "plan") (A6 K AD "book"))) (AM 4))
example:xT:=(AX (AU (a "Store") "recount" (QS K a) E AD (D3 BD DC (BW BV))) (AM 5))
example:xU:=(BE (BW (BX CN (AU (a "Store") "fill_cell" (UE K a) E AD (DN BS A4 BD CN)))))
def cI(K:FK)(a:Ad)(E:XE):TS:=(AH (xQ K a E E) (AH (xR K a E E) (AH (xS K a E E) (AH (xT K a E E) (xU K a E E)))))
example:xV:=(AX (AU (a "Store") "record_of" (M5 K a) E AD (AJ AQ)) (AM 2))
example:xW:=(AX (AU (a "Store") "empty_cell" (UG K a) E AD (BX AQ (BW BV))) (AM 3))
example:xX:=(BE (BW (BX BD (AU (a "Store") "recount" (QS K a) E AD (D3 A4 (NN MU DC) (BW (AJ BD)))))))
example:xY:=(B0 (BR (AG PK (CW K (AU (a "Store") "standing" (L7 K a) E AD (AJ A4)) 0) DC)) (xX K a E E) CO)
example:xZ:=(BE (AG (B1 K) (BW (AJ BD)) (AU (a "Store") "drop_record" (YX K a) E AD (BX A4 BD))))
def cJ(K:FK)(a:Ad)(E:XE):TS:=(AH (xV K a E E) (AH (xW K a E E) (AH (xY K a E E) (xZ K a E E))))
example:yA:=(AX (AU (a "Store") "record_of" (M5 K a) E AD (AJ AQ)) (AM 3))
example:yB:=(HV (a "NoPiece") E (AJ (tC (.str "the text is none of a piece"))))
example:yC:=(B0 (GD (GK K (B2 (YU K a) E (AJ A4)))) (yB K a E E) CO)
example:yD:=(AX (B2 (YR K a) E (BX (A6 K AD "plan") (A6 K AD "book"))) (AM 4))
example:yE:=(AX (AU (a "Hold") "change" (G5 K a) E (A6 K AD "book") (D3 (AU (a "Layout") "piece_mark" (JV K a) E (A6 K AD "plan") (AJ BS)) DC (BW BV))) (AM 5))
example:yF:=(AX (AU (a "Hold") "change" (G5 K a) E (A6 K AD "book") (D3 (AU (a "Layout") "piece_at" (QJ K a) E (A6 K AD "plan") (AJ BS)) A4 (BW (AJ CN)))) (AM 6))
example:yG:=(BE (BW (D3 CN DX (AU (a "Store") "regroup" (UF K a) E AD (D3 BD (AG (B1 K) (CW K (AU (a "Store") "standing" (L7 K a) E AD (AJ BD)) 1) (DP (AJ BS))) (BW (AJ DX)))))))
def cK(K:FK)(a:Ad)(E:XE):TS:=(AH (yA K a E E) (AH (yC K a E E) (AH (yD K a E E) (AH (yE K a E E) (AH (yF K a E E) (yG K a E E))))))
example:yH:=(AX (AU (a "Store") "record_of" (M5 K a) E AD (AJ AQ)) (AM 3))
example:yI:=(AX (CW K (AU (a "Store") "standing" (L7 K a) E AD (AJ BD)) 1) (AM 4))
example:yJ:=(HV (a "NoPiece") E (AJ (tC (.str "the record has no piece at that place"))))
example:yK:=(B0 (GD (BR (G2 F8 HA FT A4 (C0 (EL K) (AJ BS))))) (yJ K a E E) CO)
example:yL:=(AX (AU (a "Store") "regroup" (UF K a) E AD (D3 BD (AG (B1 K) (JN (IU K) BS JM (HX A4)) (JN (IU K) BS (HX (AG (B1 K) A4 DC)) JM)) (BW BV))) (AM 5))
example:yM:=(BE (BW (BX CN (AU (a "Hold") "change" (G5 K a) E (A6 K AD "book") (D3 (AU (a "Layout") "piece_mark" (JV K a) E (A6 K AD "plan") (AJ (AG (CB K) BS A4))) FT (BW (AJ CN)))))))
def cM(K:FK)(a:Ad)(E:XE):TS:=(AH (yH K a E E) (AH (yI K a E E) (AH (yK K a E E) (AH (yL K a E E) (yM K a E E)))))
example:yN:=(AX (AU (a "Store") "link" (UH K a) E AD (BX AQ A4)) (AM 3))
example:yO:=(AX (AU (a "Store") "record_of" (M5 K a) E AD (AJ AQ)) (AM 4))
example:yP:=(AX (AU (a "Store") "empty_cell" (UG K a) E AD (BX AQ (BW (AJ (CW K BD 1))))) (AM 5))
example:yQ:=(BE (AG (B1 K) BD (BW (BX CN (AU (a "Store") "recount" (QS K a) E AD (D3 BS (NN MU DC) (BW (AJ CN))))))))
def cN(K:FK)(a:Ad)(E:XE):TS:=(AH (yN K a E E) (AH (yO K a E E) (AH (yP K a E E) (yQ K a E E))))
example:yR:=(AX (tC .non) (AM 5))
example:yS:=(AX (AU (a "Store") "make" (YY K a) E1 AD (AJ A4)) (AM 5))
example:yT:=(AX (AU (a "Store") "link" (UH K a) E1 AD (BX A4 BD)) (AM 5))
example:yU:=(AX (AU (a "Store") "cut" (YZ K a) E1 AD (AJ A4)) (AM 5))
example:yV:=(AX (AU (a "Store") "put" (Y0 K a) E1 AD (BX A4 (B2 (UJ K a) E1 (AJ BS)))) (AM 5))
example:yW:=(AX (AU (a "Store") "take" (Y1 K a) E1 AD (BX A4 (B2 (UK K a) E1 (AJ BS)))) (AM 5))
example:yX:=(AX (AU (a "Store") "move" (Y2 K a) E1 AD (BX A4 BD)) (AM 5))
example:yY:=(B0 (BR (AG (DR K) AQ QY)) (yW K a E E1) (yX K a E E1))
example:yZ:=(B0 (BR (AG HA AQ QY)) (yV K a E E1) (yY K a E E1))
example:y7:=(B0 (BR (AG (DR K) AQ JC)) (yU K a E E1) (yZ K a E E1))
example:y8:=(B0 (BR (AG (DR K) AQ M7)) (yT K a E E1) (y7 K a E E1))
example:zA:=(B0 (BR (AG HA AQ M7)) (yS K a E E1) (y8 K a E E1))
example:cO:=(AX (tC .non) (AM 5))
example:cP:=(AX (tC .non) (AM 5))
example:zD:=(WM (λE1=>(zA K a E E1)) (PJ (λcls=>ij K cls [.ref (a "NoName") ,.ref (a "Twice") ]) (cP K a E E) (PJ (λcls=>ij K cls [.ref (a "NoPiece") ,.ref (a "NoRoom") ]) (cO K a E E) WL)))
example:UZ:=(BE CN)
def cQ(K:FK)(a:Ad)(E:XE):TS:=(AH (yR K a E E) (AH (zD K a E E) (UZ K a E E)))
example:zE:=(AX (B2 (QM K a) E (BX AD FT)) (AM 1))
example:zF:=(AX (KS (a "Layout") (YC K a) E (DN (AG (B1 K) DC (AG DQ AQ JC)) (AG (B1 K) DC (AG DQ (AG DW AQ JC) JC)) (AG (B1 K) DC (AG DQ (AG DW AQ Q0) JC)) (AG (B1 K) DC (AG DQ (AG DW AQ (EC 27)) oF)))) (AM 2))
example:zG:=(AX (AU (a "Layout") "plank" (YD K a) E A4 BV) (AM 3))
example:zH:=(AX (KS (a "Store") (YV K a) E (BX A4 BD)) (AM 4))
example:zI:=(AX (B2 (Y4 K a) E (AJ (AG DW AQ (EC 108)))) (AM 5))
example:zJ:=(AX NV (AM 6))
example:zK:=(AX NV (AM 7))
example:zL:=(AX NU (AM 8))
example:zM:=(AX (AU (a "Store") "hold" (YW K a) E BS BV) (AM 9))
example:zN:=(AX (BW BV) (AM 10))
example:zO:=(AX (BW BV) (AM 11))
example:zP:=(AX NV (AM 12))
example:zQ:=(AX (BW BV) (AM 13))
example:zR:=(AX (AG DQ AQ Q0) (AM 14))
example:zS:=(VY 15 16 (BX (AG (CB K) CN (AG DQ (AG DW AQ Q0) QX)) (AG (CB K) CN (AG DQ (AG DW AQ (EC 45)) QX))))
example:zky:=(BE (tC (.bl false)))
example:zT:=(B0 (GD (GK K (B2 (QW K a) E (BG A4 (BG BD (BG BS (DN FU M8 JZ (AG DQ (AG DW AQ Q0) (AU (a "Layout") "blocks" (QL K a) E A4 BV))))))))) (zky K a E E) CO)
example:zU:=RM
example:zV:=(B0 (BR (AG (DR K) L9 Y6)) (AH (zT K a E E) (zU K a E E)) CO)
example:zW:=(AX (B2 (UL K a) E (BG BS (DN L9 M9 Y7 (AG DW AQ (EC 225))))) (AM 17))
example:zX:=RM
example:zY:=(B0 (BR (AG JT Q1 (tC .non))) (zX K a E E) CO)
example:z6:=(AX (C0 (EL K) (AJ FU)) (AM 18))
example:z7:=(DF (B2 (UN K a) E (BG A4 (BG DX (DN F4 FU G6 M9)))))
example:z8:=(DF (B2 (UO K a) E (BG A4 (BG DX (BG F4 (BG FU (DN G6 L9 M9 Y7)))))))
example:z9:=(DF (B2 (UP K a) E (BG A4 (BG DX (BG F4 (DN FU L9 M9 (AG DW AQ (EC 225))))))))
example:Ab:=(B0 (BR (AG (S4 K) L9 (DP (D3 M7 JC QZ)))) (z8 K a E E) (z9 K a E E))
example:Ac:=(B0 (BR (AG HA L9 M7)) (z7 K a E E) (Ab K a E E))
example:U0:=(AX (B2 (UQ K a) E (DN FJ Q1 FU oI)) (AM 19))
example:zlb:=(BE (tC (.bl false)))
example:U1:=(B0 (IM (GD (GK K zc8)) (GD (GK K (B2 (UR K a) E (BG FJ (DN DX F4 FU oI)))))) (zlb K a E E) CO)
example:Ag:=(DF (GH K "list" GU OG (AJ (DP (BX Q1 (C0 (KW K) (AJ Q1)))))))
example:Ah:=(DF (V9 K "list" Rl Q1))
example:U2:=(B0 (BR (AG (DR K) (AG DQ (AG DW AQ Q0) M7) FT)) (Ag K a E E) (Ah K a E E))
example:Aj:=(EO (F2 K (JN (IU K) AD (HX DC) JM)) (AM 1) (AH (zR K a E E) (AH (zS K a E E) (AH (zV K a E E) (AH (zW K a E E) (AH (zY K a E E) (AH (z6 K a E E) (AH (Ac K a E E) (AH (U0 K a E E) (AH (U1 K a E E) (U2 K a E E)))))))))))
example:cR:=(BE (AG (DR K) (EQ (F2 K OG) (AM 0) (BR (AG (EK K) (CW K AD 0) (CW K AD 1))) AD 1 []) (BW BV)))
def cS(K:FK)(a:Ad)(E:XE):TS:=(AH (zE K a E E) (AH (zF K a E E) (AH (zG K a E E) (AH (zH K a E E) (AH (zI K a E E) (AH (zJ K a E E) (AH (zK K a E E) (AH (zL K a E E) (AH (zM K a E E) (AH (zN K a E E) (AH (zO K a E E) (AH (zP K a E E) (AH (zQ K a E E) (AH (Aj K a E E) (cR K a E E)))))))))))))))
end
end L2
namespace L2
local macro_rules
 |`(tactic|push_cast [$l,*])=>do
  let g:=fun (s:String)=>((s.splitOn " ").map fun n=>Lean.mkIdent n.toName).toArray
  let a←(g "Rx Ry Rz Sb Sc Sd Sg Sj Sk Sl zai zaj Sq Sv Sw zal zas Sx Sy Sz Tb zad zab zaf Zz zah Tc Td Tg Th Tj Tl zcf zch zcj Tm Tp zcd Tq Tv Tw zb5 Tx zb8 zb6 Ty zb9 Tz Zh Zj XM Zk Zl Zm Zp mI Zq Zv mK zan zao zap zaq Ub Uc Ug Uh WV Um Uq Up zax zaw zay Uv Uw Uk Uj Ul Ux za0 za1 za2 za3 za4 za5 za6 za7 za8 za9 zba zbb zbc zbd zbe zbf zbg zbh zbi zbj zbk zbl Vl zbp zbr zbt zbv zbx zbz zb1 zb3 Yh Yj Yk Yg Zc zcb Wc Wb").mapM fun n=>`(Lean.Parser.Tactic.simpLemma|↓$n:term)
  let b←(g "LS DQ DW rPw MU Qx Ends.drop start Zw Zx cf na List.reduceReplicate Nat.reduceAdd Nat.reduceSub jy ua List.getElem?_cons_zero List.getElem?_cons_succ Bt wm zn List.set_cons_succ V.int.injEq V.ref.injEq V.bl.injEq V.str.injEq Fu and_true true_and exists_eq_left' exists_eq_left exists_eq' exists_eq exists_and_left exists_and_right reduceCtorEq false_and and_false or_false false_or exists_false decide_eq_true_eq Au Ei decide_eq_false_iff_not eq_self_iff_true if_true iy if_false ite_true Bool.true_eq_false forall_const and_assoc Int.reduceToNat Int.reduceLT Int.reduceLE Int.reduceEq Nat.reduceLeDiff ai not_true_eq_false not_false_eq_true").mapM fun n=>`(Lean.Parser.Tactic.simpLemma|$n:term)
  `(tactic|simp only [$a,*,$b,*,$l,*])
def nO{H:Hp}{t:Addr}{o:HO}{P:Hp->Prop}(h:H t=none)(k:∀ H',Same H H'->H' t=some o->P H'):P (upd H t o):=k _ (AL h) AF
section
variable{K:η}{a:Ad}{vs:List V}{H:Hp}{Q:VK}{E:XK}
def zli:QM K a vs H Q E->ZX K a (λ_=>E) (BC Q) (start ["",""] vs) H:=by
 apply u3;rintro s ns k ⟨rfl,hs,hl,q⟩;push_cast[ZX,↓qD_,↓qE_,↓qF_];refine⟨ns.length,?_,?_⟩
 ·exact .inl ⟨_,hs,(ν _).symm⟩
 split
 ·rename_i hk
  have hk:k<ns.length:=bv.mp hk;refine D5 hs rfl (v:=.int (M3 ns k)) ?_ q;unfold M3;rw[ρ,ζ hk];simp[Ix,hk]
 ·rename_i hk
  have:M3 ns k=0:=by
   unfold M3;rw[uy,bx (by omega)];rfl
  rw[this]at q;exact q
def zlj:XU K a vs H Q E->ZO K a (λ_=>E) (BC Q) (start ["","",""] vs) H:=by
 apply u4;rintro p dx m w ⟨rfl,T,hp,hm,h1,h2,q⟩;push_cast[ZO,↓pO_,↓pP_,↓pQ_];refine⟨i0,by omega,?_⟩;refine NY (C4 m (oA hm rfl)) (λi ys H'=>Same H H'/\∃ ts:List Addr,ys=ts.map V.ref/\Paired (λt r=>H' t=some (.tup r)) ts (ah i (ah w .non))) ⟨Same.refl _,[],rfl,.nil⟩ (λi ys H' hi hl hzz=> ?_) (λys H' hl ⟨s,ts,e,P⟩ cl BM=> ?_)
 ·obtain⟨s,ts,e,P⟩:=hzz;push_cast[D8,wm,pq];refine⟨by decide,λt ht=>.inr ?_⟩
  have fin:∀ (t':Addr) (H2:Hp),Same H' H2->H2 t'=some (.tup (ah w .non))->Same H H2/\∃ ts':List Addr,ys++[V.ref t']=ts'.map V.ref/\Paired (λt r=>H2 t=some (.tup r)) ts' (ah (i+1) (ah w .non)):=λt' H2 s2 e2=>by
   refine⟨s.trans s2,ts++[t'],by rw[e,bo];rfl,?_⟩;rw[List.replicate_succ'];exact Paired.snoc (Paired.mapP P λt r z=>s2 _ _ z) e2
  have s1:Same H' (upd H' t (.tup [V.non])):=λb o z=>by rw[AO (BL z ht)];exact z
  refine x3 t w [.non] ⟨rfl,rfl,SqT.of AF,by simp,by omega,by omega,C4 _ (by simp;exact oA h2 rfl),λe1=> ?_,λe1 u hu=> ?_⟩
  ·have e1:w=1:=bc e1;refine fin t _ s1 ?_;rw[AF,e1];rfl
  ·rw[ai,lB];exact fin u _ (s1.trans λb o z=>by rw[AO (BL z hu)];exact z) AF
 ·have npc:p≠cl:=BL (s _ _ hp) BM
  have e1:upd H' cl (HO.lst ys) p=some (HO.ins (a "Plank") dx []):=by rw[AO npc];exact s _ _ hp
  refine y3 ⟨e1,T.cl,T.nC,by decide,y3 ⟨AF,T.cl,T.nW,KQ (by decide),y3 ⟨AF,T.cl,T.nN,KQ (n:=1000) (l_ (KQ (n:=999) (by decide))),?_⟩⟩⟩;rw[zcl,IL,IL];refine q cl _ (s.free BM) ⟨⟨dx,AF⟩,⟨ts,by rw[AO npc.symm,AF,e],?_⟩,λr hr=> ?_,by simpa using hm,h2⟩ λb o eb hb=> ?_
  ·refine Paired.mapP P λt r z=> ?_;rw[AO (A0 z (s _ _ hp) (by intro z';cases z')),AO (BL z BM)];exact z
  ·rw[mx hr,pz]
  ·rw[AO hb,AO (BL (s _ _ eb) BM)];exact s _ _ eb
def zlk:TR K a vs H Q E->ZP K a (λ_=>E) (BC Q) (start [""] vs) H:=by
 apply u5;rintro p cl w rows n ⟨rfl,T,P,q⟩;obtain⟨dx,h1⟩:=P.ob;obtain⟨ts,h2,h3⟩:=P.ls;push_cast[ZP,↓pR_];refine y3 ⟨h1,T.cl,T.nC,_,TQ _ _ _,rows.length,.inl ⟨_,SqL.of h2,?_⟩,q⟩;rw[ν,h3.length]
def zll:XV K a vs H Q E->ZQ K a (λ_=>E) (BC Q) (start [""] vs) H:=by
 apply u5;rintro p cl w rows n ⟨rfl,T,P,q⟩;obtain⟨dx,h1⟩:=P.ob;push_cast[ZQ,↓pT_];exact y3 ⟨h1,T.cl,T.nW,_,mR _ _ _,q⟩
def zlm:N7 K a vs H Q E->ZS K a (λ_=>E) (BC Q) (start ["",""] vs) H:=by
 apply u6;rintro p cl w rows n b ⟨rfl,T,P,q,qe⟩;obtain⟨dx,h1⟩:=P.ob;obtain⟨ts,h2,h3⟩:=P.ls;push_cast[ZS,↓pV_,↓pW_]
 have hl:rows.length=(ts.map V.ref).length:=by rw[ν,h3.length]
 split
 ·rename_i h0;refine y3 ⟨h1,T.cl,T.nC,_,TQ _ _ _,rows.length,.inl ⟨_,SqL.of h2,hl⟩,?_⟩;split
  ·exact⟨by decide,qe (by omega)⟩
  ·exact q h0 (by omega)
 ·exact⟨by decide,qe (by omega)⟩
def Ak(cl:Addr)(w n:Int):(pf cl w n).lookup ("ask_for_block":Str)=none:=N6 _ _ _ (by decide +kernel) (by decide +kernel) (by decide +kernel)
def zln:QF K a vs H Q E->aS K a (λ_=>E) (BC Q) (start ["",""] vs) H:=by
 apply u6;rintro p cl w rows n b ⟨rfl,T,P,q,qe⟩;obtain⟨dx,h1⟩:=P.ob;obtain⟨ts,h2,h3⟩:=P.ls;push_cast[aS,↓sA_,↓sB_,N7];refine y2 ⟨h1,Ak _ _ _,T,x3 cl w rows ⟨⟨n,P⟩,λh0 hb=>y3 ⟨h1,T.cl,T.nC,_,TQ _ _ _,?_⟩,qe⟩⟩;obtain⟨i,rfl⟩:∃ i:Nat,b=i:=⟨b.toNat,(c_ h0).symm⟩
 have hi:i<rows.length:=bv.mp hb;obtain⟨t,et,ht⟩:=PL h3 (ζ hi);refine D5 (SqL.of h2) rfl (v:=.ref t) (by rw[ρ,et];rfl) ?_;exact⟨_,.inr (SqT.of ht),q i _ rfl (ζ hi)⟩
def zlo:XW K a vs H Q E->aT K a (λ_=>E) (BC Q) (start ["","",""] vs) H:=by
 apply u8;rintro p cl w rows n b v xs ⟨rfl,T,P,hv,hx,q,qe⟩;obtain⟨dx,h1⟩:=P.ob;obtain⟨ts,h2,h3⟩:=P.ls
 have npc:=P.ne;push_cast[aT,↓sC_,↓sD_,↓sE_,↓sF_,↓sG_,N7];refine y2 ⟨h1,Ak _ _ _,T,x3 cl w rows ⟨⟨n,P⟩,λh0 hb=>⟨xs.length,.inl ⟨_,hv,rfl⟩,y3 ⟨h1,T.cl,T.nW,_,mR _ _ _,?_⟩⟩,λz=>qe (z.imp id .inl)⟩⟩;obtain⟨i,rfl⟩:∃ i:Nat,b=i:=⟨b.toNat,(c_ h0).symm⟩
 have hi:i<rows.length:=bv.mp hb;push_cast[];split
 ·exact⟨by decide,qe (.inr (.inr (by omega)))⟩
 ·rename_i hw
  have hw:xs.length=w:=by omega
  refine⟨xs,.inl ⟨hv,λt ht=> ?_⟩⟩
  have ntp:p≠t:=BL h1 ht
  have ntc:cl≠t:=BL h2 ht;refine y3 ⟨by rw[AO ntp];exact h1,T.cl,T.nC,_,TQ _ _ _,?_⟩;refine x4 cl (ts.map V.ref) (i:Int) i ⟨rfl,rfl,by rw[AO ntc];exact h2,?_,?_⟩
  ·unfold JO;rw[if_pos (by exact i0),if_pos (by rw[ν,h3.length];exact hb),ai]
  ·refine y3 ⟨by rw[AO npc,AO ntp];exact h1,T.cl,T.nN,_,mS _ _ _,?_⟩;push_cast[];refine y2 ⟨by rw[AO npc,AO ntp];exact h1,by show 3<1000;decide,?_⟩;rw[zcm];refine q i rfl hi hw _ ⟨⟨dx,AF⟩,⟨ts.set i t,?_,?_⟩,λr hr=> ?_,by rw[fq];exact P.sz,P.sw⟩ λx o ex hxn=> ?_
   ·rw[AO npc.symm,AF,Jo]
   ·have keep:∀ u r,H u=some (.tup r)->upd (upd (upd H t (.tup xs)) cl (.lst ((ts.map V.ref).set i (.ref t)))) p (.ins (a "Plank") dx (pf cl w ((n:Int)+1))) u=some (.tup r):=λu r hu=>by
     rw[AO (A0 hu h1 (by intro z;cases z)),AO (A0 hu h2 (by intro z;cases z)),AO (BL hu ht)];exact hu
    refine lA ?_ i (Paired.mapP h3 keep);rw[AO ntp.symm,AO ntc.symm,AF]
   ·rcases mh hr with z | z
    ·exact P.wd r z
    ·rw[z];exact hw
   ·have hxn:x≠p/\x≠cl:=⟨λz=>hxn (.inl z),λz=>hxn (.inr z)⟩
    rw[AO hxn.1,AO hxn.2,AO (BL ex ht)];exact ex
def cT(cl:Addr)(w n:Int):(pf cl w n).lookup ("read":Str)=none:=N6 _ _ _ (by decide +kernel) (by decide +kernel) (by decide +kernel)
def zlp(cl:Addr)(w n:Int):(pf cl w n).lookup ("write":Str)=none:=N6 _ _ _ (by decide +kernel) (by decide +kernel) (by decide +kernel)
def zlq:TU K a vs H Q E->ZR K a (λ_=>E) (BC Q) (start [""] vs) H:=by
 apply u5;rintro p cl w rows n ⟨rfl,T,P,q⟩;obtain⟨dx,h1⟩:=P.ob;push_cast[ZR,↓pU_];exact y3 ⟨h1,T.cl,T.nN,_,mS _ _ _,q⟩
def GP{f:Str}{v:V}{fs:List (Str × V)}{n:Nat}(h:fs.length<n):(BI f v fs).length<n+1:=cz (O4 f v fs) (l_ h)
def SameBut.none{b:Addr}{H H1:Hp}{x:Addr}(s:SameBut (· =b) H H1)(hb:H1 b≠vm)(h:H1 x=vm):H x=vm:=by
 cases e:H x with
 | none=>rfl
 | some o =>
  have:x≠b:=λz=>hb (z ▸ h);rw[s _ _ e this]at h;cases h
def zlr:YG K a vs H Q E->Y8 K a (λ_=>E) (BC Q) (start ["","","",""] vs) H:=by
 apply u5;rintro x dx pl v nt ⟨rfl,T,hx,q⟩;push_cast[Y8,↓oJ_,↓oM_,↓oN_];refine y3 ⟨hx,T.cc,T.nP,by decide,y3 ⟨AF,T.cc,T.nV,GP (n:=999) (by decide),y3 ⟨AF,T.cc,T.nN,GP (n:=999) (GP (n:=998) (by decide)),?_⟩⟩⟩;rw[zcp,IL,IL];exact q
def zls:T6 K a vs H Q E->aC K a (λ_=>E) (BC Q) (start ["",""] vs) H:=by
 apply u7;rintro b gp cl dx w rows n ⟨rfl,T,TP,P,hb,q⟩;push_cast[aC,↓rD_,↓rE_,↓rF_,↓rG_,↓rH_];refine y3 ⟨hb,T.cl,T.nG,by decide,by decide,?_⟩
 have e1:upd H b (.ins (GA a) dx (BI "ground" (.ref gp) [])) b=some (.ins (GA a) dx (BI "ground" (.ref gp) [])):=AF
 have s1:SameBut (· =b) H (upd H b (.ins (GA a) dx (BI "ground" (.ref gp) []))):=λx o e n=>by rw[AO n];exact e
 revert e1 s1;generalize upd H b (.ins (GA a) dx (BI "ground" (.ref gp) []))=H1;intro e1 s1 m hm
 have nbm:b≠m:=BL e1 hm
 have hmH:=s1.none (by rw[e1];intro z;cases z) hm;refine y3 ⟨by rw[AO nbm];exact e1,T.cl,T.nM,GP (n:=999) (by decide),?_⟩
 have s2:SameBut (· =b) H (upd (upd H1 m (.lst [])) b (.ins (GA a) dx (BI "made" (.ref m) (BI "ground" (.ref gp) [])))):=(s1.upd (.inr hmH)).upd (.inl rfl)
 have e2:upd (upd H1 m (.lst [])) b (.ins (GA a) dx (BI "made" (.ref m) (BI "ground" (.ref gp) []))) b=some (.ins (GA a) dx (BI "made" (.ref m) (BI "ground" (.ref gp) []))):=AF
 have m2:upd (upd H1 m (.lst [])) b (.ins (GA a) dx (BI "made" (.ref m) (BI "ground" (.ref gp) []))) m=some (.lst []):=by rw[AO nbm.symm,AF]
 revert s2 e2 m2;generalize upd (upd H1 m (.lst [])) b (.ins (GA a) dx (BI "made" (.ref m) (BI "ground" (.ref gp) [])))=H2;intro s2 e2 m2
 have gb:∀ x xs,(· =b) x->H x≠some (.tup xs):=λx xs e=>by rw[show x=b from e,hb];intro z;cases z
 have ncl:¬ cl=b:=by obtain⟨ts,z,_⟩:=P.ls;exact A0 z hb (by intro z;cases z)
 have P2:PlankAt a H2 gp cl w rows n:=by
  obtain⟨⟨dx',f1⟩,⟨ts,f2,f3⟩,r1,r2,r3⟩:=P;exact⟨⟨dx',s2 _ _ f1 (A0 f1 hb (N8 (by simp[pf])))⟩,⟨ts,s2 _ _ f2 (A0 f2 hb (by intro z;cases z)),Paired.mapP f3 λt r z=>s2 _ _ z (A0 z hb (by intro z;cases z))⟩,r1,r2,r3⟩
 obtain⟨dp,hp⟩:=P2.ob;refine y2 ⟨hp,N6 _ _ _ (by decide +kernel) (by decide +kernel) (by decide +kernel),x5 gp cl w rows n ⟨rfl,TP,P2,i0,by have:=P.sz;omega,?_⟩⟩;rw[ai];refine NY (C4 _ (by have:=P.sz;exact oA this rfl)) (λi ys H'=>Same H2 H'/\∃ ls:List Addr,ys=ls.map V.ref/\ls.Nodup/\∀ l∈ls,H' l=some (.lst [])/\H2 l=none) ⟨Same.refl _,[],rfl,pb,by simp⟩ (λi ys H' hi hl hzz=> ?_) (λys H' hl ⟨s,ls,ey,nd,al⟩ mi IH=> ?_)
 ·obtain⟨s,ls,ey,nd,al⟩:=hzz;push_cast[];refine⟨by decide,λl hl'=>⟨s.trans (AL hl'),ls++[l],by rw[ey,bo];rfl,?_,λx hx=> ?_⟩⟩
  ·exact vp.mpr ⟨nd,by simp,λx hx y hy e=>by rw[ο]at hy;subst hy;subst e;rw[(al _ hx).1]at hl';cases hl'⟩
  ·rcases bh.mp hx with hx | hx
   ·exact⟨AL hl' _ _ (al x hx).1,(al x hx).2⟩
   ·rw[ο.mp hx];exact⟨AF,s.free hl'⟩
 ·have s3:SameBut (· =b) H (upd H' mi (.lst ys)):=by
   intro x o e nx
   have e':=s _ _ (s2 _ _ e nx);rw[AO (BL e' IH)];exact e'
  have e3:upd H' mi (.lst ys) b=some (.ins (GA a) dx (BI "made" (.ref m) (BI "ground" (.ref gp) []))):=by rw[AO (BL (s _ _ e2) IH)];exact s _ _ e2
  have m3:upd H' mi (.lst ys) m=some (.lst []):=by rw[AO (BL (s _ _ m2) IH)];exact s _ _ m2
  have i3:upd H' mi (.lst ys) mi=some (.lst (ls.map V.ref)):=by rw[AF,ey]
  have l3:∀ l∈ls,upd H' mi (.lst ys) l=some (.lst [])/\H l=none/\l≠mi/\l≠m:=λl hl'=>by
   have z:=al l hl'
   have n1:=BL z.1 IH;exact⟨by rw[AO n1];exact z.1,s2.none (by rw[e2];intro z;cases z) z.2,n1,λy=>by rw[y,m2]at z;cases z.2⟩
  have hmiH:H mi=none:=s2.none (by rw[e2];intro z;cases z) (s.free IH)
  have nmm:m≠mi:=BL (s _ _ m2) IH
  have B8:ls.length=rows.length:=by rw[<-hl,ey,ν]
  revert s3 e3 m3 i3 l3;generalize upd H' mi (.lst ys)=H3;intro s3 e3 m3 i3 l3;refine y3 ⟨e3,T.cl,T.nI,GP (n:=999) (GP (n:=998) (by decide)),λlt BH=> ?_⟩
  have nb4:b≠lt:=BL AF BH;rw[AO nb4.symm]at BH
  have ltH:H lt=none:=s3.none (by rw[e3];intro z;cases z) BH;refine y3 ⟨by rw[AO nb4,AF],T.cl,T.nL,GP (n:=999) (GP (n:=998) (GP (n:=997) (by decide))),λou E8=> ?_⟩
  have nb5:b≠ou:=BL AF E8;rw[AO nb5.symm]at E8
  have nl5:lt≠ou:=BL AF E8;rw[AO nl5.symm,AO nb5.symm]at E8
  have ouH:H ou=none:=s3.none (by rw[e3];intro z;cases z) E8;refine y3 ⟨by rw[AO nb5,AF],T.cl,T.nO,GP (n:=999) (GP (n:=998) (GP (n:=997) (GP (n:=996) (by decide)))),?_⟩;rw[zcq];generalize eH:upd (upd (upd (upd (upd H3 b _) lt (.dT [])) b _) ou (.dK [])) b (.ins (GA a) dx (bf gp m mi lt ou))=H5
  have kp:∀ x,x≠b->x≠lt->x≠ou->H5 x=H3 x:=λx n1 n2 n3=>by rw[<-eH,AO n1,AO n3,AO n1,AO n2,AO n1]
  have kk:∀ x o,H3 x=some o->x≠b->H5 x=some o:=λx o e n1=>by rw[kp x n1 (BL e BH) (BL e E8)];exact e
  have s5:SameBut (· =b) H H5:=λx o e n1=>kk x o (s3 _ _ e n1) n1
  have nbx:∀ x xs,H3 x=some (.lst xs)->x≠b:=λx xs e=>A0 e e3 (by intro z;cases z);refine q m mi lt ou ls H5 hmH hmiH ltH ouH (λl hl'=>(l3 l hl').2.1) ⟨⟨⟨dx,by rw[<-eH,AF]⟩,⟨[],kk _ _ m3 (nbx _ _ m3),.nil⟩,kk _ _ i3 (nbx _ _ i3),λi l e=> ?_,nd,⟨[],?_,λi j=>rfl,ξ _⟩,⟨[],?_,λk=>rfl,pb,by simp⟩,by simp,by simp,by simp,⟨nmm,?_,?_,?_,?_,?_⟩,by simp⟩,?_,B8⟩ s5
  ·have z:=l3 l (π e);exact kk _ _ z.1 (nbx _ _ z.1)
  ·rw[<-eH,AO nb4.symm,AO nl5,AO nb4.symm,AF]
  ·rw[<-eH,AO nb5.symm,AF]
  ·exact λz=>(l3 _ z).2.2.2 rfl
  ·exact λz=>(l3 _ z).2.2.1 rfl
  ·obtain⟨ts,z,_⟩:=P.ls;exact BL z hmH
  ·obtain⟨ts,z,_⟩:=P.ls;exact BL z hmiH
  ·obtain⟨ts,z,_⟩:=P.ls;exact λy=>by rw[(l3 _ y).2.1]at z;cases z
  ·obtain⟨⟨dx',f1⟩,⟨ts,f2,f3⟩,r1,r2,r3⟩:=P;exact⟨⟨dx',s5 _ _ f1 (A0 f1 hb (N8 (by simp[pf])))⟩,⟨ts,s5 _ _ f2 (A0 f2 hb (by intro z;cases z)),Paired.mapP f3 λt r z=>s5 _ _ z (A0 z hb (by intro z;cases z))⟩,r1,r2,r3⟩
def zlt:YH K a vs H Q E->US K a (λ_=>E) (BC Q) (start ["",""] vs) H:=by
 apply u3;rintro nl ns o ⟨rfl,hs,hl,q⟩;cases o with
 | none =>
  push_cast[US,↓oW_,↓oY_,↓o0_,IB];refine⟨ns,hs,oC hl rfl,λx o D ks hx hD r m l=>⟨_,.inl ⟨SqL.of AF,λt ht=>q t ks _ (((AL hx).trans (AL hD)).trans (AL ht)) AF r (λy=> ?_) (av l)⟩⟩⟩;rw[m y];simp
 | some k =>
  push_cast[US,↓oW_,↓oY_,↓o0_,IB];refine⟨_,.inl hs,λl hl'=>⟨by decide,λp hp=>.inl ?_⟩⟩
  have np:l≠p:=BL AF hp
  have s0:Same H (upd (upd H l (.lst (ns.map V.int))) p (.lst [.int k])):=(AL hl').trans (AL hp)
  have e1:upd (upd H l (.lst (ns.map V.int))) p (.lst [.int k]) l=some (.lst (ns.map V.int)):=by rw[AO np,AF]
  have e2:upd (upd H l (.lst (ns.map V.int))) p (.lst [.int k]) p=some (.lst [.int k]):=AF;revert s0 e1 e2;generalize upd (upd H l (.lst (ns.map V.int))) p (.lst [.int k])=H1;intro s0 e1 e2;refine x4 l p _ _ ⟨rfl,rfl,e1,e2,C4 _ (by simp;exact oA hl rfl),λr hr=>⟨r,rfl,ns++[(k:Int)],?_,by simp;exact oG hl rfl,λx o D ks hx hD rs m ll=>⟨_,.inl ⟨SqL.of AF,λt ht=>q t ks _ ((((s0.trans (AL hr)).trans (AL hx)).trans (AL hD)).trans (AL ht)) AF rs (λy=> ?_) (by simpa using ll)⟩⟩⟩⟩
  ·rw[bo];exact SqL.of AF
  ·rw[m y,bh,ο];simp
def zlu:YI K a vs H Q E->aE K a (λ_=>E) (BC Q) (start ["",""] vs) H:=by
 apply u9;rintro A w rows n cs outs pl i j ⟨rfl,T,TP,B,hp,q,qe⟩;obtain⟨dx,hb⟩:=B.bk.ob;obtain⟨dp,hg⟩:=B.pk.ob
 have ng:∀ {m:Str},¬ m="contents"->¬ m="width"->¬ m="written"->(pf A.cl w n).lookup m=none:=λh1 h2 h3=>N6 _ _ _ h1 h2 h3;push_cast[aE,↓rM_,↓rN_];refine CU hp (n:=0) rfl rfl ?_;push_cast[];split
 ·rename_i h0;refine y3 ⟨hb,T.cl,T.nG,_,QH,y2 ⟨hg,ng (by decide +kernel) (by decide +kernel) (by decide +kernel),x5 A.gp A.cl w rows n ⟨rfl,TP,B.pk,?_⟩⟩⟩;push_cast[];split
  ·exact⟨by decide,qe λz=>by omega⟩
  ·rename_i h1;refine CU hp (n:=1) rfl rfl ?_;push_cast[];split
   ·rename_i h2;refine y3 ⟨hb,T.cl,T.nG,_,QH,y2 ⟨hg,ng (by decide +kernel) (by decide +kernel) (by decide +kernel),x5 A.gp A.cl w rows n ⟨rfl,TP,B.pk,?_⟩⟩⟩;push_cast[];split
    ·exact⟨by decide,qe λz=>by omega⟩
    ·exact q ⟨h0,by omega,h2,by omega⟩
   ·exact⟨by decide,qe λz=>by omega⟩
 ·exact⟨by decide,qe λz=>by omega⟩
def zlv:QN K a vs H Q E->a0 K a (λ_=>E) (BC Q) (start ["",""] vs) H:=by
 apply u9;rintro A w rows n cs outs pl i j ⟨rfl,T,TP,B,hp,q,qe⟩;obtain⟨dx,hb⟩:=B.bk.ob;obtain⟨AE,hl,hv,_⟩:=B.bk.lat;push_cast[a0,↓sO_,↓sP_];refine y2 ⟨hb,EA,x9 A w rows n cs outs pl i j ⟨rfl,T,TP,B,hp,λh=> ?_,qe⟩⟩;push_cast[];refine y3 ⟨hb,T.cl,T.nL,_,mZ,.inr ⟨_,.inl hl⟩,_,MR hl hp,?_⟩;rw[hv]
 have:=q h;cases e:ES cs i j with
 | none=>rw[e]at this;exact this
 | some k=>rw[e]at this;exact this
def BookIn.len{C D:Addr}{A:BA}{w:Nat}{cs:List Ch}{outs:Int->Bool}(B:BookIn C D H A w cs outs):∃ xs,H A.m=some (.lst xs)/\xs.length=cs.length:=by
 obtain⟨chs,e,p⟩:=B.made;exact⟨_,e,by rw[ν,p.length]⟩
def zlw:T7 K a vs H Q E->Y9 K a (λ_=>E) (BC Q) (start ["","",""] vs) H:=by
 apply u8;rintro A w rows n cs outs nl ns ⟨rfl,T,B,hs,q,qe⟩;obtain⟨dx,hb⟩:=B.bk.ob;obtain⟨xs,hm,hml⟩:=B.bk.len;push_cast[Y9,↓oO_,↓oQ_,↓oU_];refine .inl ⟨⟨_,hs⟩,?_⟩;refine MO (xs:=ns.map V.int) (λi σ H'=>H'=H/\(∃ z,σ=[some (.ref A.b),some (.ref nl),z])/\∀ x∈ns.take i,known cs x) ⟨rfl,⟨_,rfl⟩,by simp⟩ (λi σ H' _ ⟨e,_⟩=>e ▸ hs) (λi x σ H' hx ⟨e,⟨z,ez⟩,kn⟩=> ?_) (λσ H' ⟨e,⟨z,ez⟩,kn⟩=> ?_)
 ·subst e;subst ez;rw[ρ,bq]at hx;obtain⟨x',hx',rfl⟩:=hx;push_cast[↓oO_,↓oQ_,↓oU_]
  have bad:¬ known cs x'->1<=sizeLine/\E (.ref (a "NoChange")) none H':=λh=>⟨by decide,qe ⟨x',π hx',h⟩⟩
  split
  ·rename_i h0;refine y3 ⟨hb,T.cl,T.nM,_,LZ,cs.length,.inl ⟨_,SqL.of hm,hml.symm⟩,?_⟩;split
   ·exact bad λz=>by omega
   ·intro y hy;rw[fk,hx']at hy;rcases bh.mp hy with hy | hy
    ·exact kn y hy
    ·simp only[Option.toList_some,ο]at hy;subst hy;exact⟨h0,by omega⟩
  ·exact bad λz=>by omega
 ·subst e;refine q λx hx=>kn x ?_;rw[ν,dn];exact hx
def zlx:G5 K a vs H Q E->bH K a (λ_=>E) (BC Q) (start ["","","","","",""] vs) H:=by
 apply RH;rintro A w rows n cs outs pl nl v ns i j ⟨rfl,T,TP,B,hp,hs,hl,hc,q,q1,q2⟩;obtain⟨dx,hb⟩:=B.bk.ob;obtain⟨xs,hm,hml⟩:=B.bk.len;push_cast[bH,↓tT_];refine y2 ⟨hb,EA,x9 A w rows n cs outs pl i j ⟨rfl,T,TP,B,hp,λhon=> ?_,q1⟩⟩;push_cast[↓tU_];refine y2 ⟨hb,EA,x8 A w rows n cs outs nl ns ⟨rfl,T,B,hs,λhkn=> ?_,q2 hon⟩⟩;push_cast[↓tV_];refine y3 ⟨hb,T.cl,T.nM,_,LZ,cs.length,.inl ⟨_,SqL.of hm,hml.symm⟩,?_⟩;push_cast[↓tW_];refine y3 ⟨hb,T.cl,T.nM,_,LZ,.inl ⟨rfl,_,SqL.of hm⟩,x3 nl ns (ES cs i j) ⟨rfl,hs,hl,λt ks H1 s1 et kr km kl=> ?_⟩⟩;push_cast[];intro x dy hx hdy ndy;refine x5 x dy pl v t ⟨rfl,T,AF,rfl,?_⟩;rw[IL]
 have s2:Same H1 (upd (upd H1 dy (.own x)) x (.ins (a "Change") dy (GW pl v t))):=(AL hdy).trans (AL (by rw[AO ndy.symm];exact hx))
 have ex:upd (upd H1 dy (.own x)) x (.ins (a "Change") dy (GW pl v t)) x=some (.ins (a "Change") dy (GW pl v t)):=AF;revert s2 ex;generalize upd (upd H1 dy (.own x)) x (.ins (a "Change") dy (GW pl v t))=H2;intro s2 ex
 have s:=s1.trans s2
 have hxH:H x=none:=s1.free hx;replace et:=s2 _ _ et;obtain⟨chs,hm',pch⟩:=B.bk.made
 have IH:=B.bk.mil;obtain⟨AE,BH,hv,IG⟩:=B.bk.lat;obtain⟨DS,E8,hvo,hko⟩:=B.bk.out;obtain⟨i0,i1,j0,j1⟩:=hon;obtain⟨i',rfl⟩:∃ i':Nat,i=i':=⟨i.toNat,(c_ i0).symm⟩
 obtain⟨j',rfl⟩:∃ j':Nat,j=j':=⟨j.toNat,(c_ j0).symm⟩
 have hil:i'<A.ls.length:=by rw[B.nb];exact bv.mp i1
 have el:=ζ hil
 have hll:=B.bk.mic i' _ el
 have hmem:A.ls[i']∈A.ls:=wt hil;revert el hll hmem;generalize A.ls[i']=l;intro el hll hmem
 have ap:=B.bk.ap
 have nml:A.m≠l:=λz=>ap.2.1 (z ▸ hmem)
 have nil':A.mi≠l:=λz=>ap.2.2.1 (z ▸ hmem)
 have ncl:A.cl≠l:=λz=>ap.2.2.2.2.2 (z ▸ hmem)
 have klt:∀ {y:Addr} {o:HO},H2 y=some o->(∀ k,o≠.dT k)->y≠A.lt:=λe h=>A0 e (s _ _ BH) (h _)
 have km':∀ {y:Addr} {o:HO},H2 y=some o->(∀ k,o≠.lst k)->y≠A.m:=λe h=>A0 e (s _ _ hm') (h _)
 have kll:∀ {y:Addr} {o:HO},H2 y=some o->(∀ k,o≠.lst k)->y≠l:=λe h=>A0 e (s _ _ hll) (h _)
 have hb2:=s _ _ hb
 have FL:=s _ _ hp
 have sz:=B.bk.sz
 have lenc:chs.length=cs.length:=pch.length;refine⟨_,s _ _ hm',τ (show(chs.map V.ref).length<1000 by rw[ν];exact oD (cz (bn lenc) hc) rfl) (by decide),?_⟩;push_cast[↓tX_]
 have bb:A.b≠A.m:=km' hb2 (by intro k z;cases z)
 have bl:A.b≠l:=kll hb2 (by intro k z;cases z)
 have bt:A.b≠A.lt:=klt hb2 (by intro k z;cases z)
 have pm:pl≠A.m:=km' FL (by intro k z;cases z)
 have pl':pl≠l:=kll FL (by intro k z;cases z)
 have pt:pl≠A.lt:=klt FL (by intro k z;cases z)
 have lt':l≠A.lt:=klt (s _ _ hll) (by intro k z;cases z)
 have mt:A.m≠A.lt:=klt (s _ _ hm') (by intro k z;cases z)
 have it:A.mi≠A.lt:=klt (s _ _ IH) (by intro k z;cases z);refine y3 ⟨by rw[AO bb];exact hb2,T.cl,T.nI,_,X2,CU (by rw[AO pm];exact FL) (n:=0) rfl rfl (D5 (SqL.of (by rw[AO ap.1.symm];exact s _ _ IH)) (n:=i') (v:=.ref l) rfl (by rw[ρ,el];rfl) ⟨.inl ⟨rfl,_,SqL.of (by rw[AO nml.symm];exact s _ _ hll)⟩,?_⟩)⟩
 have bln:=mW cs i';refine⟨_,by rw[AO nml.symm];exact s _ _ hll,τ (show((DD cs i').map λ(k:Nat)=>V.int k).length<1000 by rw[ν];omega) (by decide),?_⟩;push_cast[↓tY_,↓tZ_];refine y3 ⟨by rw[AO bl,AO bb];exact hb2,T.cl,T.nL,_,mZ,_,Yl (by rw[AO lt'.symm,AO mt.symm];exact s _ _ BH) (by rw[AO pl',AO pm];exact FL) (oD (cz IG hc) rfl),?_⟩;generalize eH:upd (upd (upd H2 A.m _) l _) A.lt (.dT (BY AE [.inl ↑i',.inl ↑j'] (.int ↑cs.length)))=H5
 have kp:∀ y,y≠A.m->y≠l->y≠A.lt->H5 y=H2 y:=λy n1 n2 n3=>by rw[<-eH,AO n3,AO n2,AO n1]
 have s5:SameBut (λy=>y=A.m\/y=l\/y=A.lt) H H5:=λy o e ny=>by
  rw[kp y (λz=>ny (.inl z)) (λz=>ny (.inr (.inl z))) (λz=>ny (.inr (.inr z)))];exact s _ _ e
 have lo:∀ y,(y=A.m\/y=l\/y=A.lt)->FB (H y):=by
  rintro y (z | z | z)
  ·exact B.loose (.inl z)
  ·exact B.loose (.inr (.inr (.inl (z ▸ hmem))))
  ·exact B.loose (.inr (.inr (.inr (.inl z))))
 have C2:∀ y∈ks,0<=y/\y<cs.length:=λy hy=>by
  rcases(km y).mp hy with h | ⟨k,e,rfl⟩
  ·exact hkn y h
  ·exact⟨iM rfl,by have:=TV e;exact bv.mpr this⟩
 refine q ⟨i0,i1,j0,j1⟩ hkn ks H5 kr km ⟨⟨⟨dx,by rw[kp _ bb bl bt];exact hb2⟩,⟨chs++[x],?_,Paired.snoc (Paired.mapP pch λy c h=>h.sb s5 lo) (x3 dy pl t ⟨?_,?_,?_⟩)⟩,?_,λk l' e=> ?_,B.bk.nd,⟨BY AE [.inl ↑i',.inl ↑j'] (.int ↑cs.length),?_,λp q=> ?_,?_⟩,⟨DS,?_,hvo,?_⟩,?_,λc hc'=> ?_,λk c e=> ?_,ap,λk c e j ej=> ?_⟩,B.pk.sbL s5 lo ?_,B.nb⟩ (s5.wide λy z=> ?_)
 ·rw[<-eH,AO mt,AO nml,AF,bo];rfl
 ·rw[kp x (km' ex (by intro k z;cases z)) (kll ex (by intro k z;cases z)) (klt ex (by intro k z;cases z))];exact ex
 ·rw[kp pl pm pl' pt];exact FL
 ·rw[kp t (km' et (by intro k z;cases z)) (kll et (by intro k z;cases z)) (klt et (by intro k z;cases z))];exact et
 ·rw[kp _ ap.1.symm nil' it];exact s _ _ IH
 ·rw[zcn];by_cases z:l'=l
  ·subst z
   have ek:k=i':=by
    obtain⟨h1,h2⟩:=ι.mp e;obtain⟨h3,h4⟩:=ι.mp el;exact(Cr B.bk.nd).mp (h2.trans h4.symm)
   subst ek;rw[<-eH,AO lt',AF];simp
  ·have nk:¬ i'=k:=λy=>by subst y;rw[el]at e;cases e;exact z rfl
   have hl':=B.bk.mic k l' e;rw[kp l' (λy=>ap.2.1 (y ▸ π e)) z (klt (s _ _ hl') (by intro k z;cases z))];simp only[ai,if_neg nk];exact s _ _ hl'
 ·rw[<-eH,AF]
 ·rw[KK,XY];by_cases z:p=i'/\q=j'
  ·obtain⟨rfl,rfl⟩:=z;simp
  ·have z1:¬ ([mz p,mz q]:List AS)=[.inl ↑i',.inl ↑j']:=λy=>z (by simpa using y)
   have z2:¬ ((((i':Int).toNat:Nat):Int)=p/\(((j':Int).toNat:Nat):Int)=q):=λy=>z ⟨y.1.symm,y.2.symm⟩;rw[if_neg z1,if_neg z2];exact hv p q
 ·have:=KL AE [.inl ↑i',.inl ↑j'] (.int ↑cs.length);simp;omega
 ·rw[kp _ (km' (s _ _ E8) (by intro k z;cases z)) (kll (s _ _ E8) (by intro k z;cases z)) (klt (s _ _ E8) (by intro k z;cases z))];exact s _ _ E8
 ·exact hko.mono (by simp)
 ·simp;exact cy hc
 ·rcases bh.mp hc' with h | h
  ·exact B.bk.inn c h
  ·rw[ο.mp h];exact⟨by rw[ai];exact hil,(show(j':Int).toNat<w by exact bv.mp j1)⟩
 ·rcases gq k cs.length with h | h
  ·rw[am h]at e;exact B.bk.need k c e
  ·rw[ao h]at e
   have:k - cs.length=0:=by
    rcases n8 (k - cs.length)with z | z
    ·exact z
    ·rw[bx (by simp;exact z)]at e;cases e
   rw[this]at e;cases e;exact⟨λy hy=>⟨(C2 y hy).1,by have:=(C2 y hy).2;omega⟩,kr,(show ks.length<=100 by omega)⟩
 ·rcases gq k cs.length with h | h
  ·rw[am h]at e;rw[List.take_append_of_le_length (by exact fg h)]at ej;exact B.bk.chn k c e j ej
  ·rw[ao h]at e
   have:k - cs.length=0:=by
    rcases n8 (k - cs.length)with z | z
    ·exact z
    ·rw[bx (by simp;exact z)]at e;cases e
   have hk:k=cs.length:=by omega
   subst hk;rw[this]at e;cases e;rw[List.take_left' rfl]at ej;exact(km _).mpr (.inr ⟨j,by simpa using ej,rfl⟩)
 ·rintro (z | z | z)
  ·exact ap.2.2.2.1 z
  ·exact ncl z
  ·obtain⟨ts,e,_⟩:=B.pk.ls;exact klt (s _ _ e) (by intro k z;cases z) z
 ·rcases z with z | z | z
  ·exact .inl z
  ·exact .inr (.inr (.inl (z ▸ hmem)))
  ·exact .inr (.inr (.inr (.inl z)))
def BookIn.at{C D:Addr}{A:BA}{w:Nat}{cs:List Ch}{outs:Int->Bool}{H:Hp}(B:BookIn C D H A w cs outs){k:Nat}{c:Ch}(e:cs[k]? =some c):∃ xs x,H A.m=some (.lst xs)/\xs[k]? =some (.ref x)/\ChAt D H x c:=by
 obtain⟨chs,h,p⟩:=B.made;obtain⟨x,ex,hx⟩:=PL p e;exact x2 _ x ⟨h,by rw[ρ,ex];rfl,hx⟩
def zly(l:List Nat):AW l=(l.map λ(k:Nat)=>(k:Int)).map V.int:=by simp[AW]
def zlz{w n:Nat}{rows:List (List V)}{gp cl:Addr}{H1:Hp}{Q:Addr->Hp->Prop}{E:XK}(T:TB K a)(TP:FG K a)(P:PlankAt a H1 gp cl w rows n)
  (q:∀ (A:BA) (H2:Hp),A.gp=gp->A.cl=cl->(∀ x o,H1 x=some o->x=cl\/¬ A.F x)->FD a H2 A w rows n [] (λ_=>false)->Same H1 H2->Q A.b H2) :
  ∀ x dx,H1 x=none->H1 dx=none->dx≠x->T6 K a [.ref x,.ref gp] (upd (upd H1 dx (.own x)) x (.ins (GA a) dx [])) (λv H2=>v=.non/\Q x H2) E:=λb db hb hdb ndb=>by
 have s0:Same H1 (upd (upd H1 db (.own b)) b (.ins (GA a) db [])):=(AL hdb).trans (AL (by rw[AO ndb.symm];exact hb));refine x7 b gp cl db w rows n ⟨rfl,T,TP,P.same s0,AF,λm mi lt ou ls H4 hm IH BH E8 hls B4 sb4=>⟨rfl,?_⟩⟩;refine q ⟨b,gp,m,mi,lt,ou,ls,cl⟩ H4 rfl rfl (λx o e=> ?_) B4 λy o e=>sb4 _ _ (s0 _ _ e) (BL e hb);by_cases z:x=cl
 ·exact .inl z
 ·refine .inr ?_
  have e':=s0 _ _ e;rintro (y | y | y | y | y | y)
  ·rw[y]at e';rw[show(BA.mk b gp m mi lt ou ls cl).m=m from rfl,hm]at e';cases e'
  ·rw[y]at e';rw[show(BA.mk b gp m mi lt ou ls cl).mi=mi from rfl,IH]at e';cases e'
  ·rw[hls x y]at e';cases e'
  ·rw[y]at e';rw[show(BA.mk b gp m mi lt ou ls cl).lt=lt from rfl,BH]at e';cases e'
  ·rw[y]at e';rw[show(BA.mk b gp m mi lt ou ls cl).ou=ou from rfl,E8]at e';cases e'
  ·exact z y
def zl0:OE K a vs H Q E->bI K a (λ_=>E) (BC Q) (start ["","",""] vs) H:=by
 apply u9;rintro A w rows n cs outs pl i j ⟨rfl,T,TP,B,hp,q,qe⟩;obtain⟨dx,hb⟩:=B.bk.ob;obtain⟨dp,hg⟩:=B.pk.ob;push_cast[bI,↓t4_,↓t5_,↓t7_,↓t8_];refine y2 ⟨hb,EA,x9 A w rows n cs outs pl i j ⟨rfl,T,TP,B,hp,λh=> ?_,qe⟩⟩
 have q:=q h;unfold FI at q;cases e:ES cs i j with
 | none =>
  rw[e]at q;push_cast[IB];refine y3 ⟨hb,T.cl,T.nG,_,QH,y2 ⟨hg,cT _ _ _,CU hp (n:=0) rfl rfl ?_⟩⟩;refine x6 A.gp A.cl w rows n i ⟨rfl,TP,B.pk,λb' row eb er vl hvl=> ?_,λz=>absurd h λy=>by omega⟩;subst eb
  have s1:=AL (o:=.lst row) hvl;refine CU (s1 _ _ hp) (n:=1) rfl rfl ?_
  have rl:=B.pk.wd row (π er)
  have hj:j.toNat<row.length:=by omega
  have ej:=ζ hj;refine D5 (SqL.of AF) (n:=j.toNat) (v:=row[j.toNat]) (by omega) ej ?_;refine q _ _ ?_ s1;rw[show((b':Int)).toNat=b' from by exact rfl,er];exact ej
 | some k =>
  rw[e]at q;push_cast[IB]
  have hk:=TV e
  have ec:=ζ hk;obtain⟨chs,hm,pc⟩:=B.bk.made;obtain⟨x,ex,dx',p1,n1,h1,h2,h3⟩:=PL pc ec;refine y3 ⟨hb,T.cl,T.nM,_,LZ,D5 (SqL.of hm) (n:=k) (v:=.ref x) rfl (by rw[ρ,ex];rfl) (y3 ⟨h1,T.cc,T.nV,_,mX,q _ _ ?_ (Same.refl _)⟩)⟩
  show(cs[k]?).map (·.val)=_;rw[ec]
  rfl
def zl1:YJ K a vs H Q E->aD K a (λ_=>E) (BC Q) (start ["",""] vs) H:=by
 apply u7;rintro A w rows n cs outs x ⟨rfl,T,B,q,qe⟩;obtain⟨dx,hb⟩:=B.bk.ob;push_cast[aD,↓rJ_,↓rK_];refine y2 ⟨hb,EA,by decide,λl hl=> ?_⟩
 have s1:=AL (o:=.lst [.int x]) hl;refine x8 A w rows n cs outs l [x] ⟨rfl,T,B.same s1,SqL.of AF,λkn=> ?_,λhzz=> ?_⟩
 ·have hk:=kn x (ο.mpr rfl);obtain⟨k,rfl⟩:∃ k:Nat,x=k:=⟨x.toNat,by omega⟩
  have IG:k<cs.length:=by have:=hk.2;omega
  have ec:=ζ IG;refine u2 ?_ (B.bk.at ec);rintro xs p ⟨e1,e2,dx2,pl,nt,c1,c2,c3⟩;push_cast[];refine y3 ⟨s1 _ _ hb,T.cl,T.nM,_,LZ,D5 (SqL.of (s1 _ _ e1)) rfl e2 ?_⟩;push_cast[];refine y3 ⟨s1 _ _ c1,T.cc,T.nN,_,mY,⟨_,.inr (SqT.of (s1 _ _ c3)),λr hr=> ?_⟩⟩;exact q k _ r _ rfl ec (s1.free hr) (s1.trans (AL hr)) AF
 ·obtain⟨y,hy,hn⟩:=hzz;rw[ο.mp hy]at hn;exact qe hn _ s1
def zl2:YL K a vs H Q E->ZE K a (λ_=>E) (BC Q) (start ["","","",""] vs) H:=by
 apply Gc;rintro A w rows n cs outs k c g kvg ⟨rfl,T,B,ec,hg,q⟩;obtain⟨dx,hb⟩:=B.bk.ob;refine u2 ?_ (B.bk.at ec);rintro xs cx ⟨hm,ex,EH⟩;revert EH;apply u3;rintro dc pl nt ⟨hc1,hc2,hc3⟩;obtain⟨DS,ho,hv,_⟩:=B.bk.out;push_cast[ZE,↓pA_,↓pB_,↓pC_,↓pD_];refine y3 ⟨hb,T.cl,T.nM,_,LZ,D5 (SqL.of hm) rfl ex (y3 ⟨hc1,T.cc,T.nN,_,mY,.inr ⟨⟨_,SqT.of hc3⟩,?_⟩⟩)⟩;refine k9 (xs:=c.nd.map V.int) (λi σ H'=>H'=H/\(∀ x∈c.nd.take i,(outs x || E5 kvg x)=true)/\∃ z,σ=[some (.ref A.b),some (.int k),some (.ref g),z]) ⟨rfl,by simp,_,rfl⟩ (λi σ H' _ ⟨e,_⟩=>e ▸ SqT.of hc3) (λi x σ H' hx hzz=> ?_) (λσ H' hzz=> ?_)
 ·obtain⟨e,al,z,ez⟩:=hzz;subst e;subst ez;rw[ρ,bq]at hx;obtain⟨y,hy,rfl⟩:=hx;push_cast[↓pA_,↓pB_,↓pC_,↓pD_]
  have step:(outs y || E5 kvg y)=true->∀ x∈c.nd.take (i+1),(outs x || E5 kvg x)=true:=λh x hx=>by
   rw[fk,hy]at hx;rcases bh.mp hx with hx | hx
   ·exact al x hx
   ·have:x=y:=by simpa using hx
    exact this ▸ h
  refine y3 ⟨hb,T.cl,T.nO,_,TW,_,dI ho,?_⟩;rw[hv];cases h1:outs y with
  | true =>
   push_cast[];exact step (by rw[h1];rfl)
  | false =>
   push_cast[];refine⟨_,dI hg,?_⟩;cases h2:(BT kvg (.inl y)).isSome with
   | true =>
    push_cast[];exact step (by show(outs y || (BT kvg (.inl y)).isSome)=true;rw[h2];simp)
   | false =>
    push_cast[]
    have e:IY c.nd (λx=>outs x || E5 kvg x)=some y:=by
     obtain⟨hi,e⟩:=ι.mp hy;unfold IY;rw[kf];refine⟨by show(!(outs y || (BT kvg (.inl y)).isSome))=true;rw[h1,h2];rfl,x2 (c.nd.take i) (c.nd.drop (i+1)) ⟨?_,λx hx=>by show(!!(outs x || E5 kvg x))=true;rw[al x hx];rfl⟩⟩;rw[<-e,<-mf hi,q_]
    rw[e]at q;exact q
 ·obtain⟨e,al,z,ez⟩:=hzz;subst e;subst ez;rw[ν,dn]at al;push_cast[↓pA_,↓pB_,↓pC_,↓pD_]
  have e:IY c.nd (λx=>outs x || E5 kvg x)=none:=jb.mpr λx hx=>by show ¬ (!(outs x || E5 kvg x))=true;rw[al x hx];exact ψ
  rw[e]at q;exact q
def zl3(s:Pass)(m:Nat)(H1 H':Hp)(g ol hl:Addr):Prop:=∃ (kvg:List (AS × V)) (hs:List Addr),SameBut (λy=>y=g\/y=ol\/y=hl) H1 H'/\H' g=some (.dK kvg)/\(∀ x:Int,E5 kvg x=s.gone x)/\kvg.length<=m/\H' ol=some (.lst (s.out.map λ(k:Nat)=>V.int k)) /\
 H' hl=some (.lst (hs.map V.ref))/\Paired (λx (p:Nat × Int)=>H' x=some (.tup [.int p.1,.int p.2])) hs s.held
def Al(AE:List (AS × V))(k x:Int)(v:V):E5 (BY AE (.inl k) v) x=(E5 AE x || x == k):=by
 unfold E5;rw[KK];by_cases e:x=k
 ·subst e;simp
 ·have:¬ (mz x:AS)=mz k:=λz=>e (by simpa using z);rw[if_neg this];simp[e]
def zl4:YM K a vs H Q E->aQ K a (λ_=>E) (BC Q) (start ["","","","","","","",""] vs) H:=by
 apply u9;rintro A w rows n cs outs b tk kvt ⟨rfl,T,B,hbl,htk,hkt,q⟩;obtain⟨dx,hb⟩:=B.bk.ob;push_cast[aQ,↓rO_,↓rP_,↓rQ_,↓rR_,↓rS_,↓rT_,↓rV_,↓rW_,↓rX_,↓rY_,↓rZ_];refine⟨_,htk,λg hg=>⟨by decide,λol hol=>⟨by decide,λhl hhl=> ?_⟩⟩⟩
 have s1:Same H (upd (upd (upd H g (.dK kvt)) ol (.lst [])) hl (.lst [])):=((AL hg).trans (AL hol)).trans (AL hhl)
 have ngo:g≠ol:=BL AF hol
 have nol:ol≠hl:=BL AF hhl
 have ngl:g≠hl:=BL (by rw[AO ngo];exact AF) hhl
 have eg:upd (upd (upd H g (.dK kvt)) ol (.lst [])) hl (.lst []) g=some (.dK kvt):=by rw[AO ngl,AO ngo,AF]
 have eo:upd (upd (upd H g (.dK kvt)) ol (.lst [])) hl (.lst []) ol=some (.lst []):=by rw[AO nol,AF]
 have el:upd (upd (upd H g (.dK kvt)) ol (.lst [])) hl (.lst []) hl=some (.lst []):=AF
 have holH:H ol=none:=(AL hg).free hol
 have hhlH:H hl=none:=((AL hg).trans (AL hol)).free hhl;revert s1 eg eo el;generalize upd (upd (upd H g (.dK kvt)) ol (.lst [])) hl (.lst [])=H1;intro s1 eg eo el
 have hil:b<A.ls.length:=by rw[B.nb];exact hbl
 have ell:=ζ hil
 have hll:=B.bk.mic b _ ell;revert ell hll;generalize A.ls[b]=l;intro ell hll;refine y3 ⟨s1 _ _ hb,T.cl,T.nI,_,X2,D5 (SqL.of (s1 _ _ B.bk.mil)) (n:=b) (v:=.ref l) rfl (by rw[ρ,ell];rfl) (.inl ⟨⟨_,SqL.of (s1 _ _ hll)⟩,?_⟩)⟩
 have bln:=mW cs b
 have sz:=B.bk.sz
 have G:∀ {H':Hp},SameBut (λy=>y=g\/y=ol\/y=hl) H1 H'->Same H H':=λsb y o e=>sb _ _ (s1 _ _ e) (by
  rintro (z | z | z)
  ·rw[z,hg]at e;cases e
  ·rw[z,holH]at e;cases e
  ·rw[z,hhlH]at e;cases e)
 refine MO (xs:=(DD cs b).map λ(k:Nat)=>V.int k) (λi σ H'=>zl3 (((DD cs b).take i).foldl (DH cs outs) ⟨[],[],E5 kvt⟩) (1000+i) H1 H' g ol hl/\∃ z1 z2,σ=[some (.ref A.b),some (.int b),some (.ref tk),some (.ref g),some (.ref ol),some (.ref hl),z1,z2])
  ⟨x2 kvt [] ⟨SameBut.refl _,eg,λ_=>rfl,hkt,eo,el,.nil⟩,_,_,rfl⟩ (λi σ H' _ ⟨⟨kvg,hs,sb,_⟩,_⟩=>SqL.of (G sb _ _ hll)) (λi x σ H' hx ⟨iv,z1,z2,ez⟩=> ?_) (λσ H' ⟨iv,z1,z2,ez⟩=> ?_)
 ·subst ez
  have hi:=(ι.mp hx).1;rw[ν]at hi;rw[ρ,bq]at hx;obtain⟨k,hk,rfl⟩:=hx
  have hkc:=X1 (π hk)
  have ec:=ζ hkc;revert ec;generalize cs[k]=c;intro ec
  have hszs:=TX (cs:=cs) (outs:=outs) ((DD cs b).take i) ⟨[],[],E5 kvt⟩
  have es:=m7 (DH cs outs) (⟨[],[],E5 kvt⟩:Pass) hk;revert iv hszs es;generalize ((DD cs b).take i).foldl (DH cs outs) ⟨[],[],E5 kvt⟩=s;generalize ((DD cs b).take (i+1)).foldl (DH cs outs) ⟨[],[],E5 kvt⟩=s';intro iv hszs es;revert iv;apply u2;rintro kvg hs ⟨sb,e1,e2,e3,e4,e5,e6⟩;simp only[na,dk]at hszs
  have sH:=G sb
  have B':=B.same sH;obtain⟨DS,ho,hv,_⟩:=B.bk.out;push_cast[↓rO_,↓rP_,↓rQ_,↓rR_,↓rS_,↓rT_,↓rV_,↓rW_,↓rX_,↓rY_,↓rZ_];refine y3 ⟨sH _ _ hb,T.cl,T.nO,_,TW,_,dI (sH _ _ ho),?_⟩;rw[hv];unfold DH at es;cases h1:outs k with
  | true =>
   rw[h1,uh,if_pos rfl]at es;push_cast[];rw[es];exact x2 kvg hs ⟨sb,e1,e2,av e3,e4,e5,e6⟩
  | false =>
   rw[h1,vx]at es;push_cast[];refine⟨_,dI e1,?_⟩
   have e2k:(BT kvg (.inl (k:Int))).isSome=s.gone k:=e2 k;rw[e2k];cases h2:s.gone k with
   | true =>
    rw[h2,if_pos rfl]at es;push_cast[];rw[es];exact x2 kvg hs ⟨sb,e1,e2,av e3,e4,e5,e6⟩
   | false =>
    rw[h2,if_neg ψ,ec]at es;push_cast[];refine y2 ⟨sH _ _ hb,EA,Gb A w rows n cs outs k c g kvg ⟨rfl,T,B',ec,e1,?_⟩⟩
    have efn:(λx=>outs x || E5 kvg x)=λx=>outs x || s.gone x:=by funext x;rw[e2]
    rw[efn];simp only[rq]at es;cases h3:IY c.nd (λx=>outs x || s.gone x)with
    | none =>
     rw[h3]at es;dsimp only at es;dsimp only [YK];rw[if_pos rfl];refine⟨_,pI e1 (by omega),.inl ⟨rfl,_,SqL.of (by rw[AO ngo.symm];exact e4)⟩,⟨_,by rw[AO ngo.symm];exact e4,τ (show(s.out.map λ(k:Nat)=>V.int k).length<1000 by rw[ν];omega) (by decide),?_⟩⟩;rw[es];refine x2 _ hs ⟨?_,by rw[AO ngo,AF],λx=>by rw[Al,e2],?_,by rw[AF,bo];rfl,by rw[AO nol.symm,AO ngl.symm];exact e5,Paired.mapP e6 λx p e=> ?_⟩
     ·intro y o e ny;rw[AO λz=>ny (.inr (.inl z)),AO λz=>ny (.inl z)];exact sb _ _ e ny
     ·have:=KL kvg (.inl (k:Int)) (.bl true);omega
     ·rw[AO (A0 e e4 (by intro z;cases z)),AO (A0 e e1 (by intro z;cases z))];exact e
    | some l' =>
     rw[h3]at es;dsimp only at es;dsimp only [YK];rw[if_neg (by intro z;cases z)];refine⟨.inl ⟨rfl,_,SqL.of e5⟩,by decide,λtp htp=> ?_⟩
     have ntl:hl≠tp:=BL e5 htp;refine⟨_,by rw[AO ntl];exact e5,τ (show(hs.map V.ref).length<1000 by rw[ν,e6.length];omega) (by decide),?_⟩;rw[es]
     have s2:=AL (o:=.tup [.int (k:Int),.int l']) htp
     have kp:∀ y,y≠hl->y≠tp->upd (upd H' tp (.tup [.int (k:Int),.int l'])) hl (.lst (hs.map V.ref++[.ref tp])) y=H' y:=λy n1 n2=>by rw[AO n1,AO n2]
     refine x2 kvg (hs++[tp]) ⟨?_,by rw[kp g ngl (BL e1 htp)];exact e1,e2,av e3,by rw[kp ol nol (BL e4 htp)];exact e4,by rw[AF,bo];rfl,Paired.snoc (Paired.mapP e6 λx p e=> ?_) ?_⟩
     ·intro y o e ny
      have e':=sb _ _ e ny;rw[kp y (λz=>ny (.inr (.inr z))) (BL e' htp)];exact e'
     ·rw[kp x (A0 e e5 (by intro z;cases z)) (BL e htp)];exact e
     ·rw[AO ntl.symm,AF]
 ·subst ez;rw[ν,dn]at iv;push_cast[↓rO_,↓rP_,↓rQ_,↓rR_,↓rS_,↓rT_,↓rV_,↓rW_,↓rX_,↓rY_,↓rZ_];revert iv;apply u2;rintro kvg hs ⟨sb,e1,e2,e3,e4,e5,e6⟩;refine⟨by decide,λt ht=> ?_⟩
  have s2:=AL (o:=.tup [.ref ol,.ref hl]) ht;exact q t ol hl _ holH hhlH nol ((G sb).trans s2) ⟨AF,s2 _ _ e4,hs,s2 _ _ e5,Paired.mapP e6 λx p e=>s2 _ _ e⟩
def zl5:YN K a vs H Q E->ZK K a (λ_=>E) (BC Q) (start ["","","","",""] vs) H:=by
 apply u9;rintro A w rows n cs outs b vl row ⟨rfl,T,B,hbl,hvl,RB,q⟩;obtain⟨dx,hb⟩:=B.bk.ob;obtain⟨DS,ho,hv,_⟩:=B.bk.out;push_cast[ZK,↓pE_,↓pF_,↓pG_,↓pH_,↓pJ_];refine⟨_,.inl (SqL.of hvl),λla hla=> ?_⟩
 have s1:=AL (o:=.lst row) hla
 have hil:b<A.ls.length:=by rw[B.nb];exact hbl
 have ell:=ζ hil
 have hll:=B.bk.mic b _ ell;revert ell hll;generalize A.ls[b]=l;intro ell hll;refine y3 ⟨s1 _ _ hb,T.cl,T.nI,_,X2,D5 (SqL.of (s1 _ _ B.bk.mil)) (n:=b) (v:=.ref l) rfl (by rw[ρ,ell];rfl) (.inl ⟨⟨_,SqL.of (s1 _ _ hll)⟩,?_⟩)⟩
 have sk:∀ o,Same H (upd H la o):=λo=>AL hla;refine MO (xs:=(DD cs b).map λ(k:Nat)=>V.int k) (λi σ H'=>H'=upd H la (.lst (((DD cs b).take i).foldl (G3 cs outs) row))/\∃ z1,σ=[some (.ref A.b),some (.ref vl),some (.int b),some (.ref la),z1])
  ⟨rfl,_,rfl⟩ (λi σ H' _ ⟨e,_⟩=>by rw[e];exact SqL.of (sk _ _ _ hll)) (λi x σ H' hx ⟨e,z1,ez⟩=> ?_) (λσ H' ⟨e,z1,ez⟩=> ?_)
 ·subst e;subst ez;rw[ρ,bq]at hx;obtain⟨k,hk,rfl⟩:=hx
  have hkc:=X1 (π hk)
  have ec:=ζ hkc;revert ec;generalize cs[k]=c;intro ec
  have es:=m7 (G3 cs outs) row hk
  have B8:=X4 (cs:=cs) (outs:=outs) ((DD cs b).take i) row;revert es B8;generalize ((DD cs b).take i).foldl (G3 cs outs) row=r;generalize ((DD cs b).take (i+1)).foldl (G3 cs outs) row=r';intro es B8
  have sH:=sk (.lst r);push_cast[↓pE_,↓pF_,↓pG_,↓pH_,↓pJ_];refine y3 ⟨sH _ _ hb,T.cl,T.nO,_,TW,_,dI (sH _ _ ho),?_⟩;rw[hv];unfold G3 at es;cases h1:outs k with
  | false =>
   rw[h1,if_neg ψ]at es;push_cast[];rw[es]
  | true =>
   rw[h1,if_pos rfl,ec]at es;dsimp only at es;push_cast[];refine u2 ?_ ((B.same sH).bk.at ec);rintro xs cx ⟨hm,ex,dc,pl,nt,hc1,hc2,hc3⟩
   have hcell:=(B.bk.inn c (π ec)).2;refine y3 ⟨sH _ _ hb,T.cl,T.nM,_,LZ,D5 (SqL.of hm) rfl ex (y3 ⟨hc1,T.cc,T.nV,_,mX,?_⟩)⟩;refine y3 ⟨sH _ _ hb,T.cl,T.nM,_,LZ,D5 (SqL.of hm) rfl ex (y3 ⟨hc1,T.cc,T.nP,_,zco,CU hc2 (n:=1) rfl rfl ?_⟩)⟩;refine x4 la r (c.cell:Int) c.cell ⟨rfl,rfl,AF,?_,?_⟩
   ·unfold JO;rw[if_pos (by exact i0),if_pos (by omega),ai]
   ·rw[IL,es]
 ·subst e;subst ez;rw[ν,dn];push_cast[↓pE_,↓pF_,↓pG_,↓pH_,↓pJ_];exact q la _ hla (sk _) AF
def zl6:YO K a vs H Q E->bA K a (λ_=>E) (BC Q) (start ["","","","",""] vs) H:=by
 apply u7;rintro A w rows n cs outs b ⟨rfl,T,TP,B,q,qe⟩;obtain⟨dx,hb⟩:=B.bk.ob;obtain⟨dp,hg⟩:=B.pk.ob;push_cast[bA,↓sQ_,↓sR_,↓sS_,↓sT_,↓sU_,↓sV_];refine y3 ⟨hb,T.cl,T.nG,_,QH,y2 ⟨hg,cT _ _ _,x6 A.gp A.cl w rows n b ⟨rfl,TP,B.pk,λb' row eb er vl hvl=> ?_,qe⟩⟩⟩;subst eb;push_cast[]
 have hbl:=(ι.mp er).1
 have s1:=AL (o:=.lst row) hvl
 have ev:upd H vl (.lst row) vl=some (.lst row):=AF;revert s1 ev;generalize upd H vl (.lst row)=H1;intro s1 ev;refine y2 ⟨s1 _ _ hb,EA,λe0 he0=> ?_⟩
 have s2:=s1.trans (AL (o:=.dK []) he0);refine x9 A w rows n cs outs b' e0 [] ⟨rfl,T,B.same s2,hbl,AF,by simp,λt ol hl H3 hol hhl nol s3 told=> ?_⟩
 have K8:=s2.trans s3
 have ev3:=s3 _ _ (AL he0 _ _ ev)
 have holH:=s2.free hol
 have hhlH:=s2.free hhl
 have hasnil:(E5 ([]:List (AS × V)))=λ_=>false:=rfl;rw[hasnil]at told;obtain⟨ht,ho3,hs,hh3,hpr⟩:=told;obtain⟨rise,fresh,_⟩:=X8 (cs:=cs) (outs:=outs) (b:=b')
 have eW:FH cs outs b'=λx=>outs x || (outcome cs outs (λ_=>false) b').out.any λ(k:Nat)=>x ==(k:Int):=rfl
 replace q:=λH' a1 a2 a3=>q b' row t ol hl H' rfl er holH hhlH nol a1 a2 a3;revert ho3 hpr rise fresh eW q;generalize outcome cs outs (λ_=>false) b'=oc;generalize FH cs outs b'=ow;intro ho3 hpr rise fresh eW q;push_cast[];refine CU ht (n:=0) rfl rfl (.inl ⟨⟨_,SqL.of ho3⟩,?_⟩);obtain⟨DS,E8,hvo,hko⟩:=B.bk.out
 have hou3:=K8 _ _ E8
 have fO:¬ A.F ol:=B.off holH
 have fL:¬ A.F hl:=B.off hhlH
 have nou:ol≠A.ou:=λz=>fO (.inr (.inr (.inr (.inr (.inl z)))));refine MO (xs:=oc.out.map λ(k:Nat)=>V.int k) (λi σ H'=>(∃ kv,H'=upd H3 A.ou (.dK kv)/\(∀ x:Int,(BT kv (.inl x)).isSome=(outs x || (oc.out.take i).any λ(k:Nat)=>x ==(k:Int)))/\KeysOk kv cs.length)/\∃ z1,σ=[some (.ref A.b),some (.int b'),some (.ref vl),some (.ref t),z1])
  ⟨⟨DS,?_,λx=>by rw[hvo];simp,hko⟩,_,rfl⟩ (λi σ H' _ ⟨⟨kv,e,_⟩,_⟩=>by rw[e];exact SqL.of (by rw[AO nou];exact ho3)) (λi x σ H' hx ⟨⟨kv,e,hv,hk⟩,z1,ez⟩=> ?_) (λσ H' ⟨⟨kv,e,hv,hk⟩,z1,ez⟩=> ?_)
 ·funext y;by_cases e:y=A.ou
  ·subst e;rw[AF];exact hou3
  ·rw[AO e]
 ·subst e;subst ez;rw[ρ,bq]at hx;obtain⟨k,ek,rfl⟩:=hx
  have hkm:=π ek
  have hkc:=X1 (fresh k hkm).2
  have hnone:BT kv (.inl (k:Int))=none:=by
   have:=hv k;rw[(fresh k hkm).1,vx]at this
   have z:(oc.out.take i).any (λ(j:Nat)=>(k:Int) ==(j:Int))=false:=by
    rw[zv];intro j hj;obtain⟨m,hm,e⟩:=ig hj;rw[dk]at hm;rw[Br]at e;obtain⟨hi,e2⟩:=ι.mp ek
    have:=vf.mp rise m i (by omega) hi (by omega);rw[e,e2]at this;simp;exact λz=>il this (bc z)
   rw[z]at this;exact Option.isSome_eq_false_iff.mp this |> Option.isNone_iff_eq_none.mp
  push_cast[↓sQ_,↓sR_,↓sS_,↓sT_,↓sU_,↓sV_]
  have hb3:upd H3 A.ou (.dK kv) A.b=some (.ins (GA a) dx (bf A.gp A.m A.mi A.lt A.ou)):=by
   rw[AO (A0 (K8 _ _ hb) hou3 (by intro z;cases z))];exact K8 _ _ hb
  refine y3 ⟨hb3,T.cl,T.nO,_,TW,_,pI AF (by have:=hk.len;have:=B.bk.sz;omega),_,IL,λx=> ?_,hk.put hkc hnone _⟩
  have:=Al kv k x (.bl true);unfold E5 at this;rw[this,hv,fk,ek,F_,sv];simp
 ·subst e;subst ez;rw[ν,dn]at hv;replace hv:∀ x:Int,(BT kv (.inl x)).isSome=ow x:=λx=>by rw[hv,eW]
  push_cast[↓sQ_,↓sR_,↓sS_,↓sT_,↓sU_,↓sV_]
  have lou:FB (H A.ou):=OB E8
  have kb:∀ {y:Addr} {o:HO},H y=some o->y≠A.ou->upd H3 A.ou (.dK kv) y=some o:=λe n=>by rw[AO n];exact K8 _ _ e
  have sb4:SameBut (· =A.ou) H (upd H3 A.ou (.dK kv)):=λy o e n=>kb e n
  have B4:FD a (upd H3 A.ou (.dK kv)) A w rows n cs ow:=by
   obtain⟨⟨b1,b2,b3,b4,b5,b6,_,b8,b9,b10,b11,b12⟩,pk,nb⟩:=B
   have g:∀ x,x=A.ou->FB (H x):=λx e=>e ▸ lou;obtain⟨dx',b1⟩:=b1;obtain⟨chs,b2,b2'⟩:=b2;obtain⟨AE,b6,b6'⟩:=b6;obtain⟨ts,pl1,pl2⟩:=pk.ls;refine⟨⟨⟨dx',kb b1 (A0 b1 E8 (by intro z;cases z))⟩,⟨chs,kb b2 (A0 b2 E8 (by intro z;cases z)),Paired.mapP b2' λx c h=>h.sb sb4 g⟩,kb b3 (A0 b3 E8 (by intro z;cases z)),λi l e=>kb (b4 i l e) (A0 (b4 i l e) E8 (by intro z;cases z)),b5,⟨AE,kb b6 (A0 b6 E8 (by intro z;cases z)),b6'⟩,⟨kv,AF,hv,hk⟩,b8,b9,b10,b11,b12⟩,pk.sbL sb4 g (A0 pl1 E8 (by intro z;cases z)),nb⟩
  have ev4:upd H3 A.ou (.dK kv) vl=some (.lst row):=by rw[AO (A0 ev3 hou3 (by intro z;cases z))];exact ev3
  have ht4:upd H3 A.ou (.dK kv) t=some (.tup [.ref ol,.ref hl]):=by rw[AO (A0 ht hou3 (by intro z;cases z))];exact ht
  have ho4:upd H3 A.ou (.dK kv) ol=some (.lst (oc.out.map λ(k:Nat)=>V.int k)):=by rw[AO nou];exact ho3
  have hh4:upd H3 A.ou (.dK kv) hl=some (.lst (hs.map V.ref)):=by rw[AO (A0 hh3 hou3 (by intro z;cases z))];exact hh3
  have hp4:Paired (λx (p:Nat × Int)=>upd H3 A.ou (.dK kv) x=some (.tup [.int p.1,.int p.2])) hs oc.held:=Paired.mapP hpr λx p e=>by rw[AO (A0 e hou3 (by intro z;cases z))];exact e
  revert sb4 B4 ev4 ht4 ho4 hh4 hp4;generalize upd H3 A.ou (.dK kv)=H4;intro sb4 B4 ev4 ht4 ho4 hh4 hp4;obtain⟨dx4,hb4⟩:=B4.bk.ob;obtain⟨dp4,hg4⟩:=B4.pk.ob;refine y3 ⟨hb4,T.cl,T.nG,_,QH,y2 ⟨hg4,zlp _ _ _,y2 ⟨hb4,EA,x9 A w rows n cs ow b' vl row ⟨rfl,T,B4,hbl,ev4,B.pk.wd row (π er),λll H5 hll5 s5 ell5=> ?_⟩⟩⟩⟩
  have B5:=B4.same s5;refine x8 A.gp A.cl w rows n b' ll (FQ cs ow b' row) ⟨rfl,TP,B5.pk,SqL.of ell5,by rw[m6,B.pk.wd row (π er)];have:=B.pk.sw;exact oA this rfl,λi ei hi hxw H6 P6 sb6=> ?_,λz=> ?_⟩
  ·have ei:b'=i:=bc ei;subst ei;push_cast[↓sQ_,↓sR_,↓sS_,↓sT_,↓sU_,↓sV_];obtain⟨ts5,pl5,pt5⟩:=B5.pk.ls;obtain⟨dp5,hg5⟩:=B5.pk.ob
   have ap:=B5.bk.ap
   have nF:∀ {y:Addr} {o:HO},H5 y=some o->(∀ C d f,o≠.ins C d f)->(∀ xs,o≠.lst xs)->¬ (y=A.gp\/y=A.cl):=λe n1 n2=>by
    rintro (z | z)
    ·exact A0 e hg5 (n1 _ _ _) z
    ·exact A0 e pl5 (n2 _) z
   have gp_b:A.b≠A.gp:=by
    obtain⟨d5,hb5⟩:=B5.bk.ob;exact A0 hb5 hg5 (N8 (by simp[bf,pf]))
   have k6:∀ {y:Addr} {o:HO},H5 y=some o->y≠A.gp->y≠A.cl->H6 y=some o:=λe n1 n2=>sb6 _ _ e (by rintro (z | z);exact n1 z;exact n2 z)
   have notins:∀ {y:Addr} {o:HO},H5 y=some o->(∀ C d f,o≠.ins C d f)->y≠A.gp:=λe n=>A0 e hg5 (n _ _ _)
   have B6:FD a H6 A w (rows.set b' (FQ cs ow b' row)) (n+1) cs ow:=by
    obtain⟨⟨b1,b2,b3,b4,b5,b6,b7,b8,b9,b10,b11,b12⟩,pk,nb⟩:=B5;obtain⟨dx',b1⟩:=b1;obtain⟨chs,b2,b2'⟩:=b2;obtain⟨AE,b6,b6'⟩:=b6;obtain⟨kvo',b7,b7'⟩:=b7;refine⟨⟨⟨dx',k6 b1 gp_b (A0 b1 pl5 (by intro z;cases z))⟩,⟨chs,k6 b2 (notins b2 (by intro _ _ _ z;cases z)) ap.2.2.2.1.symm,Paired.mapP b2' λx c h=> ?_⟩,k6 b3 (notins b3 (by intro _ _ _ z;cases z)) ap.2.2.2.2.1.symm,λi l e=>k6 (b4 i l e) (notins (b4 i l e) (by intro _ _ _ z;cases z)) (λz=>ap.2.2.2.2.2 (z ▸ π e)),b5,⟨AE,k6 b6 (notins b6 (by intro _ _ _ z;cases z)) (A0 b6 pl5 (by intro z;cases z)),b6'⟩,⟨kvo',k6 b7 (notins b7 (by intro _ _ _ z;cases z)) (A0 b7 pl5 (by intro z;cases z)),b7'⟩,b8,b9,b10,b11,b12⟩,P6,by rw[nb,fq]⟩;revert h;apply u3;rintro dc p1 n1 ⟨h1,h2,h3⟩;exact x3 dc p1 n1 ⟨k6 h1 (A0 h1 hg5 (N8 (by simp[GW,pf]))) (A0 h1 pl5 (by intro z;cases z)),k6 h2 (notins h2 (by intro _ _ _ z;cases z)) (A0 h2 pl5 (by intro z;cases z)),k6 h3 (notins h3 (by intro _ _ _ z;cases z)) (A0 h3 pl5 (by intro z;cases z))⟩
   have ncO:ol≠A.cl:=λz=>fO (.inr (.inr (.inr (.inr (.inr z)))))
   have ncL:hl≠A.cl:=λz=>fL (.inr (.inr (.inr (.inr (.inr z)))))
   have ht5:=s5 _ _ ht4
   have ho5:=s5 _ _ ho4
   have hh5:=s5 _ _ hh4;refine q H6 ⟨k6 ht5 (notins ht5 (by intro _ _ _ z;cases z)) (A0 ht5 pl5 (by intro z;cases z)),k6 ho5 (notins ho5 (by intro _ _ _ z;cases z)) ncO,hs,k6 hh5 (notins hh5 (by intro _ _ _ z;cases z)) ncL,Paired.mapP hp4 λx p e=> ?_⟩ B6 λy o e ny=> ?_
   ·have e5:=s5 _ _ e;exact k6 e5 (notins e5 (by intro _ _ _ z;cases z)) (A0 e5 pl5 (by intro z;cases z))
   ·exact k6 (s5 _ _ (sb4 _ _ e λz=>ny (.inl (.inr (.inr (.inr (.inr (.inl z)))))))) (λz=>ny (.inr z)) (λz=>ny (.inl (.inr (.inr (.inr (.inr (.inr z)))))))
  ·rcases z with z | z | z
   ·omega
   ·exact absurd (bv.mpr hbl) (xn.mpr z)
   ·exact absurd (by rw[m6,B.pk.wd row (π er)]) z
def zl7:YC K a vs H Q E->ZT K a (λ_=>E) (BC Q) (start ["","","","",""] vs) H:=by
 apply u6;rintro p dx n r c w ⟨rfl,T,hp,b1,b2,b3,b4,b5,q⟩;push_cast[ZT,↓pX_,↓pY_,↓pZ_,↓p0_];refine y3 ⟨hp,T.cl,T.n1,by decide,y3 ⟨AF,T.cl,T.n2,KQ (by decide),y3 ⟨AF,T.cl,T.n3,KQ (n:=1000) (l_ (KQ (n:=999) (by decide))),y3 ⟨AF,T.cl,T.n4,?_,?_⟩⟩⟩⟩
 ·exact KQ (n:=1000) (l_ (KQ (n:=999) (l_ (KQ (n:=998) (by decide)))))
 ·rw[zcy,IL,IL,IL];exact q _ ⟨⟨dx,AF⟩,b1,b2,b3,b4,b5⟩ λb o e hb=>by rw[AO hb];exact e
def zl8:MZ K a vs H Q E->ZW K a (λ_=>E) (BC Q) (start ["","",""] vs) H:=by
 apply u7;rintro p n r c w k b ⟨rfl,T,L,q⟩;obtain⟨dx,e⟩:=L.ob
 have:=L.h1
 have:=L.hw;push_cast[ZW,↓qC_];refine y3 ⟨e,T.cl,T.n4,_,OC,?_⟩;push_cast[];refine⟨⟨by omega,by omega⟩,y3 ⟨e,T.cl,T.n4,_,OC,?_⟩⟩;push_cast[];exact⟨by omega,by decide,q⟩
def zl9:IZ K a vs H Q E->aU K a (λ_=>E) (BC Q) (start ["",""] vs) H:=by
 apply u6;rintro p n r c w k ⟨rfl,T,L,q⟩;obtain⟨dx,e⟩:=L.ob;push_cast[aU,↓sI_];exact y2 ⟨e,CC,x7 p n r c w k 0 ⟨rfl,T,L,q⟩⟩
def zma:JA K a vs H Q E->aV K a (λ_=>E) (BC Q) (start ["",""] vs) H:=by
 apply u6;rintro p n r c w k ⟨rfl,T,L,q⟩;obtain⟨dx,e⟩:=L.ob;push_cast[aV,↓sJ_];exact y2 ⟨e,CC,y3 ⟨e,T.cl,T.n1,_,T3,x7 p n r c w k _ ⟨rfl,T,L,q⟩⟩⟩
def zmb:QJ K a vs H Q E->aW K a (λ_=>E) (BC Q) (start ["",""] vs) H:=by
 apply u6;rintro p n r c w k ⟨rfl,T,L,q⟩;obtain⟨dx,e⟩:=L.ob;push_cast[aW,↓sK_];refine y2 ⟨e,CC,y3 ⟨e,T.cl,T.n1,_,T3,y3 ⟨e,T.cl,T.n2,_,QI,?_⟩⟩⟩;push_cast[];exact x7 p n r c w k _ ⟨rfl,T,L,q⟩
def zmc:L4 K a vs H Q E->aX K a (λ_=>E) (BC Q) (start ["",""] vs) H:=by
 apply u6;rintro p n r c w k ⟨rfl,T,L,q⟩;obtain⟨dx,e⟩:=L.ob;push_cast[aX,↓sL_];exact y2 ⟨e,CC,y2 ⟨e,CC,x5 p n r c w ⟨rfl,T,L,x7 p n r c w k _ ⟨rfl,T,L,q⟩⟩⟩⟩
def zmd:JV K a vs H Q E->aY K a (λ_=>E) (BC Q) (start ["",""] vs) H:=by
 apply u6;rintro p n r c w k ⟨rfl,T,L,q⟩;obtain⟨dx,e⟩:=L.ob;push_cast[aY,↓sM_];refine y2 ⟨e,CC,y2 ⟨e,CC,x5 p n r c w ⟨rfl,T,L,y3 ⟨e,T.cl,T.n2,_,QI,?_⟩⟩⟩⟩;push_cast[];exact x7 p n r c w k _ ⟨rfl,T,L,q⟩
def zme:QK K a vs H Q E->ZV K a (λ_=>E) (BC Q) (start [""] vs) H:=by
 apply u5;rintro p n r c w ⟨rfl,T,L,q⟩;obtain⟨dx,e⟩:=L.ob;push_cast[ZV,↓qB_];refine y3 ⟨e,T.cl,T.n1,_,T3,y3 ⟨e,T.cl,T.n2,_,QI,?_⟩⟩;push_cast[];refine y3 ⟨e,T.cl,T.n3,_,YB,?_⟩;push_cast[];exact q
def zmf:QL K a vs H Q E->aZ K a (λ_=>E) (BC Q) (start [""] vs) H:=by
 apply u5;rintro p n r c w ⟨rfl,T,L,q⟩;obtain⟨dx,e⟩:=L.ob;push_cast[aZ,↓sN_];refine y2 ⟨e,CC,x5 p n r c w ⟨rfl,T,L,y3 ⟨e,T.cl,T.n2,_,QI,?_⟩⟩⟩;push_cast[];refine y3 ⟨e,T.cl,T.n3,_,YB,?_⟩;push_cast[];exact q
def zmg:JW K a vs H Q E->ZU K a (λ_=>E) (BC Q) (start [""] vs) H:=by
 apply u5;rintro p n r c w ⟨rfl,T,L,q⟩;obtain⟨dx,e⟩:=L.ob;obtain⟨_,b1,b2,b3,b4,b5⟩:=L;push_cast[ZU,↓qA_];refine y3 ⟨e,T.cl,T.n1,_,T3,y3 ⟨e,T.cl,T.n4,_,OC,?_⟩⟩;push_cast[];refine⟨.inl ⟨i0,by omega⟩,y3 ⟨e,T.cl,T.n2,_,QI,y3 ⟨e,T.cl,T.n4,_,OC,?_⟩⟩⟩;push_cast[];refine⟨.inl ⟨i0,by omega⟩,y3 ⟨e,T.cl,T.n3,_,YB,y3 ⟨e,T.cl,T.n4,_,OC,?_⟩⟩⟩;push_cast[];exact⟨.inl ⟨i0,by omega⟩,by decide,q⟩
def zmh:YD K a vs H Q E->bB K a (λ_=>E) (BC Q) (start [""] vs) H:=by
 apply u5;rintro p n r c w ⟨rfl,T,TP,L,q⟩;obtain⟨dx,e⟩:=L.ob
 have LL:=L;obtain⟨_,b1,b2,b3,b4,b5⟩:=L;push_cast[bB,↓sW_];refine y2 ⟨e,CC,x5 p n r c w ⟨rfl,T,LL,y3 ⟨e,T.cl,T.n4,_,OC,λx dx' hx hdx hne=> ?_⟩⟩⟩
 have s3:Same H (upd (upd H dx' (.own x)) x (.ins (a "Plank") dx' [])):=(AL hdx).trans (AL (by rw[AO hne.symm];exact hx));refine x4 x dx' (n+r+c+r+c) w ⟨by simp,TP,AF,by omega,b4,oA b5 rfl,λcl H2 BM P2 s4=>⟨rfl,q x cl H2 hx (s3.free BM) P2 λb o eb=>s4 _ _ (s3 _ _ eb) (BL eb hx)⟩⟩
def zmi{f:Nat->Bool}{m i:Nat}(hi:i<m)(h:f i=true)(hl:∀ j<i,f j=false):EU f m=i:=by
 unfold EU
 have:(ag m).find? f=some i:=by
  rw[kf];refine⟨h,x2 (ag i) ((ag (m - i - 1)).map (i+1+·)) ⟨?_,λj hj=>by rw[hl j (bp.mp hj)];rfl⟩⟩
  have e1:m=i+(1+(m - i - 1)):=by omega
  conv=>lhs;rw[e1]
  rw[vd,vd];simp[yz,pr]
 rw[this]
def zmj{f:Nat->Bool}{m:Nat}(hl:∀ j<m,f j=false):EU f m= -1:=by
 unfold EU
 have:(ag m).find? f=none:=jb.mpr λj hj=>by rw[hl j (bp.mp hj)];exact ψ
 rw[this]
def zmk{n:Nat}{H:Hp}{v:V}{xs:List V}(hx:∀ z∈xs,T8 z)(hv:GoodV n H v)(hf:HS v=true):MJ v xs=decide (v∈xs):=by
 rw[je,decide_eq_true_iff];unfold MJ;rw[dv]
 have key:∀ z,T8 z->(IQ z v=true↔z=v):=λz hz=>by
  rcases hz with rfl | ⟨i,rfl⟩<;>(cases v<;>first | (simp[IQ];done) | (cases n<;>exact hv.elim) | (simp[HS]at hf))
 constructor
 ·rintro ⟨z,hz,e⟩;rw[<-(key z (hx z hz)).mp e];exact hz
 ·intro h;exact⟨v,h,(key v (hx v h)).mpr rfl⟩
def CG(H H':Hp):Prop:=∀ b xs,H b=some (.tup xs)->H' b=some (.tup xs)
def GoodV.keep{H H':Hp}(k:CG H H'):∀ {n:Nat} {v:V},GoodV n H v->GoodV n H' v
 | 0,_,h=>h
 | _+1,.int _,_=>trivial
 | _+1,.non,_=>trivial
 | _+1,.str _,h=>h
 | n+1,.ref p,⟨xs,h1,h2,h3⟩=>⟨xs,k _ _ h1,h2,λv hv=>(h3 v hv).keep k⟩
def Same.tk{H H':Hp}(s:Same H H'):CG H H':=λb xs e=>s _ _ e
def zml{v:V}{vl:Addr}{xs:List V}(hg:GoodV 4 H v)(hv:H vl=some (.tup xs))(hx:∀ z∈xs,T8 z)(q:Q (.bl (decide (v∈xs))) H):S6 K v (.ref vl) H Q:=by
 have fx:xs.all HS=true:=ip.mpr λz hz=>by rcases hx z hz with rfl | ⟨i,rfl⟩<;>rfl
 have flat:HS v=true->S6 K v (.ref vl) H Q:=λhf=>.inl ⟨vl,xs,rfl,.inr (SqT.of hv),hf,fx,by
  show Q (.bl (MJ v xs)) H;rw[zmk hx hg hf];exact q⟩
 cases v with
 | ref t =>
  obtain⟨ys,e,_⟩:=hg
  have:decide ((V.ref t)∈xs)=false:=decide_eq_false λhm=>by rcases hx _ hm with z | ⟨i,z⟩<;>cases z
  rw[this]at q;exact .inr (x4 t ys vl xs ⟨rfl,SqT.of e,rfl,SqT.of hv,hx,q⟩)
 | int i=>exact flat rfl
 | non=>exact flat rfl
 | str z=>exact flat rfl
 | _=>exact hg.elim
def zmm:OF K a vs H Q E->bP K a (λ_=>E) (BC Q) (start ["","","","",""] vs) H:=by
 apply RH;rintro A w rows n cs outs pl vl ts xs f m ⟨rfl,T,TP,B,hp,hm,hm2,hv,hx,hf,q,qe⟩;obtain⟨dx,ho⟩:=B.bk.ob;push_cast[bP,↓vS_];refine⟨⟨_,SqL.of hp⟩,mD (xs:=ts.map V.ref) (λi σ H'=>(Same H H'/\∀ j<i,f j=false)/\∃ x y,σ=[some (.ref A.b),some (.ref pl),some (.ref vl),x,y]) ⟨⟨Same.refl _,λj hj=>absurd hj (my _)⟩,x2 _ _ rfl⟩ (λi σ H' _ ⟨⟨s,_⟩,_⟩=>SqL.of (s _ _ hp)) (λi x σ H' t hx' ⟨⟨s,lo⟩,x0,y0,ez⟩ ht=> ?_) (λσ H' ⟨⟨s,lo⟩,x0,y0,ez⟩=> ?_)⟩
 ·subst ez;rw[ρ]at hx';cases et:ts[i]? with
  | none=>rw[et]at hx';cases hx'
  | some tt =>
   rw[et]at hx';cases hx';refine u3 ?_ (hf i tt et);rintro bi bj v ⟨e1,on,ev,gv,ef⟩
   have s2:=s.trans (AL (o:=.tup [.int (i:Int),.ref tt]) ht);push_cast[];refine⟨_,SqT.of AF,rfl,?_⟩;revert s2;generalize upd H' t (.tup [.int (i:Int),.ref tt])=H2;intro s2;push_cast[↓vR_,↓vQ_];refine y2 ⟨s2 _ _ ho,EA,x9 A w rows n cs outs tt bi bj ⟨rfl,T,TP,B.same s2,s2 _ _ e1,λ_ v' H3 ev' s3=> ?_,λz=>absurd on z⟩⟩;rw[ev]at ev';cases ev'
   have s4:=s2.trans s3;refine zml (gv.keep s4.tk) (s4 _ _ hv) hx ?_;rw[<-ef];push_cast[];cases hfi:f i with
   | true=>exact q i (zmi (by have:=(ι.mp et).1;exact hm ▸ this) hfi lo) _ s4
   | false=>exact⟨s4,λj hj=>by
     rcases gq j i with z | z
     ·exact lo j z
     ·rw[show j=i by exact nj (cy hj) z];exact hfi⟩
 ·subst ez;push_cast[↓vT_];rw[ν,hm]at lo;exact⟨by decide,qe (zmj lo) _ s⟩
def OH{m w:Nat}{B:Nat->Int}{te:TE}{cap:List Nat}{σ:St}{H:Hp}{Q:VK}(hm:m<=1000)(ht:∀ i H' Q',i<m->Same H H'->IA (B i) (i % w:Nat) Q' H'->te (some (.int (0+(i:Int)))::D8 cap σ) H' Q')
  (q:∀ (ts:List Addr) (H':Hp) (l:Addr),ts.length=m->Same H H'->(∀ k t,ts[k]? =some t->H' t=some (.tup [.int (B k),.int (k % w:Nat)]))->H' l=some (.lst (ts.map V.ref))->Q (.ref l) H'):HE (GE 0 m) (AM 0) DY te 1 cap σ H Q:=by
 refine NY (C4 m (oA hm rfl)) (λi ys H'=>Same H H'/\∃ ts:List Addr,ys=ts.map V.ref/\ts.length=i/\∀ k t,ts[k]? =some t->H' t=some (.tup [.int (B k),.int (k % w:Nat)])) ⟨Same.refl _,[],rfl,rfl,λk t h=>by simp at h⟩ (λi ys H' hi hl hzz=> ?_) λys H' hl ⟨s,ts,e,el,h⟩ l hl'=> ?_
 ·obtain⟨s,ts,e,el,h⟩:=hzz;refine ht i H' _ hi s λt htn=> ?_
  have st:=AL (o:=.tup [.int (B i),.int (i % w:Nat)]) htn;refine⟨s.trans st,ts++[t],by rw[e,bo];rfl,by simp[el],λk t' hk=> ?_⟩;rcases gq k ts.length with z | z
  ·rw[am z]at hk;exact st _ _ (h k t' hk)
  ·rw[ao z]at hk
   have hk0:k - ts.length=0:=by
    rcases n8 (k - ts.length)with z | z
    ·exact z
    ·rw[bx (by simp;exact z)]at hk;cases hk
   rw[hk0]at hk;cases hk
   have:k=i:=by omega
   subst this;exact AF
 ·subst e
  have st:=AL (o:=.lst (ts.map V.ref)) hl';exact q ts _ l (by simpa using hl) (s.trans st) (λk t hk=>st _ _ (h k t hk)) AF
def Am{rows:List (List V)}{w i j:Nat}(hw:∀ r∈rows,r.length=w)(hi:i<rows.length)(hj:j<w)(cs:List Ch):∃ v,FI cs rows i j=some v:=by
 unfold FI;cases e:ES cs i j with
 | some k =>
  have:=TV e;exact⟨_,by show(cs[k]?).map _=_;rw[ζ this];rfl⟩
 | none =>
  have er:=ζ hi
  have hl:=hw _ (π er);exact⟨rows[i][j],by show(rows[(i:Int).toNat]?).bind (λr=>r[(j:Int).toNat]?)=_;rw[ai,ai,er];exact ζ (gk hj hl.symm)⟩
def zmn{n r c w kind k:Nat}(hk:kind<3)(h:k<AT n r c w kind):AY n r c w kind k<n+r+c+r+c:=by
 unfold AT at h;unfold AY
 have hd:k / w<(if kind=0 then n else if kind=1 then r else if kind=2 then c else if kind=3 then r else c):=lu (by rw[ji];exact h);rcases(c3 hk:kind=0\/kind=1\/kind=2)with z | z | z<;>subst z<;>simp at hd ⊢ <;>omega
def Ap{n r c w kind k:Nat}(h:k<AT n r c w kind):1<=w:=by
 unfold AT at h;rcases n8 w with z | z
 ·rw[z,Nat.mul_zero]at h;exact nZ h
 ·exact z
def U3{n r c w kind:Nat}(h1:n<=6)(h2:r<=6)(h3:c<=6)(h4:w<=6):AT n r c w kind<=36:=by
 unfold AT
 have h:(if kind=0 then n else if kind=1 then r else if kind=2 then c else if kind=3 then r else c)<=6:=by
  split<;>(try split)<;>(try split)<;>(try split)<;>omega
 exact e_ h h4
def OI(kind:Nat):List V:=if kind=0 then [.non]else [.non,.int 0]
def zmo(kind:Nat)(v:V):decide (v∈OI kind)=K3 kind v:=by
 unfold OI K3;by_cases h:kind=0
 ·subst h;simp
 ·rw[if_neg h];simp[zm h]
def cU{kind:Nat}{A:BA}{n r c w:Nat}{rows:List (List V)}{nn:Nat}{cs:List Ch}{outs:Int->Bool}{ts:List Addr}{l:Addr}{H':Hp}(hk:kind<3)(T:TB K a)(TP:FG K a)(s:Same H H')(B:FD a H A w rows nn cs outs)(hM:rows.length=n+r+c+r+c)(h1:n<=6)(h2:r<=6)(h3:c<=6)(h4:w<=6)
  (gh:∀ i j v,FI cs rows i j=some v->GoodV 4 H v) (hts:ts.length=AT n r c w kind) (ht:∀ k t,ts[k]? =some t->H' t=some (.tup [.int (AY n r c w kind k:Nat),.int (k % w:Nat)])) (el:H' l=some (.lst (ts.map V.ref)))
  (q:∀ k:Nat,EU (L5 cs rows n r c w kind) (AT n r c w kind)=k->∀ H',Same H H'->Q (.int k) H') (qe:EU (L5 cs rows n r c w kind) (AT n r c w kind)= -1->∀ H',Same H H'->E (.ref (a "NoRoom")) none H') :
  ∀ u,H' u=none->OF K a [.ref A.b,.ref l,.ref u] (upd H' u (.tup (OI kind))) Q E:=λu hu=>by
 have su:=AL (o:=.tup (OI kind)) hu
 have s2:=s.trans su;refine RG A w rows nn cs outs l u ts (OI kind) (L5 cs rows n r c w kind) (AT n r c w kind) ⟨rfl,T,TP,B.same s2,su _ _ el,hts,by have:=U3 (kind:=kind) h1 h2 h3 h4;exact oA this rfl,AF,λz hz=> ?_,λk t hkt=> ?_,λk hk' H3 s3=>q k hk' H3 (s2.trans s3),λhk' H3 s3=>qe hk' H3 (s2.trans s3)⟩
 ·unfold OI at hz;split at hz<;>simp at hz
  ·exact .inl hz
  ·rcases hz with z | z
   ·exact .inl z
   ·exact .inr ⟨0,z⟩
 ·have BH:k<AT n r c w kind:=by have:=(ι.mp hkt).1;exact hts ▸ this
  have hb:=zmn hk BH
  have hw:=Ap BH
  have hj:k % w<w:=zj _ (hw);obtain⟨v,ev⟩:=Am (λr' hr'=>B.pk.wd r' hr') (show AY n r c w kind k<rows.length by omega) hj cs;refine x3 _ _ v ⟨su _ _ (ht k t hkt),⟨i0,bv.mpr (hM ▸ hb),i0,bv.mpr hj⟩,ev,(gh _ _ _ ev).keep s2.tk,?_⟩;unfold L5;rw[ev,zmo]
def zmp:UA K a vs H Q E->bX K a (λ_=>E) (BC Q) (start ["","",""] vs) H:=by
 apply u2;rintro p b ⟨rfl,A,n,r,c,w,rows,nn,cs,outs,rfl,T,TP,TL,L,h1,h2,h3,h4,B,hM,gh,q,qe⟩;obtain⟨dx,e⟩:=L.ob;push_cast[bX,↓wK_,↓wL_];refine y2 ⟨e,CC,x5 p n r c w ⟨rfl,TL,L,λt ht=> ?_⟩⟩
 have s1:=AL (o:=.tup [V.int ((n:Int) * w),V.int ((r:Int) * w),V.int ((c:Int) * w)]) ht;refine CU AF (n:=0) rfl rfl ?_;revert s1;generalize upd H t (.tup [V.int ((n:Int) * w),V.int ((r:Int) * w),V.int ((c:Int) * w)])=H1;intro s1
 have hk:=U3 (kind:=0) h1 h2 h3 h4
 have em:(n:Int) * w=(AT n r c w 0:Nat):=by unfold AT;simp
 rw[em];push_cast[];refine⟨i0,by omega,OH (B:=λk=>(AY n r c w 0 k:Nat)) (w:=w) (oA hk rfl) (λi H' Q' hi s' q'=> ?_) λts H' l hts s' htt el=> ?_⟩
 ·push_cast[D8];refine y2 ⟨s' _ _ (s1 _ _ e),CC,x6 p n r c w i ⟨(by simp),TL,(L.same s1).same s',?_⟩⟩;unfold AY at q';simpa using q'
 ·push_cast[];exact⟨by decide,cU (kind:=0) (by decide) T TP (s1.trans s') B hM h1 h2 h3 h4 gh hts htt el q qe⟩
def zmq:YQ K a vs H Q E->bY K a (λ_=>E) (BC Q) (start ["","",""] vs) H:=by
 apply u2;rintro p b ⟨rfl,A,n,r,c,w,rows,nn,cs,outs,rfl,T,TP,TL,L,h1,h2,h3,h4,B,hM,gh,q,qe⟩;obtain⟨dx,e⟩:=L.ob;push_cast[bY,↓wM_,↓wN_];refine y2 ⟨e,CC,x5 p n r c w ⟨rfl,TL,L,λt ht=> ?_⟩⟩
 have s1:=AL (o:=.tup [V.int ((n:Int) * w),V.int ((r:Int) * w),V.int ((c:Int) * w)]) ht;refine CU AF (n:=1) rfl rfl ?_;revert s1;generalize upd H t (.tup [V.int ((n:Int) * w),V.int ((r:Int) * w),V.int ((c:Int) * w)])=H1;intro s1
 have hk:=U3 (kind:=1) h1 h2 h3 h4
 have em:(r:Int) * w=(AT n r c w 1:Nat):=by unfold AT;simp
 rw[em];push_cast[];refine⟨i0,by omega,OH (B:=λk=>(AY n r c w 1 k:Nat)) (w:=w) (oA hk rfl) (λi H' Q' hi s' q'=> ?_) λts H' l hts s' htt el=> ?_⟩
 ·push_cast[D8];refine y2 ⟨s' _ _ (s1 _ _ e),CC,x6 p n r c w i ⟨(by simp),TL,(L.same s1).same s',?_⟩⟩;unfold AY at q';simpa using q'
 ·push_cast[];exact⟨by decide,cU (kind:=1) (by decide) T TP (s1.trans s') B hM h1 h2 h3 h4 gh hts htt el q qe⟩
def zmr:YR K a vs H Q E->bZ K a (λ_=>E) (BC Q) (start ["","",""] vs) H:=by
 apply u2;rintro p b ⟨rfl,A,n,r,c,w,rows,nn,cs,outs,rfl,T,TP,TL,L,h1,h2,h3,h4,B,hM,gh,q,qe⟩;obtain⟨dx,e⟩:=L.ob;push_cast[bZ,↓wO_,↓wP_];refine y2 ⟨e,CC,x5 p n r c w ⟨rfl,TL,L,λt ht=> ?_⟩⟩
 have s1:=AL (o:=.tup [V.int ((n:Int) * w),V.int ((r:Int) * w),V.int ((c:Int) * w)]) ht;refine CU AF (n:=2) rfl rfl ?_;revert s1;generalize upd H t (.tup [V.int ((n:Int) * w),V.int ((r:Int) * w),V.int ((c:Int) * w)])=H1;intro s1
 have hk:=U3 (kind:=2) h1 h2 h3 h4
 have em:(c:Int) * w=(AT n r c w 2:Nat):=by unfold AT;simp
 rw[em];push_cast[];refine⟨i0,by omega,OH (B:=λk=>(AY n r c w 2 k:Nat)) (w:=w) (oA hk rfl) (λi H' Q' hi s' q'=> ?_) λts H' l hts s' htt el=> ?_⟩
 ·push_cast[D8];refine y2 ⟨s' _ _ (s1 _ _ e),CC,x6 p n r c w i ⟨(by simp),TL,(L.same s1).same s',?_⟩⟩;unfold AY at q';simpa using q'
 ·push_cast[];exact⟨by decide,cU (kind:=2) (by decide) T TP (s1.trans s') B hM h1 h2 h3 h4 gh hts htt el q qe⟩
def cV:∀ {n:Nat} {v:V},GoodV n H v->∃ d,Dat K H n v d
 | _+1,.int i,_=>⟨_,Dat.int i⟩
 | _+1,.non,_=>⟨_,Dat.non⟩
 | _+1,.str z,h=>⟨.str z,.str z,h,a_ _⟩
 | n+1,.ref p,⟨xs,h1,h2,h3⟩=>by
  have:∀ (l:List V),(∀ v∈l,GoodV n H v)->∃ ds,Paired (Dat K H n) l ds:=λl=>by
   induction l with
   | nil=>exact λ_=>⟨[],.nil⟩
   | cons x r ih =>
    intro h;obtain⟨d,hd⟩:=cV (h x (aq ..));obtain⟨ds,hds⟩:=ih λv hv=>h v (χ _ hv);exact⟨d::ds,.cons hd hds⟩
  obtain⟨ds,hds⟩:=this xs h3;exact⟨_,Dat.tup (SqT.of h1) hds⟩
def zms{n:Nat}{l:List V}(h:∀ v∈l,GoodV n H v):∃ ds,Paired (Dat K H n) l ds:=by
 induction l with
 | nil=>exact⟨[],.nil⟩
 | cons x r ih =>
  obtain⟨d,hd⟩:=cV (K:=K) (h x (aq ..));obtain⟨ds,hds⟩:=ih λv hv=>h v (χ _ hv);exact⟨d::ds,.cons hd hds⟩
def Aq{cs:List Ch}{rows:List (List V)}(g:goodH H cs rows){i j:Int}{v:V}(h:FI cs rows i j=some v):GoodV 4 H v:=by
 unfold FI at h;cases e:ES cs i j with
 | some k =>
  rw[e]at h
  have h:(cs[k]?).map (·.val)=some v:=h;cases ec:cs[k]? with
  | none=>rw[ec]at h;cases h
  | some c =>
   rw[ec]at h;cases h;exact g.2 c (π ec)
 | none =>
  rw[e]at h
  have h:(rows[i.toNat]?).bind (λr=>r[j.toNat]?)=some v:=h;cases er:rows[i.toNat]? with
  | none=>rw[er]at h;cases h
  | some r =>
   rw[er]at h;exact g.1 r (π er) v (π h)
def goodH.keep{H H':Hp}{cs:List Ch}{rows:List (List V)}(g:goodH H cs rows)(k:CG H H'):goodH H' cs rows:=⟨λr hr v hv=>(g.1 r hr v hv).keep k,λc hc=>(g.2 c hc).keep k⟩
def zmt{cs:List Ch}{rows:List (List V)}{i j:Int}{bi bj:Nat}{v:V}{nd:List Int}:FI (cs++[⟨bi,bj,v,nd⟩]) rows i j=if(bi:Int)=i/\(bj:Int)=j then some v else FI cs rows i j:=by
 unfold FI;rw[XY];by_cases h:(bi:Int)=i/\(bj:Int)=j
 ·rw[if_pos h,if_pos h];simp
 ·rw[if_neg h,if_neg h];cases e:ES cs i j with
  | none=>rfl
  | some k =>
   show((cs++[_])[k]?).map _=(cs[k]?).map _;rw[am (TV e)]
def JD{G:Addr->Prop}{H H':Hp}(s:SameBut G H H')(g:∀ x,G x->FB (H x)):CG H H':=λb xs e=>s _ _ e λz=>(g _ z).1 _ e
def cW{v:V}(hg:GoodV 4 H v)(q:Q (.bl false) H):EI K v v H Q:=by
 cases v with
 | int i=>rw[kY];simpa using q
 | non=>rw[k8];exact q
 | str z=>rw[kZ];simpa using q
 | ref p =>
  obtain⟨d,D⟩:=cV (K:=K) hg;exact MS (by decide) D D q
 | _=>exact hg.elim
def Av{z:Str}{i:Int}{n:Nat}{c:Nat}{Q:VK}(hi:i=n)(hL:z.cps.toList.length<=1000)(hc:z.cps.toList[n]? =some c)(q:Q (.str ⟨#[c]⟩) H):CB K (.str z) (.int i) H Q:=by
 subst hi;exact .inr (.inr (x3 z n c ⟨rfl,rfl,υ (by simpa [xb]using hL) (C4 _ (by decide)),R8 hc,q⟩))
def zmu{c:Nat}:[c]<(bd " ").cps.toList↔c<32:=by
 rw[show(bd " ").cps.toList=[32] by decide +kernel,lb];simp
def zmv{c:Nat}:(bd "~").cps.toList<[c]↔126<c:=by
 rw[show(bd "~").cps.toList=[126] by decide +kernel,lb];simp
def zmw{c:Nat}:[c]<(bd "a").cps.toList↔c<97:=by
 rw[show(bd "a").cps.toList=[97] by decide +kernel,lb];simp
def zmx{c:Nat}:(bd "z").cps.toList<[c]↔122<c:=by
 rw[show(bd "z").cps.toList=[122] by decide +kernel,lb];simp
def zmy(h:YS K a vs H Q E):ZL K a (λ_=>E) (BC Q) (start [""] vs) H:=by
 obtain⟨c,rfl,q⟩:=h;push_cast[ZL,↓pL_,zmu,zmv];unfold M4 at q;split
 ·rename_i h1;split
  ·rename_i h2;rw[show decide (32<=c)=true from decide_eq_true (by exact bu h1),show decide (c<=126)=true from decide_eq_true (by exact bu h2)]at q;refine⟨rfl,?_⟩
   have e:(!decide (((#[c].getD 0 0:Nat):Int)=37))=decide (c≠37):=by
    rw[show(#[c]:Array Nat).getD 0 0=c from rfl,<-decide_not];exact decide_eq_decide.mpr (by omega)
   rw[e];simpa using q
  ·rename_i h2;rw[show decide (c<=126)=false from decide_eq_false (by omega)]at q;simpa using q
 ·rename_i h1;rw[show decide (32<=c)=false from decide_eq_false (by omega)]at q;simpa using q
def Aw{z:Str}{f:Nat->Bool}{te:TE}{Q:VK}(hz:z.length<=1000)(ht:∀ c (Q':VK),Q' (.bl (f c)) H->te [some (.str ⟨#[c]⟩)] H Q')(q:∀ H',Same H H'->Q (.bl (z.cps.toList.all f)) H') :
  HE (PM z) (AM 0) DY te 1 [] [some (.str z)] H λx H1=>PN K [x] H1 Q:=by
 have hs:z.cps.size=z.length:=rfl;refine Wd (C4 _ (oA hz rfl)) (λi ys H'=>H'=H/\ys=(z.cps.toList.take i).map λc=>V.bl (f c)) ⟨rfl,by simp⟩ (λi c ys H' hc hl ⟨e1,e2⟩=> ?_) (λys H' hl ⟨e1,e2⟩ p hp=> ?_)
 ·subst e1;refine ht c _ ⟨rfl,?_⟩
  have hc':z.cps.toList[i]? =some c:=by simpa using hc
  rw[fk,hc',e2];simp
 ·subst e1
  have e3:ys=(z.cps.toList.map f).map V.bl:=by
   rw[e2,pv,xk (by simp)];rfl
  refine x2 p (z.cps.toList.map f) ⟨rfl,by rw[<-e3];exact SqL.of AF,?_⟩
  have:=q _ (AL (o:=.lst ys) hp);rw[Bi];exact this
def zmz(h:YT K a vs H Q E):ZM K a (λ_=>E) (BC Q) (start [""] vs) H:=by
 obtain⟨z,rfl,hz,q⟩:=h;push_cast[ZM,↓pM_];unfold B7 at q;refine⟨z.length,⟨C4 _ (oA hz rfl),rfl⟩,?_⟩;split
 ·rename_i h1;rw[show decide (1<=z.length)=true from decide_eq_true (by exact bv.mp h1),kz]at q;by_cases h2:z.length<=8
  ·rw[show decide (z.length<=8)=true from decide_eq_true h2,kz]at q;rw[if_pos (by omega)];refine Aw hz (λc Q' q'=> ?_) q;push_cast[zmw,zmx];unfold QP at q';split
   ·rename_i h3;rw[show decide (97<=c)=true from decide_eq_true (by exact bu h3),kz]at q';rw[show(!decide (122<c))=decide (c<=122) by rw[<-decide_not];exact decide_eq_decide.mpr (by omega)];exact q'
   ·rename_i h3;rw[show decide (97<=c)=false from decide_eq_false (by omega),iu]at q';exact q'
  ·rw[show decide (z.length<=8)=false from decide_eq_false h2,iu]at q;rw[if_neg (by exact λz=>h2 (lv.mp z))];exact q _ (Same.refl _)
 ·rename_i h1;rw[show decide (1<=z.length)=false from decide_eq_false (by exact λz=>h1 (lv.mpr z)),iu,iu]at q;exact q _ (Same.refl _)
def zm0(h:YU K a vs H Q E):aR K a (λ_=>E) (BC Q) (start [""] vs) H:=by
 obtain⟨z,rfl,hz,q⟩:=h;push_cast[aR,↓r8_];unfold L6 at q;refine⟨z.length,⟨C4 _ (oA hz rfl),rfl⟩,?_⟩;split
 ·rename_i h1;rw[show decide (1<=z.length)=true from decide_eq_true (by exact bv.mp h1),kz]at q;by_cases h2:z.length<=40
  ·rw[show decide (z.length<=40)=true from decide_eq_true h2,kz]at q;rw[if_pos (by omega)];refine Aw hz (λc Q' q'=> ?_) q;push_cast[];exact⟨c,rfl,q'⟩
  ·rw[show decide (z.length<=40)=false from decide_eq_false h2,iu]at q;rw[if_neg (by exact λz=>h2 (lv.mp z))];exact q _ (Same.refl _)
 ·rename_i h1;rw[show decide (1<=z.length)=false from decide_eq_false (by exact λz=>h1 (lv.mpr z)),iu,iu]at q;exact q _ (Same.refl _)
def Ax(x y:Str):(x++y).length=x.length+y.length:=PySem.strLen_append x y
def cX(x:Int){n:Nat}(h:1<=n):∃ b:Nat,x % (n:Int)=b/\b<n :=
  ⟨(x % (n:Int)).toNat,by have:=tm x (show(n:Int)≠0 by exact λz=>il h (bc z));exact(c_ this).symm,by
    have:=ul x (show(0:Int)<n by exact bv.mpr h)
    have:=tm x (show(n:Int)≠0 by exact λz=>il h (bc z));omega⟩
def zm1{z:Str}{i:Int}{n:Nat}{Q:VK}(hi:i=n)(hn:n<z.length)(hz:z.length<=1000)(q:∀ c,Q (.str ⟨#[c]⟩) H):CB K (.str z) (.int i) H Q:=by
 subst hi
 have hn':n<z.cps.toList.length:=by simpa [xb]using hn
 exact .inr (.inr (x3 z n (z.cps.toList[n]) ⟨rfl,rfl,C4 _ (oA hz rfl),R8 (ζ hn'),q _⟩))
section
variable{lp b tk:Addr}
def JE:(sf lp b tk).lookup ("plan":Str)=some (V.ref lp):=by simp[sf]
def JF:(sf lp b tk).lookup ("book":Str)=some (V.ref b):=by
 simp[sf,ay,DE (a:="book") (b:="plan") (by decide +kernel)]
def cY:(sf lp b tk).lookup ("taken_out":Str)=some (V.ref tk):=by
 simp[sf,ay,DE (a:="taken_out") (b:="plan") (by decide +kernel),DE (a:="taken_out") (b:="book") (by decide +kernel)]
def DA{x:Str}(h:(GY x "plan" || GY x "book" || GY x "taken_out")=false:=by decide +kernel):(sf lp b tk).lookup x=none:=by
 simp only[tf]at h;obtain⟨⟨h1,h2⟩,h3⟩:=h;simp[sf,ay,DE h1,DE h2,DE h3]
def zm2:BI "taken_out" (.ref tk) (BI "book" (.ref b) (BI "plan" (.ref lp) []))=sf lp b tk:=by
 repeat (first | rw[OA] | rw[N9 (by decide +kernel)])
 rfl
end
def zm3{w k k':Nat}(h1:k / w=k' / w)(h2:k % w=k' % w):k=k':=by
 rw[<-Ga k w,<-Ga k' w,h1,h2]
def zm4{f:Nat->Bool}{m k:Nat}(h:EU f m=k):k<m:=by
 unfold EU at h;cases e:(ag m).find? f with
 | none=>rw[e]at h;simp at h
 | some k' =>
  rw[e]at h
  have:=bp.mp (vg e);simp at h;omega
def Ay{z:Str}(h:B7 z=true):jj z=true:=by
 unfold B7 at h;rw[dg]at h
 have h:=h.2;unfold jj;rw[<-Eo];rw[ip]at h ⊢;intro c hc
 have:=h c hc;simp only[QP,dg,decide_eq_true_eq]at this ⊢;exact oC this.2 rfl
def RepC.keep{H H':Hp}(k:CG H H'):∀ {x:CV} {v:V},RepC H x v->RepC H' x v
 | .no,_,h=>h
 | .nm _ _,_,⟨t,e,et⟩=>⟨t,e,k _ _ et⟩
 | .mk _,_,h=>h
 | .rc _ _,_,⟨t,u,e,et,eu⟩=>⟨t,u,e,k _ _ et,k _ _ eu⟩
 | .tx _,_,h=>h
def LaidA.keep{n r c w:Nat}{H H':Hp}{cs:List Ch}{as:List AC}(k:CG H H')(h:LaidA n r c w H cs as):LaidA n r c w H' cs as:=by
 induction h with
 | nil=>exact .nil
 | snoc _ e1 e2 e3 e4 e5 e6 ih=>exact ih.snoc e1 e2 (e3.keep k) e4 e5 e6
def SM.same{H H':Hp}{S:SA}{n r c w:Nat}{rows:List (List V)}{nn:Nat}{cs:List Ch}{outs:Int->Bool}{tks:List (AS × V)}{M:Hs}(I:SM a H S n r c w rows nn cs outs tks M)(s:Same H H'):SM a H' S n r c w rows nn cs outs tks M:=by
 obtain⟨⟨dx,e1⟩,e2,e3,e4,e5,e6,e7,e8,e9,e10,e11,e12⟩:=I;exact⟨⟨dx,s _ _ e1⟩,e2.same s,e3.same s,s _ _ e4,e5,e6,e7,e8,e9.keep s.tk,λkind k v h1 h2 hv=>(e10 kind k v h1 h2 hv).keep s.tk,e11,e12.keep s.tk⟩
def zm5:YW K a vs H Q E->ZN K a (λ_=>E) (BC Q) (start [""] vs) H:=by
 apply u5;rintro x dx lp b tk ⟨rfl,T,e,q⟩;push_cast[ZN,↓pN_];exact y3 ⟨e,T.cl,T.n2,_,JF,q⟩
def BookAt.ins1{C:Addr}{H H':Hp}{A:BA}{w:Nat}{rows:List (List V)}{n:Nat}{cs:List Ch}{outs:Int->Bool}{x C' dx:Addr}{fs:List (Str × V)}(B:BookAt a C H A w rows n cs outs)(s:SameBut (· =x) H H')(hx:H x=some (.ins C' dx fs))(hf:fs.length<=2):BookAt a C H' A w rows n cs outs:=by
 obtain⟨⟨⟨d1,e1⟩,⟨chs,e2,e3⟩,e4,e5,e6,⟨AE,e7,e8⟩,⟨DS,e9,e10⟩,r1,r2,r3,r4,r5⟩,⟨⟨d2,f1⟩,⟨ts,f2,f3⟩,f4,f5,f6⟩,nb⟩:=B
 have o:∀ {y:Addr} {o:HO},H y=some o->(∀ C'' d'' ,o≠.ins C'' d'' fs)->H' y=some o:=λe h=>s _ _ e (A0 e hx (h _ _))
 have oi:∀ {y:Addr} {C'' d'':Addr} {gs:List (Str × V)},H y=some (.ins C'' d'' gs)->2<gs.length->H' y=some (.ins C'' d'' gs):=λe h=>o e λ_ _ z=>by injection z with _ _ z;rw[z]at h;exact nL h hf
 have ol:∀ {y:Addr} {o':HO},H y=some o'->(∀ C'' d'' gs,o'≠.ins C'' d'' gs)->H' y=some o':=λe h=>o e λ_ _=>h _ _ _;exact⟨⟨⟨d1,oi e1 (by simp[bf])⟩,⟨chs,ol e2 (by intros;simp),Paired.mapP e3 λy c ⟨d,pl,nt,g1,g2,g3⟩=>x3 d pl nt ⟨oi g1 (by simp[GW]),ol g2 (by intros;simp),ol g3 (by intros;simp)⟩⟩,ol e4 (by intros;simp),λi l h=>ol (e5 i l h) (by intros;simp),e6,⟨AE,ol e7 (by intros;simp),e8⟩,⟨DS,ol e9 (by intros;simp),e10⟩,r1,r2,r3,r4,r5⟩,⟨⟨d2,oi f1 (by simp[pf])⟩,⟨ts,ol f2 (by intros;simp),Paired.mapP f3 λt r z=>ol z (by intros;simp)⟩,f4,f5,f6⟩,nb⟩
def zm6:YV K a vs H Q E->bJ K a (λ_=>E) (BC Q) (start ["","",""] vs) H:=by
 apply RH;rintro x dx lp gp cl n r c w rows nn M ⟨rfl,⟨T,TP,TL,TS⟩,hx,L,P,sz,g,hrp,hok,q⟩;push_cast[bJ,↓uA_,↓uB_,↓uC_];refine y3 ⟨hx,TS.cl,TS.n1,by decide,?_⟩
 have e1:upd H x (.ins (a "Store") dx (BI "plan" (.ref lp) [])) x=some (.ins (a "Store") dx (BI "plan" (.ref lp) [])):=AF
 have s1:SameBut (· =x) H (upd H x (.ins (a "Store") dx (BI "plan" (.ref lp) []))):=λy o e n=>by rw[AO n];exact e
 revert e1 s1;generalize upd H x (.ins (a "Store") dx (BI "plan" (.ref lp) []))=H1;intro e1 s1
 have P1:PlankAt a H1 gp cl w rows nn:=by
  obtain⟨⟨dx',f1⟩,⟨ts,f2,f3⟩,r1,r2,r3⟩:=P;exact⟨⟨dx',s1 _ _ f1 (A0 f1 hx (N8 (by simp[pf])))⟩,⟨ts,s1 _ _ f2 (A0 f2 hx (by intro z;cases z)),Paired.mapP f3 λt r z=>s1 _ _ z (A0 z hx (by intro z;cases z))⟩,r1,r2,r3⟩
 have ncl:cl≠x:=by obtain⟨ts,z,_⟩:=P.ls;exact A0 z hx (by intro z;cases z)
 refine zlz T TP P1 λA H2 eg ec off B s2=> ?_
 have hx2:=s2 _ _ e1;refine y3 ⟨hx2,TS.cl,TS.n2,GP (n:=999) (by decide),λp hp=> ?_⟩
 have np:x≠p:=BL AF hp;rw[AO np.symm]at hp;refine y3 ⟨by rw[AO np,AF],TS.cl,TS.n3,GP (n:=999) (GP (n:=998) (by decide)),?_⟩;rw[zm2]
 have s3:SameBut (· =x) H2 (upd (upd (upd H2 x (.ins (a "Store") dx (BI "book" (.ref A.b) (BI "plan" (.ref lp) [])))) p (.dK [])) x (.ins (a "Store") dx (sf lp A.b p))):=λy o e n=>by
  rw[AO n,AO (BL e hp),AO n];exact e
 have e3:upd (upd (upd H2 x (.ins (a "Store") dx (BI "book" (.ref A.b) (BI "plan" (.ref lp) [])))) p (.dK [])) x (.ins (a "Store") dx (sf lp A.b p)) x=some (.ins (a "Store") dx (sf lp A.b p)):=AF
 have p3:upd (upd (upd H2 x (.ins (a "Store") dx (BI "book" (.ref A.b) (BI "plan" (.ref lp) [])))) p (.dK [])) x (.ins (a "Store") dx (sf lp A.b p)) p=some (.dK []):=by rw[AO np.symm,AF]
 revert s3 e3 p3;generalize upd (upd (upd H2 x (.ins (a "Store") dx (BI "book" (.ref A.b) (BI "plan" (.ref lp) [])))) p (.dK [])) x (.ins (a "Store") dx (sf lp A.b p))=H3;intro s3 e3 p3
 have B3:=B.ins1 s3 hx2 (υ (O4 _ _ _) (by simp))
 have sb:SameBut (· =x) H H3:=(s1.trans (Same.sb s2)).trans s3
 have tk:CG H H3:=λb xs e=>sb _ _ e (A0 e hx (by intro z;cases z))
 have hpH:H p=none:=s1.none (by rw[e1];intro z;cases z) (s2.free hp);obtain⟨dl,el⟩:=L.ob;refine q ⟨A,x,lp,p⟩ H3 rfl rfl eg ec (λy o e=> ?_) hpH ⟨⟨dx,e3⟩,L.sb sb (A0 el hx (N8 (by simp[lf]))),B3,p3,ξ _,λz v h=>by simp[BT]at h,B.off hp,sz,⟨λr hr v hv=>(g r hr v hv).keep tk,λc hc=>by cases hc⟩,λkind k v h1 h2 hv=>(hrp kind k v h1 h2 hv).keep tk,hok,.nil⟩ sb;by_cases hy:y=x
 ·subst hy;exact(off _ _ e1).imp id id
 ·exact off y o (s1 _ _ e hy)
section
variable{X:SX}{cs:List Ch}{tks:List (AS × V)}{M:Hs}
def U4{n r c w kind kind' k k':Nat}(h1:kind<5)(h2:kind'<5)(hk:k<AT n r c w kind)(hk':k'<AT n r c w kind')(e1:AY n r c w kind k=AY n r c w kind' k')(e2:k % w=k' % w):kind=kind'/\k=k':=by
 have f:∀ {kind x:Nat},kind<5->x<(if kind=0 then n else if kind=1 then r else if kind=2 then c else if kind=3 then r else c)->∀ b,(if kind=0 then 0 else if kind=1 then n+r+c else if kind=2 then n+r+c+r else if kind=3 then n else n+r)+x=b->(if b<n then 0 else if b<n+r then 3 else if b<n+r+c then 4 else if b<n+r+c+r then 1 else 2)=kind:=by
  intro kind x h hx b e
  match kind,h with
  | 0,_=>rw[if_pos]<;>simp at hx e<;>exact e ▸ hx
  | 1,_=>rw[if_neg,if_neg,if_neg,if_pos]<;>simp at hx e<;>omega
  | 2,_=>rw[if_neg,if_neg,if_neg,if_neg]<;>simp at hx e<;>omega
  | 3,_=>rw[if_neg,if_pos]<;>simp at hx e<;>omega
  | 4,_=>rw[if_neg,if_neg,if_pos]<;>simp at hx e<;>omega
 have d1:=lu (by rw[ji];exact hk)
 have d2:=lu (by rw[ji];exact hk')
 have key:kind=kind'/\k / w=k' / w:=by
  obtain rfl:kind=kind':=(f h1 d1 _ e1).symm.trans (f h2 d2 _ rfl);exact⟨rfl,Nat.add_left_cancel e1⟩
 exact⟨key.1,zm3 key.2 e2⟩
def LaidA.newest{n r c w:Nat}{H:Hp}{cs:List Ch}{as:List AC}(h:LaidA n r c w H cs as){kind k:Nat}(h1:kind<5)(hk:k<AT n r c w kind):ES cs (AY n r c w kind k:Nat) (k % w:Nat)=ET kind k as/\cs.length=as.length:=by
 induction h with
 | nil=>exact⟨rfl,rfl⟩
 | @snoc cs as ch x _ e1 e2 e3 e4 e5 e6 ih =>
  refine⟨?_,by rw[aj,ih.2];rfl⟩;rw[XY,ih.1,ih.2]
  show _=(if x.kind=kind/\x.k=k then some as.length else ET kind k as);by_cases e:x.kind=kind/\x.k=k
  ·rw[if_pos e,if_pos ⟨by rw[e1,e.1,e.2],by rw[e2,e.2]⟩]
  ·rw[if_neg e,if_neg λz=>e (U4 e5 h1 e6 hk (by have:=z.1;rw[e1]at this;omega) (by have:=z.2;rw[e2]at this;omega))]
def SM.on(I:X.at a H cs tks M){kind k:Nat}(h1:kind<5)(hk:k<AT X.n X.r X.c X.w kind):AY X.n X.r X.c X.w kind k<X.rows.length/\k % X.w<X.w:=by
 refine⟨?_,zj _ (by have:=Ap hk;exact this)⟩;rw[I.sz.2.2.2.2];unfold AT at hk;unfold AY
 have hd:k / X.w<(if kind=0 then X.n else if kind=1 then X.r else if kind=2 then X.c else if kind=3 then X.r else X.c):=lu (by rw[ji];exact hk);generalize k / X.w=x at *;clear hk;rcases(c5 h1:kind=0\/kind=1\/kind=2\/kind=3\/kind=4)with z | z | z | z | z<;>subst z<;>simp at hd ⊢ <;>omega
def SM.onPl(I:X.at a H cs tks M){kind k:Nat}(h1:kind<5)(hk:k<AT X.n X.r X.c X.w kind):onPl X.rows X.w (AY X.n X.r X.c X.w kind k:Nat) (k % X.w:Nat):=by
 have:=I.on h1 hk;exact⟨nq _,by omega,nq _,bv.mpr this.2⟩
def SM.val(I:X.at a H cs tks M){kind k:Nat}(h1:kind<5)(hk:k<AT X.n X.r X.c X.w kind):∃ v,FI cs X.rows (AY X.n X.r X.c X.w kind k:Nat) (k % X.w:Nat)=some v/\RepC H (M kind k) v:=by
 obtain⟨b1,b2⟩:=I.on h1 hk;obtain⟨v,ev⟩:=Am (λr' hr'=>I.bk.pk.wd r' hr') b1 b2 cs;exact⟨v,ev,I.rp kind k v h1 hk ev⟩
def SM.snoc{H':Hp}{kind k:Nat}{v:V}{x:CV}{nd:List Int}{nd':List Nat}(hd:∀ y:Int,y∈nd↔(∃ j∈nd',y=(j:Nat))\/nY cs (AY X.n X.r X.c X.w kind k:Nat) (k % X.w:Nat) y)(I:X.at a H cs tks M)(h1:kind<5)(hk:k<AT X.n X.r X.c X.w kind)(B:FD a H' X.S.A X.w X.rows X.nn (cs++[⟨AY X.n X.r X.c X.w kind k,k % X.w,v,nd⟩]) X.outs)(s:SameBut X.S.A.F H H')(g:GoodV 4 H' v)(rx:RepC H' x v)(ox:EB kind x):X.at a H' (cs++[⟨AY X.n X.r X.c X.w kind k,k % X.w,v,nd⟩]) tks (M.put kind k x nd'):=by
 have lo:∀ x,X.S.A.F x->FB (H x):=λx hx=>I.bk.loose hx
 have tk:CG H H':=JD s lo;obtain⟨⟨dx,e1⟩,e2,e3,e4,e5,e6,e7,e8,e9,e10,e11,e12⟩:=I;obtain⟨dl,el⟩:=e2.ob;refine⟨⟨dx,s _ _ e1 λz=>(lo _ z).2 _ _ _ e1⟩,e2.sb s λz=>(lo _ z).2 _ _ _ el,B,s _ _ e4 e7,by rw[aj];exact av e5,λz v h=> ?_,e7,e8,⟨(e9.keep tk).1,λc hc=> ?_⟩,λkind' k' v' h1' hk' hv=> ?_,λkind' k' h1' hk'=> ?_,(e12.keep tk).snoc rfl rfl rx (λy=>by rw[hd];unfold nY;rw[(e12.newest h1 hk).1]) h1 hk⟩
 ·obtain⟨k,ek,hk⟩:=e6 z v h;exact⟨k,ek,by rw[aj];exact av hk⟩
 ·rcases bh.mp hc with y | y
  ·exact(e9.keep tk).2 c y
  ·rw[ο.mp y];exact g
 ·rw[zmt]at hv;rw[Hs.put_at];by_cases hp:kind'=kind/\k'=k
  ·obtain⟨rfl,rfl⟩:=hp;rw[if_pos ⟨rfl,rfl⟩]at hv ⊢;cases hv;exact rx
  ·rw[if_neg λy=>hp (by
    have:=U4 h1 h1' hk hk' (bc y.1) (bc y.2);exact⟨this.1.symm,this.2.symm⟩)]at hv
   rw[if_neg hp];exact(e10 kind' k' v' h1' hk' hv).keep tk
 ·rw[Hs.put_at];split
  ·rename_i y;rw[y.1];exact ox
  ·exact e11 kind' k' h1' hk'
def JG{kind k:Nat}{v:V}{x:CV}{u nl:Addr}{ns:List Int}(T4:DM K a)(I:X.at a H cs tks M)(h1:kind<5)(hk:k<AT X.n X.r X.c X.w kind)(hu:H u=some (.tup [.int (AY X.n X.r X.c X.w kind k:Nat),.int (k % X.w:Nat)]))(hn:H nl=some (.lst (ns.map V.int)))(hl:ns.length<=60)(hcs:cs.length<990)(kn:∀ x∈ns,known cs x)(g:GoodV 4 H v)(rx:RepC H x v)(ox:EB kind x)
  (q:∀ ch H',X.at a H' (cs++[ch]) tks (M.put kind k x (EW ns))->SameBut X.S.A.F H H'->Q (.int cs.length) H'):G5 K a [.ref X.S.A.b,.ref u,v,.ref nl] H Q E:=by
 obtain⟨T,TP,TL,TS⟩:=T4;refine RG X.S.A X.w X.rows X.nn cs X.outs u nl v ns _ _ ⟨rfl,T,TP,I.bk,hu,SqL.of hn,hl,hcs,λ_ _ nd H5 pw mem B5 RE=> ?_,λy=>absurd (I.onPl h1 hk) y,λ_ ⟨x,hx,hk⟩=>absurd (kn x hx) hk⟩;rw[ai,ai]at B5
 have tk:=JD RE λx hx=>I.bk.loose hx;refine q _ H5 (I.snoc (λy=> ?_) h1 hk B5 RE (g.keep tk) (rx.keep tk) ox) RE;rw[mem];refine or_congr ⟨λh=>⟨y.toNat,cj.mpr ⟨y,h,rfl⟩,by have:=(kn y h).1;exact(c_ this).symm⟩,λhzz=> ?_⟩ Kr;obtain⟨j,hj,e⟩:=hzz;obtain⟨x,hx,rfl⟩:=cj.mp hj
 have:=(kn x hx).1;rw[show y=x by omega];exact hx
end
def NmV(H:Hp)(v:V):Option (Str × Nat)->Prop
 | none=>v=.non
 | some (z,k)=>∃ t,v=.ref t/\H t=some (.tup [.str z,.int k])
def NmV.keep{H H':Hp}{v:V}{x:Option (Str × Nat)}(h:NmV H v x)(k:CG H H'):NmV H' v x:=by
 cases x with
 | none=>exact h
 | some p=>obtain⟨t,e,et⟩:=h;exact⟨t,e,k _ _ et⟩
def RepC.nmv{M:Hs}{k:Nat}{v:V}(h:RepC H (M 0 k) v)(ok:EB 0 (M 0 k)):NmV H v (FR M k):=by
 unfold FR;cases e:M 0 k with
 | no=>rw[e]at h;exact h
 | nm z r=>rw[e]at h;exact h
 | mk i=>rw[e]at ok;exact ok.elim
 | rc m ps=>rw[e]at ok;exact ok.elim
 | tx z=>rw[e]at ok;exact ok.elim
def zm7:UB K a vs H Q E->bQ K a (λ_=>E) (BC Q) (start [""] vs) H:=by
 apply u4;rintro X cs tks M ⟨rfl,⟨T,TP,TL,TS⟩,I,q⟩;obtain⟨S,n,r,c,w,rows,nn,outs⟩:=X;dsimp only at *
 have I0:(SX.mk S n r c w rows nn outs).at a H cs tks M:=I;obtain⟨dx,ho⟩:=I.ob;obtain⟨dl,el⟩:=I.ly.ob;obtain⟨db,eb⟩:=I.bk.bk.ob
 have hz:=I.sz
 have hkm:n * w<=36:=e_ hz.1 hz.2.2.2.1;push_cast[bQ,↓vU_];refine y3 ⟨ho,TS.cl,TS.n1,_,JE,y2 ⟨el,CC,x5 S.lp n r c w ⟨rfl,TL,I.ly,λt ht=> ?_⟩⟩⟩
 have s1:=AL (o:=.tup [V.int ((n:Int) * w),V.int ((r:Int) * w),V.int ((c:Int) * w)]) ht;refine CU AF (n:=0) rfl rfl ?_;revert s1;generalize upd H t (.tup [V.int ((n:Int) * w),V.int ((r:Int) * w),V.int ((c:Int) * w)])=H1;intro s1
 have em:(n:Int) * w=(n * w:Nat):=by simp
 rw[em];push_cast[];refine⟨i0,by omega,NY (C4 _ (oA hkm rfl)) (λi ys H'=>Same H H'/\ys.length=i/\∀ k v,ys[k]? =some v->FI cs rows (AY n r c w 0 k:Nat) (k % w:Nat)=some v) ⟨s1,rfl,λk v h=>by simp at h⟩ (λi ys H' hi hl hzz=> ?_) (λys H' hl ⟨s,_,al⟩ p hp=> ?_)⟩
 ·obtain⟨s,_,al⟩:=hzz;push_cast[D8];refine y3 ⟨s _ _ ho,TS.cl,TS.n2,_,JF,y2 ⟨s _ _ eb,EA,y3 ⟨s _ _ ho,TS.cl,TS.n1,_,JE,y2 ⟨s _ _ el,CC,x6 S.lp n r c w i ⟨by simp,TL,I.ly.same s,λu hu=> ?_⟩⟩⟩⟩⟩
  have s2:=s.trans (AL (o:=.tup [.int (0+(i:Int) / w),.int ((i:Int) % w)]) hu)
  have hm0:i<AT n r c w 0:=by simpa [AT]using hi
  refine x9 S.A w rows nn cs outs u (AY n r c w 0 i:Nat) (i % w:Nat) ⟨rfl,T,TP,I.bk.same s2,by rw[AF];simp[AY],λ_ v H3 ev s3=>⟨s2.trans s3,by simp[hl],λk v' hk=> ?_⟩,λz=>absurd (SM.onPl I0 (kind:=0) (by decide) hm0) z⟩;rcases gq k ys.length with z | z
  ·rw[am z]at hk;exact al k v' hk
  ·rw[ao z]at hk
   have:k=i:=by
    rcases Nat.eq_or_lt_of_le z with y | y
    ·exact hl ▸ y.symm
    ·rw[bx (by simp;omega)]at hk;cases hk
   subst this;rw[hl,ko]at hk;cases hk;exact ev
 ·have sp:=AL (o:=.lst ys) hp
  have s3:=s.trans sp;refine q p ys _ s3 AF hl λk v hk=> ?_
  have IG:=(ι.mp hk).1;exact(I.rp 0 k v (by decide) (by simp[AT];exact hl ▸ IG) (al k v hk)).keep s3.tk
def Az{M:Hs}{m i:Nat}{z:Str}(hi:i<m)(h:(FR M i).any (λp=>decide (p.1=z))=true)(hl:∀ j<i,(FR M j).any (λp=>decide (p.1=z))=false):cellOf M m z=some i:=by
 unfold cellOf;rw[kf];refine⟨h,x2 (ag i) ((ag (m - i - 1)).map (i+1+·)) ⟨?_,λj hj=>by rw[hl j (bp.mp hj)];rfl⟩⟩
 have e1:m=i+(1+(m - i - 1)):=by omega
 conv=>lhs;rw[e1]
 rw[vd,vd];simp[yz,pr]
def Bb{M:Hs}{m:Nat}{z:Str}(hl:∀ j<m,(FR M j).any (λp=>decide (p.1=z))=false):cellOf M m z=none:=by
 unfold cellOf;exact jb.mpr λj hj=>by rw[hl j (bp.mp hj)];exact ψ
def zm8:QR K a vs H Q E->cA K a (λ_=>E) (BC Q) (start ["","","",""] vs) H:=by
 apply u5;rintro X cs tks M z ⟨rfl,T4,I,q⟩;obtain⟨dx,ho⟩:=I.ob;push_cast[cA,↓wS_];refine y2 ⟨ho,DA,x4 X cs tks M ⟨rfl,T4,I,λl xs H1 s1 el hl hx=> ?_⟩⟩;refine⟨⟨_,SqL.of el⟩,mD (xs:=xs) (λi σ H'=>(Same H H'/\Same H1 H'/\∀ j<i,(FR M j).any (λp=>decide (p.1=z))=false)/\∃ x y,σ=[some (.ref X.S.st),some (.str z),x,y]) ⟨⟨s1,Same.refl _,λj hj=>absurd hj (my _)⟩,x2 _ _ rfl⟩ (λi σ H' _ ⟨⟨_,s,_⟩,_⟩=>SqL.of (s _ _ el)) (λi x σ H' t hxi ⟨⟨sH,s,lo⟩,y1,y2,ez⟩ ht=> ?_) (λσ H' ⟨⟨sH,s,lo⟩,y1,y2,ez⟩=> ?_)⟩
 ·subst ez
  have hi:=(ι.mp hxi).1
  have s2:=s.trans (AL (o:=.tup [.int (i:Int),x]) ht)
  have sH2:=sH.trans (AL (o:=.tup [.int (i:Int),x]) ht)
  have nx:=((hx i x hxi).nmv (I.ok 0 i (by decide) (by rw[hl]at hi;simpa [AT]using hi))).keep s2.tk;push_cast[];refine⟨_,SqT.of AF,rfl,?_⟩;revert s2 sH2 nx;generalize upd H' t (.tup [.int (i:Int),x])=H2;intro s2 sH2 nx
  have next:(FR M i).any (λp=>decide (p.1=z))=false->Same H H2/\Same H1 H2/\∀ j<i+1,(FR M j).any (λp=>decide (p.1=z))=false:=λh=>⟨sH2,s2,λj hj=>by
   rcases gq j i with y | y
   ·exact lo j y
   ·rw[show j=i by exact nj (cy hj) y];exact h⟩
  push_cast[↓wR_,↓wQ_];cases en:FR M i with
  | none =>
   rw[en]at nx next;rw[show x=.non from nx];push_cast[];exact next rfl
  | some p =>
   rw[en]at nx next;obtain⟨u,rfl,eu⟩:=nx;rw[if_pos (by simp)];refine CU eu (n:=0) rfl rfl ?_;push_cast[];by_cases hz:p.1=z
   ·rw[if_pos hz]
    have:=q _ sH2;rw[Az (i:=i) (by exact hl ▸ hi) (by rw[en];simpa using hz) lo]at this;exact this
   ·rw[if_neg hz];exact next (by simpa using hz)
 ·subst ez;push_cast[↓wT_]
  have:=q _ sH;rw[Bb (by rw[<-hl];exact lo)]at this;exact this
def zm9:UC K a vs H Q E->cE K a (λ_=>E) (BC Q) (start ["","",""] vs) H:=by
 apply u7;rintro X cs tks M z gl zs ⟨rfl,T4,I,eg,hl,hy,q,q1,q2⟩;obtain⟨dx,ho⟩:=I.ob;push_cast[cE,↓xA_];refine .inl ⟨⟨_,SqL.of eg⟩,Vm (xs:=zs.map V.str) (C4 _ (by rw[ν];exact oA hl rfl)) (λi ys H'=>Same H H'/\ys=((zs.take i).map B7).map V.bl) ⟨Same.refl _,rfl⟩ (λi ys H' _ ⟨s,_⟩=>SqL.of (s _ _ eg)) (λi x ys H' hxi hyl ⟨s,ey⟩=> ?_) (λys H' hyl ⟨s,ey⟩ p hp=> ?_)⟩
 ·rw[ρ,bq]at hxi;obtain⟨x',hx',rfl⟩:=hxi;push_cast[D8];refine⟨x',rfl,hy x' (π hx'),λH2 s2=>⟨s.trans s2,?_⟩⟩;rw[fk,hx',ey];simp
 ·rw[ν,dn]at ey
  have sp:=AL (o:=.lst ys) hp
  have s2:=s.trans sp;refine x2 p (zs.map B7) ⟨rfl,by rw[<-ey];exact SqL.of AF,?_⟩;rw[Bi,Function.id_comp];revert s2;generalize upd H' p (.lst ys)=H2;intro s2;cases hb:zs.all B7 with
  | false =>
   push_cast[↓w9_];exact⟨by decide,q1 hb _ s2⟩
  | true =>
   push_cast[↓xC_];refine y2 ⟨s2 _ _ ho,DA,x5 X cs tks M z ⟨rfl,T4,I.same s2,λH3 s3=> ?_⟩⟩
   have s4:=s2.trans s3;cases hc:cellOf M X.m0 z with
   | none =>
    push_cast[IB];exact q hb hc _ s4
   | some k =>
    push_cast[IB,↓xB_];exact⟨by decide,q2 hb ⟨k,hc⟩ _ s4⟩
def K5{S:SA}{dx db gp mm mi lt ou:Addr}{mth:Str}{P:V->Prop}(TS:QQ K a)(ho:H S.st=some (.ins (a "Store") dx (sf S.lp S.A.b S.tk)))(eb:H S.A.b=some (.ins (a "Hold") db (bf gp mm mi lt ou)))(hm:(bf gp mm mi lt ou).lookup mth=none)(p:P (.ref S.A.b)) :
  ∃ x x1 x2,H S.st=some (.ins x x1 x2)/\Cls K x/\NoAttr K x "book"/\∃ v,x2.lookup ("book":Str)=some v/\DG v λb=>∃ y y1,H b=some (.ins (a "Hold") y y1)/\y1.lookup mth=none/\P v:=y3 ⟨ho,TS.cl,TS.n2,_,JF,y2 ⟨eb,hm,p⟩⟩
def KA{S:SA}{dx dl:Addr}{n r c w:Int}{mth:Str}{P:V->Prop}(TS:QQ K a)(ho:H S.st=some (.ins (a "Store") dx (sf S.lp S.A.b S.tk)))(el:H S.lp=some (.ins (a "Layout") dl (lf n r c w)))(hm:(lf n r c w).lookup mth=none)(p:P (.ref S.lp)) :
  ∃ x x1 x2,H S.st=some (.ins x x1 x2)/\Cls K x/\NoAttr K x "plan"/\∃ v,x2.lookup ("plan":Str)=some v/\DG v λb=>∃ y y1,H b=some (.ins (a "Layout") y y1)/\y1.lookup mth=none/\P v:=y3 ⟨ho,TS.cl,TS.n1,_,JE,y2 ⟨el,hm,p⟩⟩
section
variable{p:Addr}{n r c w k:Nat}
def U5(TL:D1 K a)(L:LayAt a H p n r c w)(q:IA (0+k / w) (k % w) Q H):IZ K a [.ref p,.int k] H Q E:=x6 p n r c w k ⟨rfl,TL,L,q⟩
def MA(TL:D1 K a)(L:LayAt a H p n r c w)(q:IA (n+k / w) (k % w) Q H):JA K a [.ref p,.int k] H Q E:=x6 p n r c w k ⟨rfl,TL,L,q⟩
def Bc(TL:D1 K a)(L:LayAt a H p n r c w)(q:IA (n+r+k / w) (k % w) Q H):QJ K a [.ref p,.int k] H Q E:=x6 p n r c w k ⟨rfl,TL,L,q⟩
def cZ(TL:D1 K a)(L:LayAt a H p n r c w)(q:IA (n+r+c+k / w) (k % w) Q H):L4 K a [.ref p,.int k] H Q E:=x6 p n r c w k ⟨rfl,TL,L,q⟩
def c6(TL:D1 K a)(L:LayAt a H p n r c w)(q:IA (n+r+c+r+k / w) (k % w) Q H):JV K a [.ref p,.int k] H Q E:=x6 p n r c w k ⟨rfl,TL,L,q⟩
end
def c7{f g:Nat->Bool}:∀ {l:List Nat},(∀ k∈l,f k=g k)->l.find? f=l.find? g
 | [],_=>rfl
 | k::l,h=>by
  rw[ia,ia,h k aq,c7 λk' hk'=>h k' (χ _ hk')]
def Bd{f g:Nat->Bool}{m:Nat}(h:∀ k<m,f k=g k):EU f m=EU g m:=by
 unfold EU;rw[c7 λk hk=>h k (bp.mp hk)]
section
variable{X:SX}{cs:List Ch}{tks:List (AS × V)}{M:Hs}
def SM.free(I:X.at a H cs tks M){kind:Nat}(hk:kind<3):EU (L5 cs X.rows X.n X.r X.c X.w kind) (AT X.n X.r X.c X.w kind)=EG M kind (AT X.n X.r X.c X.w kind):=Bd λk hkm=>by
 obtain⟨v,ev,rv⟩:=I.val (oA hk rfl:kind<5) hkm
 have ok:=I.ok kind k (oA hk rfl) hkm;unfold L5;rw[ev]
 show K3 kind v=EV kind (M kind k);cases e:M kind k with
 | no=>rw[e]at rv;rw[show v=.non from rv];simp[K3,EV]
 | nm z r=>rw[e]at rv;obtain⟨t,rfl,_⟩:=rv;simp[K3,EV]
 | mk i =>
  rw[e]at rv;rw[show v=.int i from rv];simp[K3,EV]
 | rc m ps=>rw[e]at rv;revert rv;apply u2;rintro t u ⟨rfl,_⟩;simp[K3,EV]
 | tx z=>rw[e]at rv;rw[show v=.str z from rv];simp[K3,EV]
def zna{m cell:Nat}{z:Str}(h:cellOf M m z=some cell):cell<m/\∃ k,M 0 cell=.nm z k:=by
 unfold cellOf at h
 have h1:=bp.mp (vg h)
 have h2:=Ge h;unfold FR at h2;refine⟨h1,?_⟩;cases e:M 0 cell with
 | nm z' k =>
  rw[e]at h2;simp at h2;exact⟨k,by rw[h2]⟩
 | _=>rw[e]at h2;simp at h2
def U6{kind:Nat}(T4:DM K a)(I:X.at a H cs tks M)(hk:kind<3)(q:∀ k:Nat,EG M kind (AT X.n X.r X.c X.w kind)=k->k<AT X.n X.r X.c X.w kind->∀ H',Same H H'->Q (.int k) H')(qe:EG M kind (AT X.n X.r X.c X.w kind)= -1->F3 a H "NoRoom" E):T9 kind K a X.S.lp X.S.A.b H Q E:=by
 obtain⟨T,TP,TL,TS⟩:=T4;obtain⟨z1,z2,z3,z4,z5⟩:=I.sz;refine x9 X.S.A X.n X.r X.c X.w X.rows X.nn cs X.outs ⟨rfl,T,TP,TL,I.ly,z1,z2,z3,z4,I.bk,z5,λi j v hv=>Aq I.gd hv,λk e H' s=> ?_,λe H' s=> ?_⟩
 ·rw[I.free hk]at e;exact q k e (zm4 e) H' s
 ·rw[I.free hk]at e;exact qe e H' s
end
def znb:L7 K a vs H Q E->bR K a (λ_=>E) (BC Q) (start ["",""] vs) H:=by
 apply u5;rintro X cs tks M rec ⟨rfl,⟨T,TP,TL,TS⟩,I,hr,q⟩;obtain⟨dx,ho⟩:=I.ob;obtain⟨dl,el⟩:=I.ly.ob;obtain⟨db,eb⟩:=I.bk.bk.ob
 have hm:rec<AT X.n X.r X.c X.w 3:=by simpa [AT]using hr
 push_cast[bR,↓vV_];refine K5 TS (ho) (eb) (EA) (KA TS (ho) (el) (CC) (MA TL (I.ly) λu hu=> ?_))
 have s2:=AL (o:=.tup [.int (X.n+(rec:Int) / X.w),.int ((rec:Int) % X.w)]) hu;refine x9 X.S.A X.w X.rows X.nn cs X.outs u (AY X.n X.r X.c X.w 3 rec:Nat) (rec % X.w:Nat) ⟨rfl,T,TP,I.bk.same s2,by rw[AF];simp[AY],λ_ v H3 ev s3=> ?_,λz=>absurd (I.onPl (kind:=3) (by decide) hm) z⟩
 have s4:=s2.trans s3;exact q v H3 ((I.rp 3 rec v (by decide) hm ev).keep s4.tk) s4
def znc:M5 K a vs H Q E->cF K a (λ_=>E) (BC Q) (start ["","",""] vs) H:=by
 apply u5;rintro X cs tks M z ⟨rfl,T4,I,q,qe⟩;obtain⟨dx,ho⟩:=I.ob;push_cast[cF,↓xD_];refine y2 ⟨ho,DA,x5 X cs tks M z ⟨rfl,T4,I,λH1 s1=> ?_⟩⟩;push_cast[↓xF_];cases e:cellOf M X.m0 z with
 | none =>
  push_cast[IB,↓xE_];exact⟨by decide,qe e _ s1⟩
 | some cell =>
  push_cast[IB,↓xG_];obtain⟨hc,k,ek⟩:=zna e;refine y2 ⟨s1 _ _ ho,DA,x4 X cs tks M ⟨rfl,T4,I.same s1,λl xs H2 s2 el hl hx=> ?_⟩⟩
  have BM:cell<xs.length:=by rw[hl];exact hc
  have ex:=ζ BM
  have rx:=hx cell _ ex;rw[ek]at rx;obtain⟨t,et,et2⟩:=rx;exact D5 (SqL.of el) rfl ex (by rw[et];exact CU et2 (n:=1) rfl rfl (q cell k e hc ek _ (s1.trans s2)))
def Bg{X:SX}{cs:List Ch}{tks:List (AS × V)}{M:Hs}{cell rec need:Nat}{z:Str}{nl:Addr}{ns:List Int}{H2:Hp}(T4:DM K a)(I:X.at a H cs tks M)(hc:cell<X.m0)(hcs:cs.length<980)(hz:jj z=true)(s:Same H H2)(en:H2 nl=some (.lst (ns.map V.int)))(hl:ns.length<=60)(kn:∀ x∈ns,known cs x)
  (q:UD X a H cs tks (M.put 0 cell (.nm z rec) (EW ns)) Q) :
  bS K a (λ_=>E) (λ_=>E) (BC Q) [some (.ref X.S.st),some (.int cell),some (.str z),some (.int rec),some (.int need),some (.ref nl)] H2:=by
 have T4':=T4;obtain⟨T,TP,TL,TS⟩:=T4;obtain⟨dx,ho⟩:=I.ob;obtain⟨dl,el⟩:=I.ly.ob;obtain⟨db,eb⟩:=I.bk.bk.ob
 have hm:cell<AT X.n X.r X.c X.w 0:=by simpa [AT]using hc
 push_cast[↓bS_];refine K5 TS (s _ _ ho) (s _ _ eb) (EA) (KA TS (s _ _ ho) (s _ _ el) (CC) (U5 TL (I.ly.same s) λu hu=> ?_))
 have s2:=s.trans (AL (o:=.tup [.int (0+(cell:Int) / X.w),.int ((cell:Int) % X.w)]) hu)
 have eu:upd H2 u (.tup [.int (0+(cell:Int) / X.w),.int ((cell:Int) % X.w)]) u=some (.tup [.int (AY X.n X.r X.c X.w 0 cell:Nat),.int (cell % X.w:Nat)]):=by rw[AF];simp[AY]
 have en2:=AL (o:=.tup [.int (0+(cell:Int) / X.w),.int ((cell:Int) % X.w)]) hu _ _ en;revert s2 eu en2;generalize upd H2 u (.tup [.int (0+(cell:Int) / X.w),.int ((cell:Int) % X.w)])=H3;intro s2 eu en2;push_cast[];refine⟨by decide,λt ht=> ?_⟩
 have st:=AL (o:=.tup [V.str z,V.int rec]) ht
 have s4:=s2.trans st
 have et:upd H3 t (.tup [V.str z,V.int rec]) t=some (.tup [V.str z,V.int rec]):=AF;refine JG T4' (I.same s4) (kind:=0) (x:=.nm z rec) (by decide) hm (st _ _ eu) (st _ _ en2) hl (oA hcs rfl) kn ⟨_,et,by simp,λv hv=> ?_⟩ ⟨t,rfl,et⟩ trivial λch H' I' sb=>q ch H' I' λb o e n=>sb _ _ (s4 _ _ e) n;simp only[ak,bz,or_false]at hv;rcases hv with rfl | rfl
 ·exact hz
 ·trivial
def znd:UE K a vs H Q E->bT K a (λ_=>E) (BC Q) (start ["","","","","",""] vs) H:=by
 apply u8;rintro X cs tks M cell rec need z ⟨rfl,T4,I,hc,hn,hcs,hz,q⟩;obtain⟨T,TP,TL,TS⟩:=T4;obtain⟨dx,ho⟩:=I.ob;push_cast[bT,↓vW_,↓vY_];refine⟨by decide,λnl hnl=> ?_⟩
 have s1:=AL (o:=.lst [V.int need]) hnl;refine y3 ⟨s1 _ _ ho,TS.cl,TS.n3,_,cY,_,dS (s1 _ _ I.tk),?_⟩
 have e1:upd H nl (.lst [V.int need]) nl=some (.lst [V.int need]):=AF
 have kn:known cs (need:Int):=⟨i0,bv.mpr hn⟩
 cases hv:BT tks (.inr z)with
 | none =>
  rw[show D2 tks z=[] by unfold D2;rw[hv]]at q;rw[if_neg (by simp)];exact Bg (ns:=[(need:Int)]) ⟨T,TP,TL,TS⟩ I hc hcs hz s1 e1 (by simp) (λx hx=>by rw[ο.mp hx];exact kn) q
 | some v =>
  obtain⟨k,rfl,hk⟩:=I.tv z v hv;rw[show D2 tks z=[k] by unfold D2;rw[hv];rfl]at q;rw[if_pos (by simp)];push_cast[↓vX_];refine⟨.inl ⟨rfl,_,SqL.of e1⟩,y3 ⟨s1 _ _ ho,TS.cl,TS.n3,_,cY,_,PU (s1 _ _ I.tk) hv,⟨_,e1,(by show 1<sizeLine;decide),?_⟩⟩⟩;rw[IL];refine Bg (ns:=[(need:Int),(k:Int)]) ⟨T,TP,TL,TS⟩ I hc hcs hz (AL hnl) AF (by simp) (λx hx=> ?_) q;simp only[ak,bz,or_false]at hx;rcases hx with rfl | rfl
  ·exact kn
  ·exact⟨i0,bv.mpr hk⟩
def zne{n:Nat}{H:Hp}(ps:List Nat):∀ v∈AW ps,GoodV (n+1) H v:=λv hv=>by
 obtain⟨p,_,rfl⟩:=cj.mp hv
 trivial
def c8{H:Hp}{t u:Addr}{m:Nat}{ps:List Nat}(h1:H t=some (.tup [.int m,.ref u]))(h2:H u=some (.tup (AW ps)))(hl:ps.length<=100):GoodV 4 H (.ref t):=⟨_,h1,by simp,λv hv=>by
 simp only[ak,bz,or_false]at hv;rcases hv with rfl | rfl
 ·trivial
 ·exact⟨_,h2,by simp[AW];exact hl,zne ps⟩⟩
def znf:QS K a vs H Q E->cB K a (λ_=>E) (BC Q) (start ["","","","",""] vs) H:=by
 apply OV;rintro X cs tks M rec m m' more ps nl ns ⟨rfl,T4,I,hr,eM,hm',hps,en,hl,kn,hcs,q⟩
 have T4':=T4;obtain⟨T,TP,TL,TS⟩:=T4;obtain⟨dx,ho⟩:=I.ob;obtain⟨dl,el⟩:=I.ly.ob;obtain⟨db,eb⟩:=I.bk.bk.ob
 have hm:rec<AT X.n X.r X.c X.w 3:=by simpa [AT]using hr
 push_cast[cB,↓wU_];refine y2 ⟨ho,DA,x5 X cs tks M rec ⟨rfl,T4',I,hr,λv H1 rv s=> ?_⟩⟩;rw[eM]at rv;revert rv;apply u2;rintro t0 u0 ⟨rfl,F5,II⟩;push_cast[↓wV_];refine K5 TS (s _ _ ho) (s _ _ eb) (EA) (KA TS (s _ _ ho) (s _ _ el) (CC) (MA TL (I.ly.same s) λu hu=> ?_))
 have sa:=AL (o:=.tup [.int (X.n+(rec:Int) / X.w),.int ((rec:Int) % X.w)]) hu
 have eu:upd H1 u (.tup [.int (X.n+(rec:Int) / X.w),.int ((rec:Int) % X.w)]) u=some (.tup [.int (AY X.n X.r X.c X.w 3 rec:Nat),.int (rec % X.w:Nat)]):=by rw[AF];simp[AY]
 revert sa eu;generalize upd H1 u (.tup [.int (X.n+(rec:Int) / X.w),.int ((rec:Int) % X.w)])=H2;intro sa eu;refine CU (sa _ _ F5) (n:=0) rfl rfl ?_;push_cast[];refine CU (sa _ _ F5) (n:=1) rfl rfl ⟨by decide,λt ht=> ?_⟩;rw[hm']
 have st:=AL (o:=.tup [V.int m',V.ref u0]) ht
 have s4:=(s.trans sa).trans st
 have e1:upd H2 t (.tup [V.int m',V.ref u0]) t=some (.tup [V.int m',V.ref u0]):=AF
 have e2:=st _ _ (sa _ _ II);exact JG T4' (I.same s4) (kind:=3) (x:=.rc m' ps) (by decide) hm (st _ _ eu) (s4 _ _ en) hl (oA hcs rfl) kn (c8 e1 e2 hps) (x2 t u0 ⟨rfl,e1,e2⟩) trivial λch H' I' sb=>q ch H' I' λb o e n=>sb _ _ (s4 _ _ e) n
def zng:UF K a vs H Q E->cC K a (λ_=>E) (BC Q) (start ["","","",""] vs) H:=by
 apply OV;rintro X cs tks M rec m ps ps' pl nl ns ⟨rfl,T4,I,hr,eM,epl,hps,en,hl,kn,hcs,q⟩
 have T4':=T4;obtain⟨T,TP,TL,TS⟩:=T4;obtain⟨dx,ho⟩:=I.ob;obtain⟨dl,el⟩:=I.ly.ob;obtain⟨db,eb⟩:=I.bk.bk.ob
 have hm:rec<AT X.n X.r X.c X.w 3:=by simpa [AT]using hr
 push_cast[cC,↓wW_];refine K5 TS (ho) (eb) (EA) (KA TS (ho) (el) (CC) (MA TL (I.ly) λu hu=> ?_))
 have sa:=AL (o:=.tup [.int (X.n+(rec:Int) / X.w),.int ((rec:Int) % X.w)]) hu
 have eu:upd H u (.tup [.int (X.n+(rec:Int) / X.w),.int ((rec:Int) % X.w)]) u=some (.tup [.int (AY X.n X.r X.c X.w 3 rec:Nat),.int (rec % X.w:Nat)]):=by rw[AF];simp[AY]
 revert sa eu;generalize upd H u (.tup [.int (X.n+(rec:Int) / X.w),.int ((rec:Int) % X.w)])=H2;intro sa eu;push_cast[];refine y2 ⟨sa _ _ ho,DA,x5 X cs tks M rec ⟨rfl,T4',I.same sa,hr,λv H3 rv s3=> ?_⟩⟩;rw[eM]at rv;revert rv;apply u2;rintro t0 u0 ⟨rfl,F5,II⟩;refine CU F5 (n:=0) rfl rfl ?_;push_cast[];refine⟨by decide,λt ht=> ?_⟩
 have st:=AL (o:=.tup [V.int m,V.ref pl]) ht
 have s4:=(sa.trans s3).trans st
 have e1:upd H3 t (.tup [V.int m,V.ref pl]) t=some (.tup [V.int m,V.ref pl]):=AF
 have e2:=s4 _ _ epl;exact JG T4' (I.same s4) (kind:=3) (x:=.rc m ps') (by decide) hm (st _ _ (s3 _ _ eu)) (s4 _ _ en) hl (oA hcs rfl) kn (c8 e1 e2 hps) (x2 t pl ⟨rfl,e1,e2⟩) trivial λch H' I' sb=>q ch H' I' λb o e n=>sb _ _ (s4 _ _ e) n
def Bh{α β γ :Type}{F: α -> β ->Prop}{G: α -> γ ->Prop}{f: β -> γ}:∀ {l:List α} {m:List β},Paired F l m->(∀ x y,F x y->G x (f y))->Paired G l (m.map f)
 | _,_,.nil,_=>.nil
 | _,_,.cons h t,k=>.cons (k _ _ h) (Bh t k)
def znh{te:TE}{cap:List Nat}{σ:St}{b:Addr}{xs:List V}(hn:xs.length<=sizeLine)(Pv:Nat->List V->Hp->Prop)(h0:Pv 0 [] H)(hq:∀ i ys H,i<=xs.length->Pv i ys H->SqT K H b xs)
  (hs:∀ i x ys H,xs[i]? =some x->ys.length=i->Pv i ys H->te (some x::D8 cap σ) H λy H2=>Pv (i+1) (ys++[y]) H2)
  (hd:∀ ys H,ys.length=xs.length->Pv xs.length ys H->∀ p,H p=none->Q (.ref p) (upd H p (.lst ys))) :
  HE (JK K b) (AM 0) DY te 1 cap σ H Q:=by
 refine⟨λi m σ' ys H=>m=xs.length - i/\i<=xs.length/\ys.length=i/\(∃ x0,σ'=x0::D8 cap σ)/\Pv i ys H,⟨xs.length,by simp,a_ _,rfl,⟨none,rfl⟩,h0⟩,?_⟩;rintro i m σ' ys H ⟨rfl,hi,hl,⟨x0,rfl⟩,p⟩
 have q:=hq i ys H hi p;by_cases BH:i<xs.length
 ·refine .inr ⟨x2 xs (xs[i]) ⟨q,by simp[BH]⟩,by omega,λx H' y=> ?_⟩;obtain⟨e,y⟩:=y;subst e
  have hx:=y xs q;simp only[AM,DY,if_true];refine⟨_,λy H4 q=>⟨xs.length - (i+1),by omega,rfl,BH,?_,⟨_,rfl⟩,q⟩,hs i x ys _ hx hl p⟩;rw[aj,f_,hl]
 ·have e:i=xs.length:=by omega
  subst e;exact .inl ⟨⟨xs,q,ξ _⟩,hd ys H hl p⟩
section
variable{X:SX}{cs:List Ch}{tks:List (AS × V)}{M:Hs}
def SM.lput{l:Addr}{xs ys:List V}(I:X.at a H cs tks M)(e:H l=some (.lst xs))(f:¬ X.S.A.F l):X.at a (upd H l (.lst ys)) cs tks M:=by
 have s:SameBut (· =l) H (upd H l (.lst ys)):=λy o ey n=>by rw[AO n];exact ey
 have g:∀ x,x=l->FB (H x):=λx hx=>by rw[hx];exact MY e
 have tk:CG H (upd H l (.lst ys)):=JD s g;obtain⟨⟨dx,e1⟩,e2,e3,e4,e5,e6,e7,e8,e9,e10,e11,e12⟩:=I;obtain⟨dl,el⟩:=e2.ob;exact⟨⟨dx,s _ _ e1 (A0 e1 e (by intro z;cases z))⟩,e2.sb s (A0 el e (by intro z;cases z)),e3.sb s g λx hx=>by rw[hx];exact f,s _ _ e4 (A0 e4 e (by intro z;cases z)),e5,e6,e7,e8,e9.keep tk,λkind k v h1 h2 hv=>(e10 kind k v h1 h2 hv).keep tk,e11,e12.keep tk⟩
def SM.taken{z:Str}{k:Nat}(I:X.at a H cs tks M)(hk:k<cs.length)(hl:tks.length<cs.length):X.at a (upd H X.S.tk (.dK (BY tks (.inr z) (.int k)))) cs (BY tks (.inr z) (.int k)) M:=by
 have s:SameBut (· =X.S.tk) H (upd H X.S.tk (.dK (BY tks (.inr z) (.int k)))):=λy o ey n=>by rw[AO n];exact ey
 have g:∀ x,x=X.S.tk->FB (H x):=λx hx=>by rw[hx];exact OB I.tk
 have tk:CG H (upd H X.S.tk (.dK (BY tks (.inr z) (.int k)))):=JD s g;obtain⟨⟨dx,e1⟩,e2,e3,e4,e5,e6,e7,e8,e9,e10,e11,e12⟩:=I;obtain⟨dl,el⟩:=e2.ob;refine⟨⟨dx,s _ _ e1 (A0 e1 e4 (by intro z;cases z))⟩,e2.sb s (A0 el e4 (by intro z;cases z)),e3.sb s g λx hx=>by rw[hx];exact e7,AF,υ (KL ..) (hl),λy v h=> ?_,e7,e8,e9.keep tk,λkind k v h1 h2 hv=>(e10 kind k v h1 h2 hv).keep tk,e11,e12.keep tk⟩;rw[KK]at h;split at h
 ·cases h;exact⟨k,rfl,hk⟩
 ·exact e6 y v h
end
def zni:UG K a vs H Q E->cG K a (λ_=>E) (BC Q) (start ["","","",""] vs) H:=by
 apply u8;rintro X cs tks M cell z nl ns ⟨rfl,T4,I,ec,hc,en,hl,kn,hcs,q⟩
 have T4':=T4;obtain⟨T,TP,TL,TS⟩:=T4;obtain⟨dx,ho⟩:=I.ob;obtain⟨dl,el⟩:=I.ly.ob;obtain⟨db,eb⟩:=I.bk.bk.ob
 have hm:cell<AT X.n X.r X.c X.w 0:=by simpa [AT]using hc
 push_cast[cG,↓xH_];refine y3 ⟨ho,TS.cl,TS.n2,_,JF,y2 ⟨eb,EA,y3 ⟨ho,TS.cl,TS.n1,_,JE,y2 ⟨el,CC,y2 ⟨ho,DA,x5 X cs tks M z ⟨rfl,T4',I,λH1 s1=> ?_⟩⟩⟩⟩⟩⟩;rw[ec];refine x6 X.S.lp X.n X.r X.c X.w cell ⟨rfl,TL,I.ly.same s1,λu hu=> ?_⟩
 have sa:=AL (o:=.tup [.int (0+(cell:Int) / X.w),.int ((cell:Int) % X.w)]) hu
 have eu:upd H1 u (.tup [.int (0+(cell:Int) / X.w),.int ((cell:Int) % X.w)]) u=some (.tup [.int (AY X.n X.r X.c X.w 0 cell:Nat),.int (cell % X.w:Nat)]):=by rw[AF];simp[AY]
 have s2:=s1.trans sa;revert eu s2;generalize upd H1 u (.tup [.int (0+(cell:Int) / X.w),.int ((cell:Int) % X.w)])=H2;intro eu s2;refine JG T4' (I.same s2) (kind:=0) (x:=.no) (by decide) hm eu (s2 _ _ en) hl (oA hcs rfl) kn trivial rfl trivial λch H3 I3 sb=> ?_;obtain⟨dx3,ho3⟩:=I3.ob;push_cast[↓xI_,↓xJ_]
 have tl:=I.tl;refine y3 ⟨ho3,TS.cl,TS.n3,_,cY,_,pS I3.tk (oD (cz tl hcs) rfl),?_⟩;refine q ch _ (I3.taken (by simp) (by simp;exact oz tl)) λy o e n=> ?_;rw[AO λy=>n (.inr y)];exact sb _ _ (s2 _ _ e) λy=>n (.inl y)
def drI(a:Ad)(X:SX)(cs:List Ch)(tks:List (AS × V))(M:Hs)(rec gone:Nat)(u0 ml:Addr)(pls:List (Nat × Nat))(H6:Hp)(i:Nat)(σ:St)(H':Hp):Prop:=(∃ ex,ex.length=i+1/\X.at a H' (cs++ex) tks ((pls.take i).foldl (λ(M:Hs) (y:Nat × Nat)=>M.put y.1 y.2 (.mk 0) [cs.length]) (M.put 3 rec .no [gone]))/\H' ml=some (.lst (AW ((ag (i+1)).map (cs.length+·))))/\SameBut (λx=>X.S.A.F x\/x=ml) H6 H')/\∃ y6,σ=[some (.ref X.S.st),some (.int rec),some (.int gone),some (.ref u0),some (.int cs.length),some (.ref ml),y6]
def znk:YX K a vs H Q E->cD K a (λ_=>E) (BC Q) (start ["","","","","","",""] vs) H:=by
 apply u8;rintro X cs tks M rec m gone ps ⟨rfl,T4,I,hr,eM,hg,hps,CK,hcs,q⟩
 have T4':=T4;obtain⟨T,TP,TL,TS⟩:=T4;obtain⟨dx,ho⟩:=I.ob
 have hm:rec<AT X.n X.r X.c X.w 3:=by simpa [AT]using hr
 push_cast[cD,↓wX_];refine y2 ⟨ho,DA,x5 X cs tks M rec ⟨rfl,T4',I,hr,λv H1 rv s=> ?_⟩⟩;rw[eM]at rv;revert rv;apply u2;rintro t0 u0 ⟨rfl,F5,II⟩;refine CU F5 (n:=1) rfl rfl ?_
 have I1:=I.same s;obtain⟨dx1,ho1⟩:=I1.ob;obtain⟨dl1,el1⟩:=I1.ly.ob;obtain⟨db1,eb1⟩:=I1.bk.bk.ob;push_cast[↓wY_];refine K5 TS (ho1) (eb1) (EA) (KA TS (ho1) (el1) (CC) (MA TL (I1.ly) λu hu=>⟨by decide,λnl hnl=> ?_⟩))
 have sa:=AL (o:=.tup [.int (X.n+(rec:Int) / X.w),.int ((rec:Int) % X.w)]) hu
 have sb:=AL (o:=.lst [V.int gone]) hnl
 have eu:=sb _ _ (show upd H1 u (.tup [.int (X.n+(rec:Int) / X.w),.int ((rec:Int) % X.w)]) u=some (.tup [.int (AY X.n X.r X.c X.w 3 rec:Nat),.int (rec % X.w:Nat)]) by rw[AF];simp[AY])
 have en:upd (upd H1 u (.tup [.int (X.n+(rec:Int) / X.w),.int ((rec:Int) % X.w)])) nl (.lst [V.int gone]) nl=some (.lst ([(gone:Int)].map V.int)):=AF
 have s2:=sa.trans sb;revert eu en s2;generalize upd (upd H1 u (.tup [.int (X.n+(rec:Int) / X.w),.int ((rec:Int) % X.w)])) nl (.lst [V.int gone])=H2;clear sa sb;intro eu en s2;refine JG T4' (I1.same s2) (kind:=3) (x:=.no) (by decide) hm eu en (by simp) (oA hcs rfl) (λx hx=>by rw[ο.mp hx];exact⟨i0,bv.mpr hg⟩) trivial rfl trivial λch H3 I3 RD=> ?_;push_cast[↓wZ_];refine⟨by decide,λml hml=> ?_⟩
 have k3:CG H2 H3:=JD RD λx hx=>(I1.same s2).bk.loose hx
 have fml:¬ X.S.A.F ml:=I3.bk.off hml
 have sm:=AL (o:=.lst [V.int cs.length]) hml
 have I4:=I3.same sm
 have eu4:=sm _ _ (k3 _ _ (s2 _ _ II))
 have em4:upd H3 ml (.lst [V.int cs.length]) ml=some (.lst [V.int cs.length]):=AF
 have sb4:SameBut X.S.A.F H (upd H3 ml (.lst [V.int cs.length])):=λy o e n=>sm _ _ (RD _ _ (s2 _ _ (s _ _ e)) n)
 have hmlH:H ml=none:=by
  cases e:H ml with
  | none=>rfl
  | some o=>have:=RD _ _ (s2 _ _ (s _ _ e)) fml;rw[hml]at this;cases this
 revert I4 eu4 em4 sb4;clear sm k3 en eu;generalize upd H3 ml (.lst [V.int cs.length])=H4;intro I4 eu4 em4 sb4;obtain⟨dx4,ho4⟩:=I4.ob;obtain⟨dl4,el4⟩:=I4.ly.ob
 have B8:(cs++[ch]).length=cs.length+1:=by simp
 push_cast[↓w6_];refine .inr ⟨⟨_,SqT.of eu4⟩,znh (xs:=AW ps) (C4 _ (by simp[AW];exact oA CK rfl)) (λi ys H'=>Same H4 H'/\∃ us:List Addr,ys=us.map V.ref/\Paired (λu p=>H' u=some (.tup [.int (AY X.n X.r X.c X.w 2 p:Nat),.int (p % X.w:Nat)])) us (ps.take i)) ⟨Same.refl _,[],rfl,.nil⟩ (λi ys H' _ ⟨s',_⟩=>SqT.of (s' _ _ eu4)) (λi x ys H' hx hyl hzz=> ?_) (λys H' hyl ⟨s',us,ey,pu⟩ lc hlc=> ?_)⟩
 ·obtain⟨s',us,ey,pu⟩:=hzz;unfold AW at hx;rw[ρ,bq]at hx;obtain⟨p,ep,rfl⟩:=hx;push_cast[D8];refine y3 ⟨s' _ _ ho4,TS.cl,TS.n1,_,JE,y2 ⟨s' _ _ el4,CC,x6 X.S.lp X.n X.r X.c X.w p ⟨rfl,TL,I4.ly.same s',λu' hu'=> ?_⟩⟩⟩
  have su:=AL (o:=.tup [.int (X.n+X.r+X.c+X.r+(p:Int) / X.w),.int ((p:Int) % X.w)]) hu';refine⟨s'.trans su,us++[u'],by rw[ey,bo];rfl,?_⟩;rw[fk,ep];exact Paired.snoc (Paired.mapP pu λt r z=>su _ _ z) (by rw[AF];simp[AY])
 ·rw[show(AW ps).length=ps.length by simp[AW],dn]at pu;subst ey
  have sc:=AL (o:=.lst (us.map V.ref)) hlc
  have s5:=s'.trans sc;refine KA TS (s5 _ _ ho4) (s5 _ _ el4) (CC) (cZ TL (I4.ly.same s5) λur hur=>⟨by decide,λlr hlr=>.inl ?_⟩)
  have sd:=AL (o:=.tup [.int (X.n+X.r+X.c+(rec:Int) / X.w),.int ((rec:Int) % X.w)]) hur
  have se:=AL (o:=.lst [V.ref ur]) hlr;refine x4 lc lr _ _ ⟨rfl,rfl,se _ _ (sd _ _ AF),AF,C4 _ (by have:=pu.length;simp;exact oA (υ (bn this) CK) rfl),λl2 K9=> ?_⟩
  have sf':=AL (o:=.lst (us.map V.ref++[V.ref ur])) K9
  have sg:=(sd.trans se).trans sf'
  have er:upd (upd (upd (upd H' lc (.lst (us.map V.ref))) ur (.tup [.int (X.n+X.r+X.c+(rec:Int) / X.w),.int ((rec:Int) % X.w)])) lr (.lst [V.ref ur])) l2 (.lst (us.map V.ref++[V.ref ur])) ur=some (.tup [.int (AY X.n X.r X.c X.w 1 rec:Nat),.int (rec % X.w:Nat)]):=(se.trans sf') _ _ (by rw[AF];simp[AY])
  have el2:upd (upd (upd (upd H' lc (.lst (us.map V.ref))) ur (.tup [.int (X.n+X.r+X.c+(rec:Int) / X.w),.int ((rec:Int) % X.w)])) lr (.lst [V.ref ur])) l2 (.lst (us.map V.ref++[V.ref ur])) l2=some (.lst ((us++[ur]).map V.ref)):=by rw[AF];simp
  have hl2F:¬ X.S.A.F l2:=by
   have:=((I4.same s5).same (sd.trans se)).bk.off K9;exact this
  have nlm:l2≠ml:=(BL (se _ _ (sd _ _ (s5 _ _ em4))) K9).symm
  have s6:=s5.trans sg
  have PP:Paired (λu (y:Nat × Nat)=>upd (upd (upd (upd H' lc (.lst (us.map V.ref))) ur (.tup [.int (X.n+X.r+X.c+(rec:Int) / X.w),.int ((rec:Int) % X.w)])) lr (.lst [V.ref ur])) l2 (.lst (us.map V.ref++[V.ref ur])) u=some (.tup [.int (AY X.n X.r X.c X.w y.1 y.2:Nat),.int (y.2 % X.w:Nat)])) (us++[ur]) (ps.map (λp=>(2,p))++[(1,rec)]) :=
   Paired.snoc (Bh pu λu p z=>sg _ _ (sc _ _ z)) er
  revert s6 el2 PP;clear er sg sf' se sd s5;generalize upd (upd (upd (upd H' lc (.lst (us.map V.ref))) ur (.tup [.int (X.n+X.r+X.c+(rec:Int) / X.w),.int ((rec:Int) % X.w)])) lr (.lst [V.ref ur])) l2 (.lst (us.map V.ref++[V.ref ur]))=H6;intro el2 s6 PP;generalize us++[ur]=vs at el2 PP
  have hall:∀ y∈ps.map (λp=>(2,p))++[(1,rec)],(y.1=1\/y.1=2)/\y.2<AT X.n X.r X.c X.w y.1:=λy hy=>by
   rcases bh.mp hy with hy | hy
   ·obtain⟨p,hp,rfl⟩:=cj.mp hy;exact⟨.inr rfl,by simpa [AT]using hps p hp⟩
   ·rw[ο.mp hy];exact⟨.inl rfl,by simpa [AT]using hr⟩
  have hyl:(ps.map (λp=>((2:Nat),p))++[(1,rec)]).length=ps.length+1:=by simp
  have hfin:(ps.map (λp=>(2,p))++[(1,rec)]).foldl (λ(M:Hs) (y:Nat × Nat)=>M.put y.1 y.2 (.mk 0) [cs.length]) (M.put 3 rec .no [gone])=((M.put 3 rec .no [gone]).unmark cs.length ps).put 1 rec (.mk 0) [cs.length]:=by
   rw[h_,List.foldl_map];rfl
  revert hall hyl hfin PP;generalize ps.map (λp=>((2:Nat),p))++[(1,rec)]=pls;intro PP hall hyl hfin;refine(.inl ⟨⟨_,SqL.of el2⟩,MO (xs:=vs.map V.ref) (drI a X cs tks M rec gone u0 ml pls H6)
   ⟨⟨[ch],rfl,I4.same s6,by rw[s6 _ _ em4];simp[AW,cq],λy o e _=>e⟩,_,rfl⟩ (λi σ H' _ ⟨⟨_,_,_,_,sb'⟩,_⟩=>SqL.of (sb' _ _ el2 ?_)) (λi x σ H7 hx ⟨⟨ex,RF,I7,em7,sb7⟩,y6,ez⟩=> ?_) (λσ H7 ⟨⟨ex,RF,I7,em7,sb7⟩,y6,ez⟩=> ?_)⟩)
  ·rintro (y | y)
   ·exact hl2F y
   ·exact nlm y
  ·subst ez
   have hi:=(ι.mp hx).1;rw[ν]at hi
   have hip:i<pls.length:=by rw[<-PP.length];exact hi
   have ey:=ζ hip;obtain⟨u',eu',hu'⟩:=PL PP ey;rw[ρ,eu']at hx;cases hx;obtain⟨hk12,hky⟩:=hall _ (π ey)
   have etk:pls.take (i+1)=pls.take i++[pls[i]]:=by rw[fk,ey];rfl
   revert etk hk12 hky hu';generalize pls[i]=y;intro hu' hk12 hky etk;obtain⟨dx7,ho7⟩:=I7.ob;obtain⟨db7,eb7⟩:=I7.bk.bk.ob;push_cast[↓w5_]
   have k67:∀ b xs,H6 b=some (.tup xs)->H7 b=some (.tup xs):=λb xs e=>sb7 _ _ e λz=>z.elim (λz=>((I4.same s6).bk.loose z).1 _ e) λz=>by rw[z,s6 _ _ em4]at e;cases e
   refine⟨.inl ⟨rfl,_,SqL.of em7⟩,y3 ⟨ho7,TS.cl,TS.n2,_,JF,y2 ⟨eb7,EA,by decide,λn8 hn8=> ?_⟩⟩⟩
   have s8:=AL (o:=.lst [V.int cs.length]) hn8;refine JG (ns:=[(cs.length:Int)]) T4' (I7.same s8) (kind:=y.1) (x:=.mk 0) (by omega) hky (s8 _ _ (k67 _ _ hu')) AF (by simp) (by simp;omega) (λx hx=>by rw[ο.mp hx];exact⟨i0,by simp;omega⟩) trivial rfl (by rcases hk12 with z | z<;>rw[z]<;>exact a_ _) λch9 H9 I9 OR=> ?_
   have em9:=OR _ _ (s8 _ _ em7) fml;refine⟨_,em9,τ (show(AW ((ag (i+1)).map (cs.length+·))).length<1000 by simp[AW];omega) (by decide),?_⟩;refine⟨⟨ex++[ch9],by simp[RF],by have:=I9.lput (ys:=AW ((ag (i+1)).map (cs.length+·))++[V.int ((cs++ex).length:Nat)]) em9 fml;rw[etk,h_,<-fi];exact this,by rw[AF];simp[AW,cq,RF],λb o e n=> ?_⟩,_,rfl⟩;rw[AO λz=>n (.inr z)];exact OR _ _ (s8 _ _ (sb7 _ _ e n)) λz=>n (.inl z)
  ·subst ez;push_cast[↓w8_]
   have hvl:=PP.length;rw[ν,hvl,hyl]at RF em7;rw[ν,hvl,dn,hfin]at I7;refine q ex ml H7 hmlH em7 RF I7 λy o e n=> ?_;exact sb7 _ _ (s6 _ _ (sb4 _ _ e n)) λy'=>y'.elim n λz=>by rw[z,hmlH]at e;cases e
def NA{X:SX}{cs:List Ch}{tks:List (AS × V)}{M:Hs}{H':Hp}{l:Addr}(I:X.at a H' cs tks M)(sb:SameBut (λx=>X.S.A.F x\/x=X.S.tk) H H')(hl:H' l=none):H l=none:=by
 cases e:H l with
 | none=>rfl
 | some o =>
  have:=sb _ _ e λz=>z.elim (I.bk.off hl) λz=>by rw[z,I.tk]at hl;cases hl
  rw[hl]at this;cases this
def znl:YY K a vs H Q E->cH K a (λ_=>E) (BC Q) (start ["","","","","",""] vs) H:=by
 apply u5;rintro X cs tks M z ⟨rfl,T4,I,hzl,hcs,q,q1,q2,q3⟩
 have T4':=T4;obtain⟨dx,ho⟩:=I.ob
 have hm1:AT X.n X.r X.c X.w 1=X.r * X.w:=by simp[AT]
 have hm0:AT X.n X.r X.c X.w 0=X.m0:=by simp[AT]
 have hm3:AT X.n X.r X.c X.w 3=X.r * X.w:=by simp[AT]
 push_cast[cH,↓xK_];refine y2 ⟨ho,DA,by decide,λgl hgl=> ?_⟩
 have s1:=AL (o:=.lst [V.str z]) hgl;refine x7 X cs tks M z gl [z] ⟨rfl,T4,I.same s1,AF,by simp,λy hy=>by rw[ο.mp hy];exact hzl,λhb hc H2 s2=> ?_,λhb H2 s2=>q1 (by simpa using hb) _ (s1.trans s2),λhb hc H2 s2=>q2 (by simpa using hb) hc _ (s1.trans s2)⟩
 have hb:B7 z=true:=by simpa using hb
 have C1:=s1.trans s2;clear s1 s2 hgl;obtain⟨T,TP,TL,TS⟩:=T4;push_cast[↓xL_];refine y3 ⟨C1 _ _ ho,TS.cl,TS.n1,_,JE,y3 ⟨C1 _ _ ho,TS.cl,TS.n2,_,JF,x2 X.S.lp X.S.A.b ⟨rfl,U6 T4' (I.same C1) (by decide) (λrec er RB H3 s3=> ?_) λer H3 s3=>q3 hb hc (.inl (by rw[<-hm1];exact er)) _ (C1.trans s3)⟩⟩⟩;rw[hm1]at er RB
 have s13:=C1.trans s3;clear C1 s3;push_cast[↓xM_];refine y3 ⟨s13 _ _ ho,TS.cl,TS.n1,_,JE,y3 ⟨s13 _ _ ho,TS.cl,TS.n2,_,JF,x2 X.S.lp X.S.A.b ⟨rfl,U6 T4' (I.same s13) (by decide) (λcell ec BM H4 s4=> ?_) λer H3 s3=>q3 hb hc (.inr (by rw[<-hm0];exact er)) _ (s13.trans s3)⟩⟩⟩;rw[hm0]at ec BM
 have s14:=s13.trans s4
 have I4:=I.same s14;clear s13 s4;obtain⟨dx4,ho4⟩:=I4.ob;obtain⟨dl4,el4⟩:=I4.ly.ob;obtain⟨db4,eb4⟩:=I4.bk.bk.ob;push_cast[↓xN_];refine K5 TS (ho4) (eb4) (EA) (KA TS (ho4) (el4) (CC) (cZ TL (I4.ly) λu hu=>⟨by decide,λl0 hl0=> ?_⟩))
 have sa:=AL (o:=.tup [.int (X.n+X.r+X.c+(rec:Int) / X.w),.int ((rec:Int) % X.w)]) hu
 have sb:=AL (o:=.lst []) hl0
 have eu:=sb _ _ (show upd H4 u (.tup [.int (X.n+X.r+X.c+(rec:Int) / X.w),.int ((rec:Int) % X.w)]) u=some (.tup [.int (AY X.n X.r X.c X.w 1 rec:Nat),.int (rec % X.w:Nat)]) by rw[AF];simp[AY])
 have el0:upd (upd H4 u (.tup [.int (X.n+X.r+X.c+(rec:Int) / X.w),.int ((rec:Int) % X.w)])) l0 (.lst []) l0=some (.lst (([]:List Int).map V.int)):=AF
 have s5:=sa.trans sb;revert eu el0 s5;clear sa sb;generalize upd (upd H4 u (.tup [.int (X.n+X.r+X.c+(rec:Int) / X.w),.int ((rec:Int) % X.w)])) l0 (.lst [])=H5;intro eu el0 s5;refine JG T4' (I4.same s5) (kind:=1) (x:=.mk 1) (by decide) (by rw[hm1];exact RB) eu el0 (by simp) (oA hcs rfl) (λx hx=>by cases hx) trivial rfl (ξ _) λc1 H6 I6 sb6=> ?_;obtain⟨dx6,ho6⟩:=I6.ob;obtain⟨dl6,el6⟩:=I6.ly.ob;obtain⟨db6,eb6⟩:=I6.bk.bk.ob;push_cast[↓xO_];refine K5 TS (ho6) (eb6) (EA) (KA TS (ho6) (el6) (CC) (MA TL (I6.ly) λu2 hu2=> ?_));push_cast[];refine⟨by decide,λe6 he6=>⟨by decide,λt6 ht6=>⟨by decide,λl6 hl6=> ?_⟩⟩⟩
 have sa:=AL (o:=.tup [.int (X.n+(rec:Int) / X.w),.int ((rec:Int) % X.w)]) hu2
 have sb:=AL (o:=.tup []) he6
 have sc:=AL (o:=.tup [.int 1,.ref e6]) ht6
 have sd:=AL (o:=.lst [.int cs.length]) hl6
 have s67:=((sa.trans sb).trans sc).trans sd
 have f1:=sd _ _ (sc _ _ (sb _ _ (show upd H6 u2 (.tup [.int (X.n+(rec:Int) / X.w),.int ((rec:Int) % X.w)]) u2=some (.tup [.int (AY X.n X.r X.c X.w 3 rec:Nat),.int (rec % X.w:Nat)]) by rw[AF];simp[AY])))
 have f2:=sd _ _ (sc _ _ (AF (H:=upd H6 u2 (.tup [.int (X.n+(rec:Int) / X.w),.int ((rec:Int) % X.w)])) (a:=e6) (o:=.tup [])))
 have f3:=sd _ _ (AF (H:=upd (upd H6 u2 (.tup [.int (X.n+(rec:Int) / X.w),.int ((rec:Int) % X.w)])) e6 (.tup [])) (a:=t6) (o:=.tup [.int 1,.ref e6]))
 have f4:=AF (H:=upd (upd (upd H6 u2 (.tup [.int (X.n+(rec:Int) / X.w),.int ((rec:Int) % X.w)])) e6 (.tup [])) t6 (.tup [.int 1,.ref e6])) (a:=l6) (o:=.lst [.int cs.length]);revert s67 f1 f2 f3 f4;generalize upd (upd (upd (upd H6 u2 (.tup [.int (X.n+(rec:Int) / X.w),.int ((rec:Int) % X.w)])) e6 (.tup [])) t6 (.tup [.int 1,.ref e6])) l6 (.lst [.int cs.length])=H7;clear sa sb sc sd;intro s67 f1 f2 f3 f4;refine JG (ns:=[(cs.length:Int)]) T4' (I6.same s67) (kind:=3) (x:=.rc 1 []) (by decide) (by rw[hm3];exact RB) f1 f4 (by simp) (by simp;exact oC hcs rfl) (λx hx=>by rw[ο.mp hx];exact⟨i0,by simp;exact yk _⟩) (c8 (ps:=[]) f3 f2 (by simp)) (x2 t6 e6 ⟨rfl,f3,f2⟩) trivial λc2 H8 I8 sb8=> ?_;obtain⟨dx8,ho8⟩:=I8.ob;push_cast[↓xP_]
 have B8:(cs++[c1]).length=cs.length+1:=by simp
 rw[B8];refine y2 ⟨ho8,DA,x8 X _ tks _ cell rec (cs.length+1) z ⟨rfl,T4',I8,BM,by simp,by simp;exact oH hcs rfl,Ay hb,λc3 H9 I9 OR=>⟨by decide,λl hl=> ?_⟩⟩⟩
 have sl:=AL (o:=.lst [V.int cs.length,V.int (cs.length+1:Nat),V.int ((cs++[c1]++[c2]).length:Nat)]) hl
 have sbH:SameBut (λx=>X.S.A.F x\/x=X.S.tk) H H9:=λy o e n=>OR _ _ (sb8 _ _ (s67 _ _ (sb6 _ _ (s5 _ _ (s14 _ _ e)) λz=>n (.inl z))) λz=>n (.inl z)) λz=>n (.inl z);exact q hb hc rec cell er ec RB BM [c1,c2,c3] l _ rfl (NA I9 sbH hl) (by rw[AF];simp[AW,cq]) (by have:=I9.same sl;simpa using this) λy o e n=>sl _ _ (sbH _ _ e n)
def znm:UH K a vs H Q E->cI K a (λ_=>E) (BC Q) (start ["","","","","",""] vs) H:=by
 apply u6;rintro X cs tks M y z ⟨rfl,T4,I,hyl,hzl,hcs,q,q1,q2,q3,q4⟩
 have T4':=T4;obtain⟨dx,ho⟩:=I.ob
 have hm0:AT X.n X.r X.c X.w 0=X.m0:=by simp[AT]
 push_cast[cI,↓xQ_];refine y2 ⟨ho,DA,by decide,λgl hgl=> ?_⟩
 have s1:=AL (o:=.lst [V.str y,V.str z]) hgl;refine x7 X cs tks M z gl [y,z] ⟨rfl,T4,I.same s1,AF,by simp,λx hx=> ?_,λhb hc H2 s2=> ?_,λhb H2 s2=>q1 (by simpa using hb) _ (s1.trans s2),λhb hc H2 s2=> ?_⟩
 ·simp only[ak,bz,or_false]at hx;rcases hx with rfl | rfl
  ·exact hyl
  ·exact hzl
 ·have hb:B7 y=true/\B7 z=true:=by simpa using hb
  have C1:=s1.trans s2;clear s1 s2 hgl;obtain⟨T,TP,TL,TS⟩:=T4;push_cast[↓xR_];refine y2 ⟨C1 _ _ ho,DA,x5 X cs tks M y ⟨rfl,T4',I.same C1,λold rec eo hol eM H3 s3=> ?_,λeo H3 s3=>q3 hb.1 hb.2 hc eo _ (C1.trans s3)⟩⟩
  have s13:=C1.trans s3;clear C1 s3;push_cast[↓xS_];refine y3 ⟨s13 _ _ ho,TS.cl,TS.n1,_,JE,y3 ⟨s13 _ _ ho,TS.cl,TS.n2,_,JF,x2 X.S.lp X.S.A.b ⟨rfl,U6 T4' (I.same s13) (by decide) (λcell ec BM H4 s4=> ?_) λer H3 s3=>q4 hb.1 hb.2 hc ⟨old,eo⟩ (by rw[<-hm0];exact er) _ (s13.trans s3)⟩⟩⟩;rw[hm0]at ec BM;obtain⟨hr,m,ps,eR,hps,q⟩:=q hb.1 hb.2 hc old rec cell eo hol eM
  have s14:=s13.trans s4
  have I4:=I.same s14;push_cast[↓xT_];refine y2 ⟨s14 _ _ ho,DA,by decide,λl0 hl0=> ?_⟩
  have s5:=AL (o:=.lst []) hl0;refine IK X cs tks M rec m (m+1) 1 ps l0 [] ⟨rfl,T4',I4.same s5,hr,eR,rfl,hps,AF,by simp,(λx hx=>by cases hx),oA hcs rfl,λc1 H6 I6 sb6=> ?_⟩;obtain⟨dx6,ho6⟩:=I6.ob;push_cast[↓xU_];refine y2 ⟨ho6,DA,x8 X _ tks _ cell rec cs.length z ⟨rfl,T4',I6,BM,by simp,by simp;exact oC hcs rfl,Ay hb.2,λc2 H7 I7 sb7=>⟨by decide,λl hl=> ?_⟩⟩⟩
  have sl:=AL (o:=.lst [V.int cs.length,V.int ((cs++[c1]).length:Nat)]) hl
  have sbH:SameBut (λx=>X.S.A.F x\/x=X.S.tk) H H7:=λy o e n=>sb7 _ _ (sb6 _ _ (s5 _ _ (s14 _ _ e)) λz=>n (.inl z)) λz=>n (.inl z);exact q ec BM [c1,c2] l _ rfl (NA I7 sbH hl) (by rw[AF];simp[AW,cq]) (by have:=I7.same sl;simpa using this) λy o e n=>sl _ _ (sbH _ _ e n)
 ·have hb:B7 y=true/\B7 z=true:=by simpa using hb
  exact q2 hb.1 hb.2 hc _ (s1.trans s2)
def znn(n d:Nat):AW ((ag (d+1)).map (n+·))=[V.int n]++AW ((ag d).map (n+1+·)):=by
 rw[xg];simp[AW,yz,An 1]
def zno:YZ K a vs H Q E->cJ K a (λ_=>E) (BC Q) (start ["","","",""] vs) H:=by
 apply u5;rintro X cs tks M z ⟨rfl,T4,I,hcs,q,q1⟩;obtain⟨dx,ho⟩:=I.ob;push_cast[cJ,↓xV_];refine y2 ⟨ho,DA,x5 X cs tks M z ⟨rfl,T4,I,λcell rec ec BM eM H1 s1=> ?_,λeo H3 s3=>q1 eo _ s3⟩⟩;obtain⟨hr,m,ps,eR,hps,CK,q2,q3⟩:=q cell rec ec BM eM
 have I1:=I.same s1;push_cast[↓xW_];refine y2 ⟨s1 _ _ ho,DA,by decide,λl0 hl0=> ?_⟩
 have s2:=AL (o:=.lst []) hl0;refine x8 X cs tks M cell z l0 [] ⟨rfl,T4,I1.same s2,ec,BM,AF,by simp,(λx hx=>by cases hx),oA hcs rfl,λc1 H3 I3 RD=> ?_⟩;obtain⟨dx3,ho3⟩:=I3.ob
 have sb:SameBut (λx=>X.S.A.F x\/x=X.S.tk) H H3:=λy o e n=>RD _ _ (s2 _ _ (s1 _ _ e)) n
 have eR':(M.put 0 cell .no (EW [])) 3 rec=.rc m ps:=by rw[Hs.put_at,if_neg (by exact nE rfl)];exact eR
 push_cast[↓xY_];refine y2 ⟨ho3,DA,x5 X _ _ _ rec ⟨rfl,T4,I3,hr,λv H4 rv s4=> ?_⟩⟩;rw[eR']at rv;revert rv;apply u2;rintro t0 u0 ⟨rfl,F5,II⟩
 have I4:=I3.same s4;refine CU F5 (n:=0) rfl rfl ?_;push_cast[];split
 ·rename_i hm;push_cast[↓xX_];refine y2 ⟨s4 _ _ ho3,DA,by decide,λl5 hl5=> ?_⟩
  have s5:=AL (o:=.lst [V.int cs.length]) hl5;refine IK X _ _ _ rec m (m - 1) (-1) ps l5 [(cs.length:Int)] ⟨rfl,T4,I4.same s5,hr,eR',by omega,oA CK rfl,AF,by simp,(λx hx=>by rw[ο.mp hx];exact⟨i0,by simp;exact yk _⟩),by simp;exact oC hcs rfl,λc2 H6 I6 sb6=>⟨by decide,λl hl=> ?_⟩⟩
  have sl:=AL (o:=.lst [V.int cs.length,V.int ((cs++[c1]).length:Nat)]) hl
  have sbH:SameBut (λx=>X.S.A.F x\/x=X.S.tk) H H6:=λy o e n=>sb6 _ _ (s5 _ _ (s4 _ _ (sb _ _ e n))) λz=>n (.inl z);exact q2 (bv.mp hm) [c1,c2] l _ rfl (NA I6 sbH hl) (by rw[AF];simp[AW,cq]) (by have:=I6.same sl;simpa using this) λy o e n=>sl _ _ (sbH _ _ e n)
 ·rename_i hm;push_cast[↓xZ_];refine⟨by decide,λl5 hl5=> ?_⟩
  have s5:=AL (o:=.lst [V.int cs.length]) hl5
  have I5:=I4.same s5;refine y2 ⟨s5 _ _ (s4 _ _ ho3),DA,x8 X _ _ _ rec m cs.length ps ⟨rfl,T4,I5,hr,eR',by simp,hps,CK,by simp;exact oC hcs rfl,λex l H6 hl6 el6 hex I6 sb6=>.inl ?_⟩⟩
  have f5:¬ X.S.A.F l5:=I4.bk.off hl5;refine x4 l5 l _ _ ⟨rfl,rfl,sb6 _ _ AF f5,el6,C4 _ (by simp[AW];omega),λl7 hl7=> ?_⟩
  have sl:=AL (o:=.lst ([V.int cs.length]++AW ((ag (ps.length+2)).map ((cs++[c1]).length+·)))) hl7
  have sbH:SameBut (λx=>X.S.A.F x\/x=X.S.tk) H H6:=λy o e n=>sb6 _ _ (s5 _ _ (s4 _ _ (sb _ _ e n))) λz=>n (.inl z);exact q3 (by omega) (c1::ex) l7 _ (by simp[hex]) (NA I6 sbH hl7) (by rw[AF,znn cs.length (ps.length+2)];simp) (by have:=I6.same sl;simpa using this) λy o e n=>sl _ _ (sbH _ _ e n)
def cat_tup{b d:Addr}{xs ys:List V}(h1:H b=some (.tup xs))(h2:H d=some (.tup ys))(hy:ys≠[])(hl:xs.length+ys.length<=1000)(q:∀ p H',Same H H'->H' p=some (.tup (xs++ys))->Q (.ref p) H'):B1 K (.ref b) (.ref d) H Q:=by
 rw[WV];by_cases hx:xs=[]
 ·subst hx;exact .inr (.inr (x3 b d ys ⟨rfl,rfl,SqT.of h1,SqT.of h2,q d H (Same.refl _) h2⟩))
 ·exact .inr (.inl (x4 b d xs ys ⟨rfl,rfl,SqT.of h1,SqT.of h2,hx,C4 _ (oA hl rfl),λe=>absurd e hy,λ_ p hp=>q p _ (AL hp) AF⟩))
def znp:Y0 K a vs H Q E->cK K a (λ_=>E) (BC Q) (start ["","","","","","",""] vs) H:=by
 apply u6;rintro X cs tks M z t ⟨rfl,T4,I,htl,hts,hcs,q,q1,q2,q3⟩
 have T4':=T4;obtain⟨dx,ho⟩:=I.ob
 have hm2:AT X.n X.r X.c X.w 2=X.c * X.w:=by simp[AT]
 have hm4:AT X.n X.r X.c X.w 4=X.c * X.w:=by simp[AT]
 push_cast[cK,↓yA_];refine y2 ⟨ho,DA,x5 X cs tks M z ⟨rfl,T4,I,λcell rec ec BM eM H1 s1=> ?_,λeo H3 s3=>q1 eo _ s3⟩⟩;obtain⟨T,TP,TL,TS⟩:=T4;push_cast[↓yC_];refine⟨t,rfl,htl,λH2 s2=> ?_⟩
 have C1:=s1.trans s2;cases hb:L6 t with
 | false =>
  push_cast[↓yB_];exact⟨by decide,q2 ⟨cell,ec⟩ hb _ C1⟩
 | true =>
  push_cast[↓yD_];refine y3 ⟨C1 _ _ ho,TS.cl,TS.n1,_,JE,y3 ⟨C1 _ _ ho,TS.cl,TS.n2,_,JF,x2 X.S.lp X.S.A.b ⟨rfl,U6 T4' (I.same C1) (by decide) (λp ep CK H4 s4=> ?_) λer H3 s3=>q3 ⟨cell,ec⟩ hb (by rw[<-hm2];exact er) _ (C1.trans s3)⟩⟩⟩;rw[hm2]at ep CK;obtain⟨hr,m,ps,eR,hps,q⟩:=q cell rec ec BM eM hb p ep CK
  have s14:=C1.trans s4
  have I4:=I.same s14;clear s1 s2 C1 s4;obtain⟨dx4,ho4⟩:=I4.ob;obtain⟨dl4,el4⟩:=I4.ly.ob;obtain⟨db4,eb4⟩:=I4.bk.bk.ob;push_cast[↓yE_];refine K5 TS (ho4) (eb4) (EA) (KA TS (ho4) (el4) (CC) (c6 TL (I4.ly) λu hu=>⟨by decide,λl0 hl0=> ?_⟩))
  have sa:=AL (o:=.tup [.int (X.n+X.r+X.c+X.r+(p:Int) / X.w),.int ((p:Int) % X.w)]) hu
  have sb:=AL (o:=.lst []) hl0
  have eu:=sb _ _ (show upd H4 u (.tup [.int (X.n+X.r+X.c+X.r+(p:Int) / X.w),.int ((p:Int) % X.w)]) u=some (.tup [.int (AY X.n X.r X.c X.w 2 p:Nat),.int (p % X.w:Nat)]) by rw[AF];simp[AY])
  have el0:upd (upd H4 u (.tup [.int (X.n+X.r+X.c+X.r+(p:Int) / X.w),.int ((p:Int) % X.w)])) l0 (.lst []) l0=some (.lst (([]:List Int).map V.int)):=AF
  have s5:=sa.trans sb;revert eu el0 s5;clear sa sb;generalize upd (upd H4 u (.tup [.int (X.n+X.r+X.c+X.r+(p:Int) / X.w),.int ((p:Int) % X.w)])) l0 (.lst [])=H5;intro eu el0 s5;refine JG T4' (I4.same s5) (kind:=2) (x:=.mk 1) (by decide) (by rw[hm2];exact CK) eu el0 (by simp) (oA hcs rfl) (λx hx=>by cases hx) trivial rfl (ξ _) λc1 H6 I6 sb6=> ?_;obtain⟨dx6,ho6⟩:=I6.ob;obtain⟨dl6,el6⟩:=I6.ly.ob;obtain⟨db6,eb6⟩:=I6.bk.bk.ob;push_cast[↓yF_];refine K5 TS (ho6) (eb6) (EA) (KA TS (ho6) (el6) (CC) (Bc TL (I6.ly) λu2 hu2=>⟨by decide,λl6 hl6=> ?_⟩))
  have sa:=AL (o:=.tup [.int (X.n+X.r+(p:Int) / X.w),.int ((p:Int) % X.w)]) hu2
  have sb:=AL (o:=.lst [.int cs.length]) hl6
  have f1:=sb _ _ (show upd H6 u2 (.tup [.int (X.n+X.r+(p:Int) / X.w),.int ((p:Int) % X.w)]) u2=some (.tup [.int (AY X.n X.r X.c X.w 4 p:Nat),.int (p % X.w:Nat)]) by rw[AF];simp[AY])
  have f4:=AF (H:=upd H6 u2 (.tup [.int (X.n+X.r+(p:Int) / X.w),.int ((p:Int) % X.w)])) (a:=l6) (o:=.lst [.int cs.length])
  have s67:=sa.trans sb;revert s67 f1 f4;generalize upd (upd H6 u2 (.tup [.int (X.n+X.r+(p:Int) / X.w),.int ((p:Int) % X.w)])) l6 (.lst [.int cs.length])=H7;clear sa sb;intro f1 f4 s67;refine JG (ns:=[(cs.length:Int)]) T4' (I6.same s67) (kind:=4) (x:=.tx t) (by decide) (by rw[hm4];exact CK) f1 f4 (by simp) (by simp;exact oC hcs rfl) (λx hx=>by rw[ο.mp hx];exact⟨i0,by simp;exact yk _⟩) hts rfl trivial λc2 H8 I8 sb8=> ?_;obtain⟨dx8,ho8⟩:=I8.ob
  have eR':((M.put 2 p (.mk 1) (EW [])).put 4 p (.tx t) (EW [(cs.length:Int)])) 3 rec=.rc m ps:=by rw[Hs.put_at,if_neg (by exact nE rfl),Hs.put_at,if_neg (by exact nE rfl)];exact eR
  push_cast[↓yG_];refine y2 ⟨ho8,DA,y2 ⟨ho8,DA,x5 X _ tks _ rec ⟨rfl,T4',I8,hr,λv H9 rv s9=> ?_⟩⟩⟩;rw[eR']at rv;obtain⟨t0,u0,rfl,F5,II⟩:=rv
  have B8:(cs++[c1]).length=cs.length+1:=by simp
  refine CU F5 (n:=1) rfl rfl ⟨by decide,λt9 ht9=> ?_⟩
  have sa:=AL (o:=.tup [V.int p]) ht9;refine cat_tup (sa _ _ II) AF (by simp) (by simp[AW];exact oA hps rfl) λpp H10 s10 epp=>⟨by decide,λl10 hl10=> ?_⟩
  have s11:=(s9.trans sa).trans s10
  have sc:=AL (o:=.lst [V.int ((cs++[c1]).length:Nat)]) hl10
  have C1:=s11.trans sc;refine IK X _ tks _ rec m ps (ps++[p]) pp l10 [((cs++[c1]).length:Int)] ⟨rfl,T4',I8.same C1,hr,eR',sc _ _ (by rw[epp];simp[AW]),by simp;exact oA hps rfl,AF,by simp,(λx hx=>by rw[ο.mp hx];exact⟨i0,by simp⟩),by simp;exact oH hcs rfl,λc3 H13 I13 sb13=>⟨by decide,λl hl=> ?_⟩⟩
  have sl:=AL (o:=.lst [V.int cs.length,V.int ((cs++[c1]).length:Nat),V.int ((cs++[c1]++[c2]).length:Nat)]) hl
  have sbH:SameBut (λx=>X.S.A.F x\/x=X.S.tk) H H13:=λy o e n=>sb13 _ _ (C1 _ _ (sb8 _ _ (s67 _ _ (sb6 _ _ (s5 _ _ (s14 _ _ e)) λz=>n (.inl z))) λz=>n (.inl z))) λz=>n (.inl z);exact q [c1,c2,c3] l _ rfl (NA I13 sbH hl) (by rw[AF];simp[AW,cq]) (by have:=I13.same sl;simpa using this) λy o e n=>sl _ _ (sbH _ _ e n)
def Bj{b d:Addr}{xs ys:List V}(h1:H b=some (.tup xs))(h2:H d=some (.tup ys))(hl:xs.length+ys.length<=1000)(q:∀ p H',Same H H'->H' p=some (.tup (xs++ys))->Q (.ref p) H'):B1 K (.ref b) (.ref d) H Q:=by
 by_cases hy:ys=[]
 ·subst hy;rw[WV];by_cases hx:xs=[]
  ·subst hx;exact .inr (.inr (x3 b d [] ⟨rfl,rfl,SqT.of h1,SqT.of h2,q d H (Same.refl _) h2⟩))
  ·exact .inr (.inl (x4 b d xs [] ⟨rfl,rfl,SqT.of h1,SqT.of h2,hx,C4 _ (oA hl rfl),λ_=>q b H (Same.refl _) (by rw[h1];simp),λe=>absurd rfl e⟩))
 ·exact cat_tup h1 h2 hy hl q
def znq:Y1 K a vs H Q E->cM K a (λ_=>E) (BC Q) (start ["","","","","",""] vs) H:=by
 apply u6;rintro X cs tks M z x ⟨rfl,T4,I,hcs,q,q1⟩
 have T4':=T4;obtain⟨dx,ho⟩:=I.ob;push_cast[cM,↓yH_];refine y2 ⟨ho,DA,x5 X cs tks M z ⟨rfl,T4,I,λcell rec ec BM eM H1 s1=> ?_,λeo H3 s3=>q1 eo _ s3⟩⟩;obtain⟨hr,m,ps,eR,hps,q2,q3⟩:=q cell rec ec BM eM;push_cast[↓yI_];refine y2 ⟨s1 _ _ ho,DA,x5 X cs tks M rec ⟨rfl,T4,I.same s1,hr,λv H2 rv s2=> ?_⟩⟩;rw[eR]at rv;revert rv;apply u2;rintro t0 u0 ⟨rfl,F5,II⟩;refine CU F5 (n:=1) rfl rfl ?_
 have C1:=s1.trans s2;push_cast[↓yK_,↓yJ_];split
 ·rename_i h0;refine⟨ps.length,.inr ⟨_,SqT.of II,by simp[AW]⟩,?_⟩;split
  ·exact⟨by decide,q2 (by omega) _ C1⟩
  ·obtain⟨k,rfl⟩:∃ k:Nat,x=k:=⟨x.toNat,(c_ h0).symm⟩
   have hk:k<ps.length:=by omega
   have ek:=ζ hk;obtain⟨hp,q3⟩:=q3 k _ rfl ek;push_cast[↓yL_];refine y2 ⟨C1 _ _ ho,DA,?_⟩
   have e1:HT.sIx (AW ps).length (AW ps).length (some (k:Int))=k:=by
    show(if(k:Int)<0 then((k:Int)+((AW ps).length:Int)).toNat else min (k:Int).toNat (AW ps).length)=_;rw[if_neg (by exact xn.mpr i0)];simp[AW];exact ku (fg hk)
   have e2:HT.sIx (AW ps).length 0 (some ((k:Int)+1))=k+1:=by
    show(if((k:Int)+1)<0 then((k:Int)+1+((AW ps).length:Int)).toNat else min ((k:Int)+1).toNat (AW ps).length)=_;rw[if_neg (by exact xn.mpr i0)];simp[AW];exact ku hk
   have hnl:(AW ps).length=ps.length:=by simp[AW]
   refine .inr (x2 u0 _ ⟨rfl,SqT.of II,λy=>by rw[e1]at y;omega,λp1 KB=> ?_⟩)
   have sa:=AL (o:=.tup (EY (AW ps) none (some (k:Int)))) KB;refine .inr (x2 u0 _ ⟨rfl,SqT.of (sa _ _ II),λy=>by rw[e2]at y;omega,λp2 FL=> ?_⟩)
   have sb:=AL (o:=.tup (EY (AW ps) (some ((k:Int)+1)) none)) FL
   have c1:EY (AW ps) none (some (k:Int))=AW (ps.take k):=by rw[mT _ (by exact i0),ai];simp[AW]
   have c2:EY (AW ps) (some ((k:Int)+1)) none=AW (ps.drop (k+1)):=by rw[XX _ (by exact i0),show((k:Int)+1).toNat=k+1 by exact rfl];simp[AW]
   rw[c1,c2]at sb;rw[c1]at sa;rw[c1,c2]
   have IF:(AW (ps.take k)).length+(AW (ps.drop (k+1))).length<=1000:=by simp[AW];omega
   refine Bj (sb _ _ AF) AF IF λpp H5 s5 epp=>⟨by decide,λl5 hl5=> ?_⟩
   have sc:=AL (o:=.lst []) hl5
   have s6:=(((C1.trans sa).trans sb).trans s5).trans sc
   have epp':H5 pp=some (.tup (AW (ps.eraseIdx k))):=by rw[epp,fu];simp[AW]
   have hel:(ps.eraseIdx k).length<=100:=by rw[List.length_eraseIdx];split<;>omega
   refine IK X cs tks M rec m ps (ps.eraseIdx k) pp l5 [] ⟨rfl,T4',I.same s6,hr,eR,sc _ _ epp',hel,AF,by simp,(λx hx=>by cases hx),oA hcs rfl,λc1' H7 I7 sb7=> ?_⟩;obtain⟨T,TP,TL,TS⟩:=T4;obtain⟨dx7,ho7⟩:=I7.ob;obtain⟨dl7,el7⟩:=I7.ly.ob;obtain⟨db7,eb7⟩:=I7.bk.bk.ob
   have k7:CG _ H7:=JD sb7 λx hx=>(I.same s6).bk.loose hx
   have eu7:=k7 _ _ ((((sa.trans sb).trans s5).trans sc) _ _ II);push_cast[↓yM_];refine y3 ⟨ho7,TS.cl,TS.n2,_,JF,y2 ⟨eb7,EA,y3 ⟨ho7,TS.cl,TS.n1,_,JE,y2 ⟨el7,CC,CU eu7 (n:=k) rfl (by unfold AW;rw[ρ,ek];rfl) ?_⟩⟩⟩⟩;refine x6 X.S.lp X.n X.r X.c X.w (ps[k]) ⟨rfl,TL,I7.ly,λu hu=>⟨by decide,λl8 hl8=> ?_⟩⟩
   have hm2:AT X.n X.r X.c X.w 2=X.c * X.w:=by simp[AT]
   have sd:=AL (o:=.tup [.int (X.n+X.r+X.c+X.r+(ps[k]:Int) / X.w),.int ((ps[k]:Int) % X.w)]) hu
   have se:=AL (o:=.lst [.int cs.length]) hl8
   have f1:=se _ _ (show upd H7 u (.tup [.int (X.n+X.r+X.c+X.r+(ps[k]:Int) / X.w),.int ((ps[k]:Int) % X.w)]) u=some (.tup [.int (AY X.n X.r X.c X.w 2 ps[k]:Nat),.int (ps[k] % X.w:Nat)]) by rw[AF];simp[AY]);refine JG (ns:=[(cs.length:Int)]) T4' (I7.same (sd.trans se)) (kind:=2) (x:=.mk 0) (by decide) (by rw[hm2];exact hp) f1 AF (by simp) (by simp;exact oC hcs rfl) (λx hx=>by rw[ο.mp hx];exact⟨i0,by simp;exact yk _⟩) trivial rfl (a_ _) λc2' H9 I9 OR=>⟨by decide,λl hl=> ?_⟩
   have sl:=AL (o:=.lst [V.int cs.length,V.int ((cs++[c1']).length:Nat)]) hl
   have sbH:SameBut (λx=>X.S.A.F x\/x=X.S.tk) H H9:=λy o e n=>OR _ _ ((sd.trans se) _ _ (sb7 _ _ (s6 _ _ e) λz=>n (.inl z))) λz=>n (.inl z);exact q3 [c1',c2'] l _ rfl (NA I9 sbH hl) (by rw[AF];simp[AW,cq]) (by have:=I9.same sl;simpa using this) λy o e n=>sl _ _ (sbH _ _ e n)
 ·exact⟨by decide,q2 (by omega) _ C1⟩
def OJ{f:Nat->Bool}{m k:Nat}(h:EU f m=k):f k=true:=by
 unfold EU at h;cases e:(ag m).find? f with
 | none=>rw[e]at h;simp at h
 | some k' =>
  rw[e]at h
  have:=Ge e
  have:k'=k:=by simp at h;exact bc h
  subst this
  assumption
def znr{M:Hs}{m cell rec:Nat}{x:CV}{y z:Str}{n1 n2:List Nat}(hyz:y≠z)(fc:EV 0 (M 0 cell)=true):cellOf ((M.put 3 rec x n1).put 0 cell (.nm z rec) n2) m y=cellOf M m y:=by
 unfold cellOf;refine c7 λk _=> ?_;unfold FR;by_cases hk:k=cell
 ·subst hk;rw[Hs.put_at,if_pos ⟨rfl,rfl⟩];cases e:M 0 k with
  | nm z' r'=>rw[e]at fc;simp[EV]at fc
  | _=>simp;exact λh=>hyz h.symm
 ·rw[Hs.put_at,if_neg (by exact λz=>hk z.2),Hs.put_at,if_neg (by exact nE rfl)]
def zns:Y2 K a vs H Q E->cN K a (λ_=>E) (BC Q) (start ["","","","","",""] vs) H:=by
 apply u6;rintro X cs tks M y z ⟨rfl,T4,I,hyl,hzl,hcs,q,q1,q2,q3,q4⟩;obtain⟨dx,ho⟩:=I.ob;push_cast[cN,↓yN_];refine y2 ⟨ho,DA,x6 X cs tks M y z ⟨rfl,T4,I,hyl,hzl,oA hcs rfl,λhy hz hc old rec cell eo hol e0=> ?_,q1,q2,q3,q4⟩⟩;obtain⟨hr,m,ps,e3,hps,q⟩:=q hy hz hc old rec cell eo hol e0;refine⟨hr,x2 m ps ⟨e3,hps,λec BM ex l1 H1 hex IF el1 I1 sb1=> ?_⟩⟩
 have q:=q ec BM
 have hyz:y≠z:=λh=>by rw[h,hc]at eo;cases eo
 have fc:EV 0 (M 0 cell)=true:=OJ ec
 have hco:old≠cell:=λh=>by rw[<-h,e0]at fc;simp[EV]at fc
 have ec1:cellOf ((M.put 3 rec (.rc (m+1) ps) []).put 0 cell (.nm z rec) (cs.length::D2 tks z)) X.m0 y=some old:=by rw[znr hyz fc];exact eo
 have e01:((M.put 3 rec (.rc (m+1) ps) []).put 0 cell (.nm z rec) (cs.length::D2 tks z)) 0 old=.nm y rec:=by rw[Hs.put_at,if_neg (by exact λz=>hco z.2),Hs.put_at,if_neg (by exact nE rfl)];exact e0
 obtain⟨dx1,ho1⟩:=I1.ob
 have fl1:¬ X.S.A.F l1/\l1≠X.S.tk:=⟨λz=>by
  have:=I.bk.off IF;exact this z,λz=>by rw[z,I.tk]at IF;cases IF⟩
 push_cast[↓yO_];refine y2 ⟨ho1,DA,x5 X _ tks _ y ⟨rfl,T4,I1,λcell' k' ec' hc' eM' H2 s2=> ?_,λe=>by rw[ec1]at e;cases e⟩⟩;rw[ec1]at ec';cases ec';rw[e01]at eM';cases eM'
 have I2:=I1.same s2;push_cast[↓yP_];refine y2 ⟨s2 _ _ ho1,DA,D5 (SqL.of (s2 _ _ el1)) (n:=1) (v:=.int (cs.length+1:Nat)) rfl (by simp[AW,cq]) ⟨by decide,λl3 hl3=> ?_⟩⟩
 have s3:=AL (o:=.lst [V.int (cs.length+1:Nat)]) hl3
 have I3:=I2.same s3
 have e33:((M.put 3 rec (.rc (m+1) ps) []).put 0 cell (.nm z rec) (cs.length::D2 tks z)) 3 rec=.rc (m+1) ps:=by rw[Hs.put_at,if_neg (by exact nE rfl),Hs.put_at,if_pos ⟨rfl,rfl⟩]
 refine x8 X _ tks _ old y l3 [((cs.length+1:Nat):Int)] ⟨rfl,T4,I3,ec1,hol,AF,by simp,(λx hx=>by rw[ο.mp hx];exact⟨i0,by simp[hex]⟩),by simp[hex];exact oH hcs rfl,λc3 H4 I4 sb4=> ?_⟩;obtain⟨dx4,ho4⟩:=I4.ob
 have B8:(cs++ex).length=cs.length+2:=by simp[hex]
 rw[B8]
 have el4:=sb4 _ _ (s3 _ _ (s2 _ _ el1)) λz=>z.elim fl1.1 fl1.2;push_cast[↓yQ_];refine y2 ⟨ho4,DA,by decide,λl5 hl5=> ?_⟩
 have s5:=AL (o:=.lst [V.int (cs.length+2:Nat)]) hl5
 have e34:(((M.put 3 rec (.rc (m+1) ps) []).put 0 cell (.nm z rec) (cs.length::D2 tks z)).put 0 old .no (EW [((cs.length+1:Nat):Int)])) 3 rec=.rc (m+1) ps:=by rw[Hs.put_at,if_neg (by exact nE rfl)];exact e33
 refine IK X _ _ _ rec (m+1) m (-1) ps l5 [((cs.length+2:Nat):Int)] ⟨rfl,T4,I4.same s5,hr,e34,by omega,hps,AF,by simp,(λx hx=>by rw[ο.mp hx];exact⟨i0,by simp[hex]⟩),by simp[hex];exact oH hcs rfl,λc4 H6 I6 sb6=>⟨by decide,λl6 hl6=>.inl ?_⟩⟩
 have el6:=sb6 _ _ (s5 _ _ el4) fl1.1
 have s6:=AL (o:=.lst [V.int (cs.length+2:Nat),V.int ((cs++ex++[c3]).length:Nat)]) hl6;refine x4 l1 l6 _ _ ⟨rfl,rfl,s6 _ _ el6,AF,C4 _ (by simp[AW]),λl hl=> ?_⟩
 have sl:=AL (o:=.lst (AW ((ag 2).map (cs.length+·))++[V.int (cs.length+2:Nat),V.int ((cs++ex++[c3]).length:Nat)])) hl
 have sbH:SameBut (λx=>X.S.A.F x\/x=X.S.tk) H (upd H6 l6 (.lst [V.int (cs.length+2:Nat),V.int ((cs++ex++[c3]).length:Nat)])):=λb o e n=>s6 _ _ (sb6 _ _ (s5 _ _ (sb4 _ _ (s3 _ _ (s2 _ _ (sb1 _ _ e n))) n)) λz=>n (.inl z))
 have h2:((cs.length:Int)+2).toNat=cs.length+2:=rfl;exact q (ex++[c3]++[c4]) l _ (by simp[hex]) (NA (I6.same s6) sbH hl) (by rw[AF];simp[AW,cq,hex]) (by have:=(I6.same s6).same sl;simpa [fi,hex,h2]using this) λb o e n=>sl _ _ (sbH _ _ e n)
def Bk(C C':Nat->Bool)(hC:∀ j,C j=true->C' j=true)(kind k:Nat):∀ as:List AC,(∃ x,∀ M,sh M C' as kind k=x)\/((∀ M,sh M C' as kind k=M kind k)/\∀ M,sh M C as kind k=M kind k)
 | []=>.inr ⟨λ_=>rfl,λ_=>rfl⟩
 | b::r=>by
  have ih:=Bk C C' hC kind k r;by_cases e:kind=b.kind/\k=b.k
  ·obtain⟨rfl,rfl⟩:=e;by_cases c:C' r.length=true
   ·exact .inl ⟨b.x,λM=>by rw[C8 c,DI]⟩
   ·have c0:¬ C r.length=true:=λz=>c (hC _ z);rcases ih with⟨x,h⟩ | ⟨h1,h2⟩
    ·exact .inl ⟨x,λM=>by rw[EF c];exact h M⟩
    ·exact .inr ⟨λM=>by rw[EF c];exact h1 M,λM=>by rw[EF c0];exact h2 M⟩
  ·have far:∀ (D:Nat->Bool) (M:Md),sh M D (b::r) kind k=sh M D r kind k:=λD M=>by
    by_cases c:D r.length=true
    ·rw[C8 c];exact if_neg e
    ·rw[EF c]
   rcases ih with⟨x,h⟩ | ⟨h1,h2⟩
   ·exact .inl ⟨x,λM=>by rw[far];exact h M⟩
   ·exact .inr ⟨λM=>by rw[far];exact h1 M,λM=>by rw[far];exact h2 M⟩
def znt{C C':Nat->Bool}(hC:∀ j,C j=true->C' j=true){M:Md}{as:List AC}{kind k:Nat}:sh (sh M C as) C' as kind k=sh M C' as kind k:=by
 rcases Bk C C' hC kind k as with⟨x,h⟩ | ⟨h1,h2⟩
 ·rw[h,h]
 ·rw[h1,h1,h2]
def znu{cs:List Ch}{ch:Ch}{O:Int->Bool}{b:Nat}{row:List V}:FQ (cs++[ch]) O b row=if ch.blk=b/\O cs.length=true then(FQ cs O b row).set ch.cell ch.val else FQ cs O b row:=by
 have ib:DD (cs++[ch]) b=if ch.blk=b then DD cs b++[cs.length]else DD cs b:=by simp[DD,HJ]
 have st:∀ (l:List Nat) (row:List V),(∀ k∈l,k<cs.length)->l.foldl (G3 (cs++[ch]) O) row=l.foldl (G3 cs O) row:=by
  intro l
  induction l with
  | nil=>intro _ _;rfl
  | cons k l ih =>
   intro row h;rw[fe,fe,ih _ λj hj=>h j (χ _ hj)]
   congr 1
   unfold G3;rw[am (h k aq)]
 have lt:∀ k∈DD cs b,k<cs.length:=λk hk=>by
  obtain⟨c,e,_⟩:=X6.mp hk;exact(ι.mp e).1
 unfold FQ;rw[ib];by_cases e:ch.blk=b
 ·rw[if_pos e,h_,st _ _ lt];simp only[fe,List.foldl_nil];unfold G3;rw[ao (ξ _),ko];by_cases o:O cs.length=true
  ·rw[if_pos o,if_pos ⟨e,o⟩];rfl
  ·rw[if_neg o,if_neg λz=>o z.2]
 ·rw[if_neg e,if_neg λz=>e z.1,st _ _ lt]
section
variable{n r c w:Nat}{cs:List Ch}{as:List AC}
def LaidA.len(h:LaidA n r c w H cs as):cs.length=as.length:=by
 induction h with
 | nil=>rfl
 | snoc _ _ _ _ _ _ _ ih=>rw[aj,ih];rfl
def LaidA.far(h:LaidA n r c w H cs as){C C':Int->Bool}{b:Nat}(hC:∀ (j:Nat) (ch:Ch),cs[j]? =some ch->ch.blk≠b->C' j=C j){M:Md}{kind k:Nat}(hb:AY n r c w kind k≠b):sh M (λj=>C' (j:Nat)) as kind k=sh M (λj=>C (j:Nat)) as kind k:=by
 induction h with
 | nil=>rfl
 | @snoc cs as ch x l e1 e2 e3 e4 e5 e6 ih =>
  have ih:=ih λj c ec=>hC j c (by rw[am (ι.mp ec).1];exact ec);by_cases e:kind=x.kind/\k=x.k
  ·have cc:=hC cs.length ch (by rw[ao (ξ _),ko];rfl) (by rw[e1,<-e.1,<-e.2];exact hb);rw[l.len]at cc;by_cases o:C as.length=true
   ·rw[C8 (C:=λj=>C (j:Nat)) o,C8 (C:=λj=>C' (j:Nat)) (cc.trans o),e.1,e.2,DI,DI]
   ·rw[EF (C:=λj=>C (j:Nat)) o,EF (C:=λj=>C' (j:Nat)) (by rw[cc];exact o)];exact ih
  ·have far:∀ D:Nat->Bool,sh M D (x::as) kind k=sh M D as kind k:=λD=>by
    by_cases o:D as.length=true
    ·rw[C8 o];exact if_neg e
    ·rw[EF o]
   rw[far,far];exact ih
def LaidA.laid(h:LaidA n r c w H cs as){O:Int->Bool}{b:Nat}{row:List V}{S:Md}(hr:∀ kind k v,kind<5->k<AT n r c w kind->AY n r c w kind k=b->row[k % w]? =some v->RepC H (S kind k) v):∀ kind k v,kind<5->k<AT n r c w kind->AY n r c w kind k=b->(FQ cs O b row)[k % w]? =some v->RepC H (sh S (λj=>O (j:Nat)) as kind k) v:=by
 induction h with
 | nil=>exact hr
 | @snoc cs as ch x l e1 e2 e3 e4 e5 e6 ih =>
  intro kind k v h1 hk hb hv;rw[znu]at hv
  have ih:=ih kind k v h1 hk hb;by_cases e:kind=x.kind/\k=x.k
  ·obtain⟨rfl,rfl⟩:=e;rw[e1,hb]at hv;by_cases o:O as.length=true
   ·rw[C8 (C:=λj=>O (j:Nat)) o,DI];rw[if_pos ⟨rfl,by rw[l.len];exact o⟩,e2]at hv
    have hl:=(ι.mp hv).1;rw[fq]at hl;rw[fh hl]at hv;cases hv;exact e3
   ·rw[EF (C:=λj=>O (j:Nat)) o];rw[if_neg λz=>o (by rw[<-l.len];exact z.2)]at hv;exact ih hv
  ·have far:sh S (λj=>O (j:Nat)) (x::as) kind k=sh S (λj=>O (j:Nat)) as kind k:=by
    by_cases o:O as.length=true
    ·rw[C8 (C:=λj=>O (j:Nat)) o];exact if_neg e
    ·rw[EF (C:=λj=>O (j:Nat)) o]
   rw[far];refine ih ?_;split at hv
   ·rename_i z
    have:ch.cell≠k % w:=λy=>e (by
     have:=U4 (n:=n) (r:=r) (c:=c) (w:=w) h1 e5 hk e6 (by rw[hb,<-e1];exact z.1.symm) (by rw[<-y,e2]);exact this)
    rw[gu this]at hv;exact hv
   ·exact hv
end
def RowsAre.keep{n r c w:Nat}{rows:List (List V)}{S:Md}{H':Hp}(h:RowsAre H n r c w rows S)(k:CG H H'):RowsAre H' n r c w rows S:=λkind i v h1 h2 h3=>(h kind i v h1 h2 h3).keep k
def RowsAre.write{n r c w b:Nat}{cs:List Ch}{as:List AC}{rows:List (List V)}{row:List V}{B:Md}{outs:Int->Bool}(h:RowsAre H n r c w rows (sh B (λj=>outs (j:Nat)) as))(l:LaidA n r c w H cs as)(er:rows[b]? =some row) :
  RowsAre H n r c w (rows.set b (FQ cs (FH cs outs b) b row)) (sh B (λj=>FH cs outs b (j:Nat)) as):=λkind k v h1 hk hv=>by
 have hb:=(ι.mp er).1
 have up:∀ j:Nat,outs j=true->FH cs outs b j=true:=λj e=>by unfold FH;rw[e];rfl
 by_cases e:AY n r c w kind k=b
 ·rw[e,fh hb]at hv
  have:=l.laid (O:=FH cs outs b) (b:=b) (row:=row) (S:=sh B (λj=>outs (j:Nat)) as) (λkind k v h1 hk e hv=>h kind k v h1 hk (by rw[e,er];exact hv)) kind k v h1 hk e hv;rw[znt (C:=λj=>outs (j:Nat)) (C':=λj=>FH cs outs b (j:Nat)) up]at this;exact this
 ·rw[gu (λz=>e z.symm)]at hv;rw[l.far (C:=outs) (C':=FH cs outs b) (b:=b) (λj ch ej nb=> ?_) e]
  ·exact h kind k v h1 hk hv
  ·unfold FH
   have:(outcome cs outs (λ_=>false) b).out.any (λ(i:Nat)=>(j:Int) ==(i:Int))=false:=by
    rw[Be];intro z;obtain⟨i,hi,ei⟩:=dv.mp z
    have ei:i=j:=by have:=beq_iff_eq.mp ei;exact bc this.symm
    subst ei;obtain⟨c',ec',eb⟩:=X6.mp ((X8.2.1 i hi).2);rw[ej]at ec';cases ec';exact nb eb
   rw[this,dt]
def znv:∀ i:Fin 26,(bd "abcdefghijklmnopqrstuvwxyz").cps.toList[i.val]? =some (97+i.val):=by decide +kernel
def znw{i:Int}{n:Nat}{Q:VK}(hi:i=n)(hn:n<26)(q:Q (.str ⟨#[97+n]⟩) H):CB K (.str (bd "abcdefghijklmnopqrstuvwxyz")) (.int i) H Q:=Av hi (by decide +kernel) (znv ⟨n,hn⟩) q
def U7{x:Int}{Q:VK}(q:∀ n:Nat,n<26->Q (.str ⟨#[97+n]⟩) H):CB K (.str (bd "abcdefghijklmnopqrstuvwxyz")) (.int (x % 26)) H Q:=by
 obtain⟨b,eb,hb⟩:=cX x (n:=26) (by decide);rw[show((26:Nat):Int)=26 from rfl]at eb;rw[eb];exact znw rfl hb (q b hb)
def znx(x y:Str):(x++y).cps.toList=x.cps.toList++y.cps.toList:=by
 show(x.cps++y.cps).toList=_;simp
def U8(z:Str):z.cps.toList.length=z.length:=by simp[xb]
def zny{z:Str}{k:Nat}(h:k<=z.length):(Txt.slice z none (some (k:Int))).cps.toList=z.cps.toList.take k:=by
 rw[eq_of_beq (slice_closes_to (x:=z) (j:=(k:Int)) ⟨by exact i0,by rw[U8];omega⟩)];simp
def znz{z:Str}{k:Nat}(h:k<=z.length):(Txt.slice z (some (k:Int)) none).cps.toList=z.cps.toList.drop k:=by
 rw[eq_of_beq (slice_closes_from (x:=z) (i:=(k:Int)) ⟨by exact i0,by rw[U8];omega⟩)]
 have:((z.cps.toList.length:Int) - k).toNat=(z.cps.toList.drop k).length:=by rw[io];omega
 simp only[ai,this,dn]
def Lts(z:Str)(n:Nat):Prop:=z.cps.toList.length=n/\z.cps.toList.all QP=true
def Lts.len{z:Str}{n:Nat}(h:Lts z n):z.length=n:=by rw[<-U8];exact h.1
def Lts.cat{x y:Str}{n m:Nat}(h:Lts x n)(h':Lts y m):Lts (x++y) (n+m):=by
 unfold Lts;rw[znx,aj,List.all_append,h.1,h'.1,h.2,h'.2];exact⟨rfl,rfl⟩
def Lts.one{n:Nat}(h:n<26):Lts ⟨#[97+n]⟩ 1:=⟨rfl,by simp[QP];exact yt (cy h) _⟩
def Lts.to{z:Str}{n k:Nat}(h:Lts z n)(hk:k<=n):Lts (Txt.slice z none (some (k:Int))) k:=by
 unfold Lts;rw[zny (by rw[h.len];exact hk)];refine⟨by rw[dk,h.1];exact ku hk,?_⟩;rw[ip];exact λc hc=>ip.mp h.2 c (List.mem_of_mem_take hc)
def Lts.from{z:Str}{n k:Nat}(h:Lts z n)(hk:k<=n):Lts (Txt.slice z (some (k:Int)) none) (n - k):=by
 unfold Lts;rw[znz (by rw[h.len];exact hk)];refine⟨by rw[io,h.1],?_⟩;rw[ip];exact λc hc=>ip.mp h.2 c (List.mem_of_mem_drop hc)
def Lts.name{z:Str}{n:Nat}(h:Lts z n)(h1:1<=n)(h8:n<=8):B7 z=true:=by
 unfold B7;rw[h.len,h.2];simp;exact⟨h1,h8⟩
def Bm{z:Str}(h:B7 z=true):Lts z z.length/\1<=z.length/\z.length<=8:=by
 unfold B7 at h;simp only[dg,decide_eq_true_eq]at h;exact⟨⟨U8 z,h.2⟩,h.1.1,h.1.2⟩
def zn0(h:Y4 K a vs H Q E):ZY K a (λ_=>E) (BC Q) (start ["","","","","","","","",""] vs) H:=by
 obtain⟨x,rfl,q⟩:=h;push_cast[ZY,↓qG_,↓qH_,↓qI_,↓qL_];obtain⟨m,em,hm⟩:∃ m:Nat,1+x % 6=m/\1<=m/\m<=6:=md _ 6 (by decide);rw[em,ai];clear em;refine⟨⟨by decide,by decide⟩,i0,iA hm.2 rfl,MP (λi σ H'=>∃ (p:Str) (rest:Int),H'=H/\Lts p i/\∃ y,σ=[some (.int x),some (.str (bd "abcdefghijklmnopqrstuvwxyz")),some (.str p),some (.int rest),y,none,none,none,none]) (x2 (bd "") _ ⟨rfl,⟨by decide +kernel,by decide +kernel⟩,_,rfl⟩) (λi σ H' hi hzz=> ?_) (λσ H' hzz=> ?_)⟩
 ·obtain⟨p,rest,e,hp,y,ez⟩:=hzz;subst e ez;push_cast[↓qJ_,↓qK_]
  have:=hp.len;refine⟨.inl ⟨by decide,by decide⟩,⟨by decide,by decide⟩,.inl ⟨i0,by omega⟩,U7 λn hn=> ?_⟩;push_cast[]
  have h1:=(Lts.one hn).len;exact⟨C4 _ (by omega),⟨by decide,by decide⟩,.inl ⟨by decide,by decide⟩,_,hp.cat (Lts.one hn),rfl⟩
 ·obtain⟨p,rest,e,hp,y,ez⟩:=hzz;subst e ez
  have CK:=hp.len;push_cast[↓qM_];refine⟨⟨by decide,by decide⟩,m,⟨C4 _ (oA (υ (bn CK) hm.2) rfl),CK.symm⟩,bv.mpr (τ (by decide) hm.1),?_⟩;obtain⟨at',eat,hat⟩:=cX (x / 7) (n:=m) (hm.1);rw[eat];push_cast[↓qN_];refine⟨⟨by decide,by decide⟩,U7 λn1 hn1=> ?_⟩;push_cast[↓qO_];refine⟨⟨by decide,by decide⟩,⟨by decide,by decide⟩,U7 λn2 hn2=> ?_⟩;push_cast[↓qP_];refine⟨rfl,zm1 (n:=at') rfl (CK ▸ hat) (oA (υ (bn CK) hm.2) rfl) λc=>y2 ⟨rfl,rfl,?_⟩⟩;push_cast[];refine⟨⟨by decide,by decide⟩,U7 λn3 hn3=> ?_⟩;push_cast[↓qQ_]
  have l1:=Lts.one hn1
  have l2:=Lts.one hn2
  have l3:=Lts.one hn3
  have lt:=hp.to (k:=at') (fg hat)
  have lf:=hp.from (k:=at'+1) (hat)
  have d1:=l1.len
  have d2:=l2.len
  have d3:=l3.len
  have d4:=lt.len
  have d5:=lf.len
  have ea:((at':Nat):Int)+1=((at'+1:Nat):Int):=rfl;rw[ea]
  have e1:=hp.cat l2
  have e2:=l1.cat hp
  have e3:=(lt.cat l3).cat lf
  have e4:=(hp.cat l2).cat l1;refine⟨C4 _ (oC (υ (bn CK) hm.2) rfl),C4 _ (by omega),C4 _ (oA (υ (bn CK) hm.2) rfl),C4 _ (by omega),C4 _ (oA (υ (bn CK) hm.2) rfl),C4 _ (by rw[Ax];omega),C4 _ (oC (υ (bn CK) hm.2) rfl),C4 _ (by rw[Ax];omega),by decide,λl hl=> ?_⟩;refine q l [p,p++(⟨#[97+n2]⟩:Str),(⟨#[97+n1]⟩:Str)++p,Txt.slice p none (some (at':Int))++(⟨#[97+n3]⟩:Str)++Txt.slice p (some ((at'+1:Nat):Int)) none,p++(⟨#[97+n2]⟩:Str)++(⟨#[97+n1]⟩:Str)] _ hl (AL hl) (by rw[AF];rfl) rfl λz hz=> ?_;simp only[ak,bz,or_false]at hz;rcases hz with rfl | rfl | rfl | rfl | rfl
  ·exact hp.name (hm.1) (oA hm.2 rfl)
  ·exact e1.name (ue _ _) (oC hm.2 rfl)
  ·exact e2.name (Ea _ _) (by omega)
  ·exact e3.name (by omega) (by omega)
  ·exact e4.name (ue _ _) (oG hm.2 rfl)
def Bp:∀ l:List Str,(∀ x∈l,x.length=1)->(l.map (·.length)).sum=l.length
 | [],_=>rfl
 | x::r,h=>by
  rw[cu,List.sum_cons,Bp r λy hy=>h y (χ _ hy),h x aq,cf];exact An _ _
def FV{c A B:Prop}[Decidable c](h:c)(x:A):if c then A else B:=by rw[if_pos h];exact x
def E6{c A B:Prop}[Decidable c](h:¬ c)(x:B):if c then A else B:=by rw[if_neg h];exact x
def Bq{g:Str}{p:Nat->Bool}(hg:g.cps= #[]):∀ (l:List Str) (CY:Array Nat),CY.all p=true->(∀ z∈l,z.cps.all p=true)->((l.foldl (λCY p=>CY++g.cps++p.cps) CY).all p)=true
 | [],CY,h,_=>h
 | z::l,CY,h,hl=>by
  refine Bq hg l _ ?_ λy hy=>hl y (χ _ hy);rw[hg,Er,Er,h,hl z aq];simp
def Bv{g:Str}{p:Nat->Bool}{l:List Str}(hg:g.cps= #[])(h:∀ z∈l,z.cps.all p=true):(Txt.join g l).cps.all p=true:=by
 cases l with
 | nil=>exact Array.all_empty
 | cons z l=>exact Bq hg l z.cps (h z aq) λy hy=>h y (χ _ hy)
def zn1:∀ i:Fin 94,∃ c,L8.cps.toList[i.val]? =some c/\c<1114112/\M4 c=true:=by
 have h:∀ i:Fin 94,L8.cps.toList[i.val]? =some (L8.cps.toList[i.val]!)/\L8.cps.toList[i.val]! <1114112/\M4 (L8.cps.toList[i.val]!)=true:=by decide +kernel
 exact λi=>⟨_,h i⟩
def c9(x:Int)(i:Nat):∃ b:Nat,(x / 3+(1+x / 19 % 93) * ((0+(i:Int)) / (1+x / 7 % 3))) % 94=b/\L8.cps.toList[b]? =some (JX x i)/\JX x i<1114112/\M4 (JX x i)=true:=by
 obtain⟨b,eb,hb⟩:=cX (x / 3+(1+x / 19 % 93) * ((0+(i:Int)) / (1+x / 7 % 3))) (n:=94) (by decide);rw[show((94:Nat):Int)=94 from rfl]at eb;obtain⟨c,h1,h2,h3⟩:=zn1 ⟨b,hb⟩
 have e:JX x i=c:=by
  unfold JX;rw[eb,ai,h1]
  rfl
 exact⟨b,eb,by rw[e];exact h1,by rw[e];exact h2,by rw[e];exact h3⟩
def zn2(x:Int):1<=JB x/\JB x<=40:=by
 unfold JB;split<;>omega
def zn3(x:Int):L6 (JY x)=true/\jj (JY x)=true/\(JY x).length<=40:=by
 have hl:(JY x).length=JB x:=by
  unfold JY;rw[show(bd "":Str)="" from rfl,W.KT.join_ones _ λz hz=>by
   obtain⟨i,_,rfl⟩:=cj.mp hz
   rfl]
  simp
 have hn:=zn2 x;refine⟨?_,?_,by omega⟩
 ·unfold L6;rw[hl,decide_eq_true hn.1,decide_eq_true hn.2]
  have:=Bv (g:=bd "") (p:=M4) (l:=(ag (JB x)).map λi=>⟨#[JX x i]⟩) (by decide +kernel) λz hz=>by
   obtain⟨i,_,rfl⟩:=cj.mp hz;simp;exact(c9 x i).choose_spec.2.2.2
  rw[kz,kz,Eo];exact this
 ·have:=Bv (g:=bd "") (p:=λc=>decide (c<1114112)) (l:=(ag (JB x)).map λi=>⟨#[JX x i]⟩) (by decide +kernel) λz hz=>by
   obtain⟨i,_,rfl⟩:=cj.mp hz;simp;exact(c9 x i).choose_spec.2.2.1
  unfold jj;exact this
def zn4(h:UK K a vs H Q E):Z3 K a (λ_=>E) (BC Q) (start [""] vs) H:=by
 obtain⟨x,rfl,q⟩:=h;push_cast[Z3,↓qW_,↓qX_,↓qY_];refine⟨⟨by decide,by decide⟩,?_⟩;unfold UI at q;split
 ·next h=>rw[if_pos h]at q;exact q
 ·next h=>rw[if_neg h]at q;exact q
def zn5(h:UJ K a vs H Q E):Z2 K a (λ_=>E) (BC Q) (start ["","","","",""] vs) H:=by
 obtain⟨x,rfl,q⟩:=h
 have tail:∀ m:Nat,m<=40->m=JB x->ZZ K a (λ_=>E) (λ_=>E) { nx:=AH (Z0 K a (λ_=>E) (λ_=>E)) (Z1 K a (λ_=>E) (λ_=>E)) (BC Q),rt:=Q } [some (.int x),some (.str L8),some (.int m),none,none] H:=λm hm em=>by
  push_cast[↓ZZ_,↓Z0_,↓Z1_];refine⟨⟨by decide,by decide⟩,⟨by decide,by decide⟩,rfl,i0,by omega,?_⟩;refine NY (C4 _ (oA hm rfl)) (λi ys H'=>H'=H/\ys=((ag i).map λj=>(⟨#[JX x j]⟩:Str)).map V.str) ⟨rfl,rfl⟩ (λi ys H' hi hl ⟨e1,e2⟩=> ?_) (λys H' hl ⟨e1,e2⟩ p hp=> ?_)
  ·subst e1;push_cast[D8];obtain⟨b,eb,hc,_⟩:=c9 x i
   have hd:(0+(i:Int)) / (1+x / 7 % 3)<=40/\0<=(0+(i:Int)) / (1+x / 7 % 3):=by
    have h1:0<1+x / 7 % 3:=by omega
    refine⟨?_,Int.ediv_nonneg (i0) (by omega)⟩;exact Iy (Int.ediv_le_self _ (i0)) (by omega)
   refine⟨⟨by decide,by decide⟩,⟨by omega,by omega⟩,.inl ⟨by omega,by omega⟩,?_⟩;rw[eb];exact Av rfl (by decide +kernel) hc ⟨rfl,by rw[e2,cq,bo,bo];rfl⟩
  ·subst e1 em
   have h1:∀ z∈(ag (JB x)).map λj=>(⟨#[JX x j]⟩:Str),z.length=1:=λz hz=>by
    obtain⟨i,_,rfl⟩:=cj.mp hz
    rfl
   exact x3 _ p _ ⟨rfl,rfl,by rw[e2];exact SqL.of AF,by decide,by rw[Bp _ h1];simp;omega,q _ (AL hp)⟩
 push_cast[Z2,↓qR_,↓qS_,↓qT_,↓qV_,↓qU_];refine⟨by decide +kernel,⟨by decide,by decide⟩,?_⟩;split
 ·obtain⟨m,em,hm⟩:∃ m:Nat,40 - x / 40 % 2=m/\m<=40:=⟨(40 - x / 40 % 2).toNat,by omega,by omega⟩
  rw[em];exact⟨⟨by decide,by decide⟩,tail m hm (by unfold JB;rw[if_pos (by assumption)];omega)⟩
 ·obtain⟨m,em,hm⟩:∃ m:Nat,1+x % 5=m/\m<=40:=⟨(1+x % 5).toNat,by omega,by omega⟩
  rw[em];exact tail m hm (by unfold JB;rw[if_neg (by assumption)];omega)
def Bw{M:Md}{C:Nat->Bool}{as:List AC}:∀ {es:List AC},(∀ j,as.length<=j->C j=false)->sh M C (es++as)=sh M C as
 | [],_=>rfl
 | e::es,h=>by
  rw[jy,EF (by rw[h _ (by simp)];exact ψ)];exact Bw h
def OK{tks:List (AS × V)}{z:Str}{k:Nat}:HL (BY tks (.inr z) (.int (k:Nat)))=E4 (HL tks) z k:=by
 funext y;unfold HL D2 E4;rw[KK];by_cases e:y=z
 ·subst e;rw[if_pos rfl,if_pos rfl];rfl
 ·rw[if_neg (λh=>e (Et h)),if_neg e]
def dA{tks:List (AS × V)}{z:Str}{j:Nat}(h:HL tks z=some j):j∈D2 tks z:=List.mem_of_mem_head? h
def LaidA.off{n r c w:Nat}{cs:List Ch}{as:List AC}(h:LaidA n r c w H cs as){C:Nat->Bool}{kind k:Nat}(hk:¬ k<AT n r c w kind):sh (λ_ _=>.no) C as kind k=.no:=by
 induction h with
 | nil=>rfl
 | @snoc cs as ch x l e1 e2 e3 e4 e5 e6 ih =>
  have e:¬ (kind=x.kind/\k=x.k):=λe=>hk (by rw[e.1,e.2];exact e6);by_cases c:C as.length=true
  ·rw[C8 c];unfold Md.put;rw[if_neg e];exact ih
  ·rw[EF c];exact ih
section
variable{X:SX}{cs:List Ch}{tks:List (AS × V)}{M:Hs}
def C45.more{H':Hp}{ex:List Ch}{tks':List (AS × V)}{M':Hs}(I:C45 a H X cs tks M)(I':X.at a H' (cs++ex) tks' M')(sb:SameBut (λx=>X.S.A.F x\/x=X.S.tk) H H')(hH:∃ o,Hist X.m0 M'.b M'.as (HL tks') o)(hb:M'.b=M.b)(hs:∃ es,M'.as=es++M.as/\∀ x∈es,EB x.kind x.x):C45 a H' X (cs++ex) tks' M':=by
 obtain⟨es,he,ho⟩:=hs
 have tk:CG H H':=JD sb λx hx=>hx.elim (λh=>I.st.bk.loose h) λh=>by rw[h];exact OB I.st.tk
 have out:∀ j:Nat,cs.length<=j->X.outs j=false:=λj hj=>by
  obtain⟨DS,e,hv,ks⟩:=I.st.bk.bk.out;cases eo:X.outs j with
  | false=>rfl
  | true =>
   exfalso;rw[<-hv,<-MK]at eo;obtain⟨p,hp,ep⟩:=dv.mp eo
   have ep:p.1=.inl (j:Int):=by simpa using ep
   have:=ks.2 p hp;rw[ep]at this;obtain⟨k,e1,e2⟩:=this
   have:=Ju e1;omega
 refine⟨I',hH,hb.trans I.b0,λk c ec o=> ?_,?_,I.few,λx hx=> ?_⟩
 ·by_cases hk:k<cs.length
  ·rw[am hk]at ec;exact I.cut k c ec o
  ·rw[out k (by exact bu hk)]at o;cases o
 ·rw[hb,he,Bw λj hj=>out j (by rw[I.st.la.len];exact hj)];exact I.rows.keep tk
 ·rw[he]at hx;rcases bh.mp hx with h | h
  ·exact ho x h
  ·exact I.ok x h
def dB{m:Nat}{z:Str}(h:cellOf M m z=none):∀ j r,j<m->M 0 j≠.nm z r:=λj r hj e=>by
 have:=jb.mp h j (bp.mpr hj);unfold FR at this;rw[e]at this;simp at this
def dC{cell:Nat}(ok:EB 0 (M 0 cell))(h:EV 0 (M 0 cell)=true):M 0 cell=.no:=by
 cases e:M 0 cell with
 | no=>rfl
 | _=>rw[e]at h;simp[EV]at h
def Bx{kind k:Nat}(h:EV kind (M kind k)=true):M kind k≠.mk 1:=λe=>by
 rw[e]at h;simp[EV]at h
def C45.ps(I:C45 a H X cs tks M){r m:Nat}{ps:List Nat}(h:M 3 r=.rc m ps):(∀ p∈ps,p<X.c * X.w)/\ps.length<=12:=by
 obtain⟨o,hi⟩:=I.hi
 have lt:∀ p∈ps,p<X.c * X.w:=λp hp=>by
  have e:=(hi.now.pm r m ps h p hp).1;rcases gq p (X.c * X.w)with z | z
  ·exact z
  ·exfalso
   have:M 2 p=.no:=by
    show C2 M.b M.as 2 p=.no;rw[I.b0]
    have la:=I.st.la;revert la;generalize M.as=as;intro la;exact la.off λhk=>by simp[AT]at hk;exact nL hk z
   rw[show C2 M.b M.as 2 p=.no from this]at e;cases e
 have:=sq (hi.now.nd r m ps h) (l₂:=ag (X.c * X.w)) λp hp=>bp.mpr (lt p hp);rw[lj]at this
 have:=I.few;exact⟨lt,by omega⟩
end
def OL{d:Nat}:∀ {ps:List Nat} {M:Hs},(M.unmark d ps).as=(ps.map λp=>(⟨2,p,.mk 0,[d]⟩:AC)).reverse++M.as/\(M.unmark d ps).b=M.b
 | [],_=>⟨rfl,rfl⟩
 | p::ps,M=>by
  have:=OL (d:=d) (ps:=ps) (M:=M.put 2 p (.mk 0) [d]);refine⟨?_,this.2⟩;rw[cu,dh,fi];exact this.1
def zn6:UL K a vs H Q E->cQ K a (λ_=>E) (BC Q) (start ["","","","","",""] vs) H:=by
 apply u8;rintro X cs tks M kind y z x ⟨rfl,T4,TD,I,hcs,hk,hy,hz,q1,q⟩;obtain⟨dx,ho⟩:=I.st.ob;obtain⟨ly,_,hy8⟩:=Bm hy;obtain⟨lz,_,hz8⟩:=Bm hz;obtain⟨o,hi⟩:=I.hi
 have len:=I.st.la.len
 have sd:=hi.now
 have few:=I.few
 have ok0:∀ {cell},cell<X.m0->EB 0 (M 0 cell):=λh=>I.st.ok 0 _ (by decide) (by simpa [AT]using h)
 have rl:∀ {k z rec},k<X.m0->M 0 k=.nm z rec->∃ m ps,rec<X.r * X.w/\M 3 rec=.rc m ps:=λ{k z rec} hk e=>by
  refine u2 ?_ (sd.nl k z rec hk e);rintro m ps e3;refine x2 m ps ⟨?_,e3⟩;rcases gq rec (X.r * X.w)with h | h
  ·exact h
  ·exfalso
   have e3':sh M.b (λ_=>true) M.as 3 rec=.rc m ps:=e3;rw[I.b0,I.st.la.off (C:=λ_=>true) (kind:=3) (k:=rec) (λhk=>by simp[AT]at hk;exact nL hk h)]at e3';cases e3'
 push_cast[cQ,↓yR_,↓zD_]
 have bad:∀ c:String,(c="NoName"\/c="Twice"\/c="NoPiece"\/c="NoRoom")->∀ H',Same H H'->PJ (λcls=>ij K cls [.ref (a "NoName"),.ref (a "Twice")]) (cP K a (λ_=>E) λ_=>E) (PJ (λcls=>ij K cls [.ref (a "NoPiece"),.ref (a "NoRoom")]) (cO K a (λ_=>E) λ_=>E) WL) (.ref (a c)) { nx:=UZ K a (λ_=>E) (λ_=>E) (BC Q),rt:=Q } [some (.ref X.S.st),some (.int kind),some (.str y),some (.str z),some (.int x),some .non] H':=λc hc H' s=>by
  rcases hc with rfl | rfl | rfl | rfl
  ·refine .inl ⟨TD.n1,?_⟩;push_cast[↓cP_,↓UZ_];exact q1 _ s
  ·refine .inl ⟨TD.t1,?_⟩;push_cast[↓cP_,↓UZ_];exact q1 _ s
  ·refine .inr ⟨TD.p1,.inl ⟨TD.p2,?_⟩⟩;push_cast[↓cO_,↓UZ_];exact q1 _ s
  ·refine .inr ⟨TD.r1,.inl ⟨TD.r2,?_⟩⟩;push_cast[↓cO_,↓UZ_];exact q1 _ s
 have good:∀ {ex:List Ch} {tks':List (AS × V)} {M':Hs} {H':Hp} {d:Nat} {l:Addr},ex.length=d->d<=15->X.at a H' (cs++ex) tks' M'->(∃ o,Hist X.m0 M'.b M'.as (HL tks') o)->M'.b=M.b->(∃ es,M'.as=es++M.as/\∀ x∈es,EB x.kind x.x)->SameBut (λx=>X.S.A.F x\/x=X.S.tk) H H'->H l=none->H' l=some (.lst (AW ((ag d).map (cs.length+·))))->Dn X tks M y z x cs.length kind tks' M'->UZ K a (λ_=>E) (λ_=>E) (BC Q) [some (.ref X.S.st),some (.int kind),some (.str y),some (.str z),some (.int x),some (.ref l)] H':=λ{ex tks' M' H' d l} h1 h2 I' h3 h4 h5 sb hl el hd=>by
  push_cast[↓UZ_];exact q d ex tks' M' l H' (I.more I' sb h3 h4 h5) h1 h2 hd sb hl el
 have noY:B7 y=false->False:=λh=>by rw[hy]at h;cases h
 have noZ:(B7 y && B7 z)=false->False:=λh=>by rw[hy,hz]at h;cases h
 push_cast[↓zA_];by_cases k1:kind<2
 ·refine FV (iB k1 rfl) ?_;push_cast[↓yS_];refine y2 ⟨ho,DA,x5 X cs tks M y ⟨rfl,T4,I.st,oA hy8 rfl,oA hcs rfl,λ_ hc rec cell er ec hr BM ex v H' hl hv0 HM I' sb=> ?_,λh=>(noY h).elim,λ_ ⟨k,hc⟩ H' s=>bad _ (.inr (.inl rfl)) H' s,λ_ hc h H' s=>bad _ (.inr (.inr (.inr rfl))) H' s⟩⟩;refine good hl (by decide) I' ?_ rfl ⟨[_,_,_],rfl,by simp[EB]⟩ sb hv0 HM (.make k1 hc er ec hr BM)
  have:=hi.make (z:=y) (nd:=(cs.length+1)::D2 tks y) BM (dC (ok0 BM) (OJ ec)) (dB hc) (Bx (kind:=1) (OJ er)) (by rw[len];simp) λj h=>χ _ (dA h);rw[<-len]at this;exact⟨_,this⟩
 refine E6 (λz=>k1 (lv.mp z)) ?_;push_cast[↓y8_];by_cases k2:kind=2
 ·subst k2;refine FV (by decide) ?_;push_cast[↓yT_];refine y2 ⟨ho,DA,x6 X cs tks M y z ⟨rfl,T4,I.st,oA hy8 rfl,oA hz8 rfl,oA hcs rfl,λ_ _ hc old rec cell eo hol e0=> ?_,λh=>(noZ h).elim,λ_ _ ⟨k,hc⟩ H' s=>bad _ (.inr (.inl rfl)) H' s,λ_ _ _ _ H' s=>bad _ (.inl rfl) H' s,λ_ _ _ _ _ H' s=>bad _ (.inr (.inr (.inr rfl))) H' s⟩⟩;refine u2 ?_ (rl hol e0);rintro m ps ⟨hr,e3⟩;refine⟨hr,x2 m ps ⟨e3,by have:=(I.ps e3).2;exact oA this rfl,λec BM ex v H' hl hv0 HM I' sb=>good hl (by decide) I' ?_ rfl ⟨[_,_],rfl,by simp[EB]⟩ sb hv0 HM (.link hc eo hol e0 e3 ec BM hr)⟩⟩
  have:=hi.link (z:=z) (nd:=cs.length::D2 tks z) BM (dC (ok0 BM) (OJ ec)) (dB hc) e3 (by rw[len];simp) λj h=>χ _ (dA h);exact⟨_,this⟩
 refine E6 (λz=>k2 (bc z)) ?_;push_cast[↓y7_];by_cases k3:kind=3
 ·subst k3;refine FV (by decide) ?_;push_cast[↓yU_];refine y2 ⟨ho,DA,x5 X cs tks M y ⟨rfl,T4,I.st,oA hcs rfl,λcell rec ec BM e0=> ?_,λhc H' s=>bad _ (.inl rfl) H' s⟩⟩;refine u2 ?_ (rl BM e0);rintro m ps ⟨hr,e3⟩;obtain⟨p1,p2⟩:=I.ps e3;refine⟨hr,x2 m ps ⟨e3,p1,oA p2 rfl,λhm ex v H' hl hv0 HM I' sb=>good hl (by decide) I' ?_ rfl ⟨[_,_],rfl,by simp[EB]⟩ sb hv0 HM (.cutOne ec BM e0 e3 hm hr),λhm ex v H' hl hv0 HM I' sb=>good hl (oE p2 rfl) I' ?_ ?_ ?_ sb hv0 HM (.cutAll ec BM e0 e3 hm hr p1 p2)⟩⟩
  ·obtain⟨m',rfl⟩:∃ m',m=m'+1:=⟨m - 1,by omega⟩
   have:=hi.unlead (nd:=[]) BM e0 e3;rw[<-len]at this;rw[OK];exact⟨_,this⟩
  ·have:=hi.dropped (nd:=[]) BM e0 e3 hm;rw[<-len]at this;rw[OK];refine⟨E4 o y cs.length,?_⟩
   show Hist X.m0 (Hs.unmark _ _ _).b (⟨1,rec,.mk 0,[cs.length+1]⟩::(Hs.unmark _ _ _).as) _ _;rw[OL.1,OL.2];exact this
  ·exact OL.2
  ·refine⟨⟨1,rec,.mk 0,[cs.length+1]⟩::((ps.map λp=>(⟨2,p,.mk 0,[cs.length+1]⟩:AC)).reverse++[⟨3,rec,.no,[cs.length]⟩,⟨0,cell,.no,[]⟩]),?_,λx hx=> ?_⟩
   ·show⟨1,rec,.mk 0,[cs.length+1]⟩::(Hs.unmark _ _ _).as=_;rw[OL.1];simp[Hs.put]
   ·simp only[ak,bh,En,cj,bz,or_false]at hx;rcases hx with rfl | ⟨p,_,rfl⟩ | rfl | rfl<;>simp[EB]
 refine E6 (λz=>k3 (bc z)) ?_;push_cast[↓yZ_];by_cases k4:kind<6
 ·refine FV (iB k4 rfl) ?_;push_cast[↓yV_];obtain⟨tok,tst,tl⟩:=zn3 x;refine y2 ⟨ho,DA,x,rfl,λH1 s1=> ?_⟩;refine x6 X cs tks M y (JY x) ⟨rfl,T4,I.st.same s1,by omega,tst,oA hcs rfl,λcell rec ec BM e0 _ p ep hp=> ?_,λhc H' s=>bad _ (.inl rfl) H' (s1.trans s),λ_ _ H' s=>bad _ (.inr (.inr (.inl rfl))) H' (s1.trans s),λ_ _ _ H' s=>bad _ (.inr (.inr (.inr rfl))) H' (s1.trans s)⟩;refine u2 ?_ (rl BM e0);rintro m ps ⟨hr,e3⟩
  have p2:=(I.ps e3).2;refine⟨hr,x2 m ps ⟨e3,oA p2 rfl,λex v H' hl hv0 HM I' sb=>good hl (by decide) I' ?_ rfl ⟨[_,_,_],rfl,by simp[EB]⟩ (λb o e n=>sb _ _ (s1 _ _ e) n) (s1.free hv0) HM (.put (by omega) ec BM e0 e3 ep hp hr p2)⟩⟩
  have:=hi.put (x:=JY x) (Bx (kind:=2) (OJ ep)) e3;rw[<-len]at this;exact⟨_,this⟩
 refine E6 (λz=>k4 (lv.mp z)) ?_;push_cast[↓yY_];by_cases k6:kind=6
 ·subst k6;refine FV (by decide) ?_;push_cast[↓yW_];refine y2 ⟨ho,DA,x,rfl,x6 X cs tks M y (UI x) ⟨rfl,T4,I.st,oA hcs rfl,λcell rec ec BM e0=> ?_,λhc H' s=>bad _ (.inl rfl) H' s⟩⟩;refine u2 ?_ (rl BM e0);rintro m ps ⟨hr,e3⟩;obtain⟨p1,p2⟩:=I.ps e3;refine⟨hr,x2 m ps ⟨e3,oA p2 rfl,λhx H' s=>bad _ (.inr (.inr (.inl rfl))) H' s,λk p ek ep=>⟨p1 p (π ep),λex v H' hl hv0 HM I' sb=>good hl (by decide) I' ?_ rfl ⟨[_,_],rfl,by simp[EB]⟩ sb hv0 HM (.take ec BM e0 e3 ek ep hr (p1 p (π ep)) p2)⟩⟩⟩
  have:=hi.take e3 ep;rw[<-len]at this;exact⟨_,this⟩
 refine E6 (λz=>k6 (bc z)) ?_
 have k7:kind=7:=by omega
 subst k7;push_cast[↓yX_];refine y2 ⟨ho,DA,x6 X cs tks M y z ⟨rfl,T4,I.st,oA hy8 rfl,oA hz8 rfl,hcs,λ_ _ hc old rec cell eo hol e0=> ?_,λh=>(noZ h).elim,λ_ _ ⟨k,hc⟩ H' s=>bad _ (.inr (.inl rfl)) H' s,λ_ _ _ _ H' s=>bad _ (.inl rfl) H' s,λ_ _ _ _ _ H' s=>bad _ (.inr (.inr (.inr rfl))) H' s⟩⟩;refine u2 ?_ (rl hol e0);rintro m ps ⟨hr,e3⟩;refine⟨hr,x2 m ps ⟨e3,by have:=(I.ps e3).2;exact oA this rfl,λec BM ex v H' hl hv0 HM I' sb=>good hl (by decide) I' ?_ rfl ⟨[_,_,_,_],rfl,by simp[EB]⟩ sb hv0 HM (.move hc eo hol e0 e3 ec BM hr)⟩⟩
 have f0:=dC (ok0 BM) (OJ ec)
 have noc:old≠cell:=λe=>by rw[e,f0]at e0;cases e0
 have l1:=hi.link (z:=z) (nd:=cs.length::D2 tks z) BM f0 (dB hc) e3 (by rw[len];simp) λj h=>χ _ (dA h)
 have l2:=l1.unlead (z:=y) (nd:=[cs.length+1]) (m:=m) (ps:=ps) hol (by rw[E3,EM noc,E3,FC (by simp)];exact e0) (by rw[E3,FC (by simp),E3,DI])
 have l3:(⟨0,cell,.nm z rec,cs.length::D2 tks z⟩::⟨3,rec,.rc (m+1) ps,[]⟩::M.as:List AC).length=cs.length+2:=by rw[len];rfl
 rw[l3]at l2;rw[OK];exact⟨_,l2⟩
def zn7{cs:List Ch}{O:Int->Bool}{b j:Nat}{row:List V}(hn:ES cs (b:Nat) (j:Nat)=none):(FQ cs O b row)[j]? =row[j]? :=by
 rw[zcu,nA];cases el:JU cs ((DD cs b).filter λ(k:Nat)=>O k) j with
 | none=>simp
 | some c =>
  exfalso;obtain⟨k,hk,ec,ecell,_⟩:=nD el;obtain⟨c',ec',eb⟩:=X6.mp (tq.mp hk).1;rw[ec]at ec';cases ec';refine u2 ?_ (YA ec);rintro j0 c0 ⟨hn0,_⟩;rw[eb,ecell,hn]at hn0;cases hn0
def zn8{cs:List Ch}{O:Int->Bool}{b:Nat}{row:List V}{v:V}(h:v∈FQ cs O b row):v∈row\/∃ c∈cs,v=c.val:=by
 unfold FQ at h;revert h;generalize DD cs b=l
 induction l generalizing row with
 | nil=>exact .inl
 | cons k l ih =>
  intro h;rw[fe]at h;rcases ih h with h | h
  ·unfold G3 at h;split at h
   ·split at h
    ·rename_i c ec;rcases mh h with h | h
     ·exact .inl h
     ·exact .inr ⟨c,π ec,h⟩
    ·exact .inl h
   ·exact .inl h
  ·exact .inr h
def zn9:Y3 K a vs H Q E->bK K a (λ_=>E) (BC Q) (start ["",""] vs) H:=by
 apply u6;rintro X cs tks M b row ⟨rfl,⟨T,TP,TL,TS⟩,I,er,q⟩;obtain⟨dx,ho⟩:=I.ob;obtain⟨db,eb⟩:=I.bk.bk.ob;obtain⟨dp,ep⟩:=I.bk.pk.ob
 have hb:=(ι.mp er).1;push_cast[bK,↓uD_];refine y3 ⟨ho,TS.cl,TS.n2,_,JF,y2 ⟨eb,EA,x7 X.S.A X.w X.rows X.nn cs X.outs b ⟨rfl,T,TP,I.bk,λb' row' t ol hl H' eb' er' _ _ _ told B' sb=> ?_,λz=>by omega⟩⟩⟩;obtain rfl:b=b':=bc eb';rw[er]at er';cases er'
 have lo:∀ x,X.S.A.F x->FB (H x):=λx hx=>I.bk.loose hx
 have tk:CG H H':=λy ys e=>sb _ _ e λz=>z.elim (λz=>(lo _ z).1 _ e) λz=>by rw[z,ep]at e;cases e
 obtain⟨⟨dx,e1⟩,e2,e3,e4,e5,e6,e7,e8,e9,e10,e11,e12⟩:=I;obtain⟨dl,el⟩:=e2.ob;refine q t ol hl H' told ⟨⟨dx,sb _ _ e1 λz=>z.elim (λz=>(lo _ z).2 _ _ _ e1) λz=> ?_⟩,e2.sb sb λz=>z.elim (λz=>(lo _ z).2 _ _ _ el) λz=> ?_,B',sb _ _ e4 λz=>z.elim e7 λz=> ?_,e5,e6,e7,⟨e8.1,e8.2.1,e8.2.2.1,e8.2.2.2.1,by show(X.rows.set b _).length=X.n+X.r+X.c+X.r+X.c;rw[fq];exact e8.2.2.2.2⟩,⟨λq hq v hv=> ?_,(e9.keep tk).2⟩,λkind k v h1 hk hv=> ?_,e11,e12.keep tk⟩ sb
 ·rw[show X.S.st=X.S.A.gp from z,ep]at e1;injection e1 with e1
  injection e1 with _ _ e1
  have:=congrArg (·.lookup ("plan":Str)) e1;simp only[JE]at this;rw[N6 _ _ _ (by decide +kernel) (by decide +kernel) (by decide +kernel)]at this;cases this
 ·rw[show X.S.lp=X.S.A.gp from z,ep]at el;injection el with el
  injection el with _ _ el
  exact absurd (congrArg vj el) (by simp[pf,lf])
 ·rw[show X.S.tk=X.S.A.gp from z,ep]at e4;cases e4
 ·have g:=e9.keep tk;rcases mh hq with hq | hq
  ·exact g.1 q hq v hv
  ·rw[hq]at hv;rcases zn8 hv with hv | ⟨c,hc,rfl⟩
   ·exact g.1 row (π er) v hv
   ·exact g.2 c hc
 ·have hv:FI cs (X.rows.set b (FQ cs (FH cs X.outs b) b row)) (AY X.n X.r X.c X.w kind k:Nat) (k % X.w:Nat)=some v:=hv;refine(e10 kind k v h1 hk ?_).keep tk;rw[<-hv];unfold FI;cases en:ES cs (AY X.n X.r X.c X.w kind k:Nat) (k % X.w:Nat)with
  | some j=>rfl
  | none =>
   show(X.rows[((AY X.n X.r X.c X.w kind k:Nat):Int).toNat]?).bind _=((X.rows.set b _)[((AY X.n X.r X.c X.w kind k:Nat):Int).toNat]?).bind _;rw[ai];by_cases e:AY X.n X.r X.c X.w kind k=b
   ·rw[e]at en ⊢;rw[er,fh hb]
    show row[_]? =(FQ cs _ b row)[_]?;rw[ai,zn7 en]
   ·rw[gu (λz=>e z.symm)]
def C45.write{X:SX}{cs:List Ch}{tks:List (AS × V)}{M:Hs}{b:Nat}{row:List V}{H':Hp}(I:C45 a H X cs tks M)(er:X.rows[b]? =some row)(I':(X.wr cs b row).at a H' cs tks M)(sb:SameBut (λx=>X.S.A.F x\/x=X.S.A.gp) H H'):C45 a H' (X.wr cs b row) cs tks M:=by
 obtain⟨dp,ep⟩:=I.st.bk.pk.ob
 have tk:CG H H':=λy ys e=>sb _ _ e λz=>z.elim (λz=>(I.st.bk.loose z).1 _ e) λz=>by rw[z,ep]at e;cases e
 exact⟨I',I.hi,I.b0,zcx I.cut b,(I.rows.write I.st.la er).keep tk,I.few,I.ok⟩
section
variable{B:Addr->Prop}{hd la rw:Addr}{n r c w:Nat}{M:Hs}
def LaidL.keep{rs:List Addr}{as:List AC}{H':Hp}(L:LaidL n r c w B H rs as)(tk:CG H H')(s:∀ x (xs:List V),H x=some (.lst xs)->¬ B x->H' x=some (.lst xs)):LaidL n r c w B H' rs as:=by
 induction L with
 | nil=>exact .nil
 | snoc _ e1 e2 e3 e4 e5 e6 e7 e8 e9 ih=>exact ih.snoc (tk _ _ e1) (tk _ _ e2) (e3.keep tk) (s _ _ e4 e5) e5 e6 e7 e8 e9
def LaidL.set{B':Addr->Prop}{rs:List Addr}{as:List AC}(L:LaidL n r c w B H rs as)(h:∀ x (xs:List V),H x=some (.lst xs)->¬ B x->¬ B' x):LaidL n r c w B' H rs as:=by
 induction L with
 | nil=>exact .nil
 | snoc _ e1 e2 e3 e4 e5 e6 e7 e8 e9 ih=>exact ih.snoc e1 e2 e3 e4 (h _ _ e4 e5) e6 e7 e8 e9
def LaidL.len{rs:List Addr}{as:List AC}(L:LaidL n r c w B H rs as):rs.length=as.length:=by
 induction L with
 | nil=>rfl
 | snoc _ _ _ _ _ _ _ _ _ _ ih=>rw[aj,ih];rfl
def LM.keep{H':Hp}(I:LM B H hd la rw n r c w M)(tk:CG H H')(s:∀ x (xs:List V),H x=some (.lst xs)->¬ B x->H' x=some (.lst xs))(h1:∀ o,H hd=some o->H' hd=some o)(h2:∀ o,H la=some o->H' la=some o)(h3:∀ o,H rw=some o->H' rw=some o):LM B H' hd la rw n r c w M:=by
 obtain⟨⟨kh,e1,e2,e3⟩,⟨kl,e4,e5,e6⟩,⟨rs,e7,e8⟩,b0,ap,nb,ok⟩:=I;refine⟨⟨kh,h1 _ e1,e2,λkind k a b=>(e3 kind k a b).imp id λ⟨v,p1,p2,p3⟩=>⟨v,p1,p2.keep tk,p3⟩⟩,⟨kl,h2 _ e4,e5,e6⟩,⟨rs,h3 _ e7,e8.keep tk s⟩,b0,ap,nb,ok⟩
def LM.same{H':Hp}(I:LM B H hd la rw n r c w M)(s:Same H H'):LM B H' hd la rw n r c w M:=I.keep s.tk (λ_ _ e _=>s _ _ e) (λ_ e=>s _ _ e) (λ_ e=>s _ _ e) λ_ e=>s _ _ e
def By{kind k i j:Nat}{x:CV}{nd:List Nat}:ET i j (M.put kind k x nd).as=if i=kind/\j=k then some M.as.length else ET i j M.as:=by
 show(if kind=i/\k=j then some M.as.length else ET i j M.as)=_;by_cases e:i=kind/\j=k
 ·rw[if_pos ⟨e.1.symm,e.2.symm⟩,if_pos e]
 ·rw[if_neg λz=>e ⟨z.1.symm,z.2.symm⟩,if_neg e]
def Bz{M0:Md}{kind k:Nat}:∀ {as:List AC},ET kind k as=none->C2 M0 as kind k=M0 kind k
 | [],_=>rfl
 | a::as,h=>by
  unfold ET at h;by_cases e:a.kind=kind/\a.k=k
  ·rw[if_pos e]at h;cases h
  ·rw[if_neg e]at h;rw[E3];unfold Md.put;rw[if_neg λz=>e ⟨z.1.symm,z.2.symm⟩];exact Bz h
def dD{kind k kind' k':Nat}(h1:kind<5)(h2:kind'<5)(hk:k<AT n r c w kind)(hk':k'<AT n r c w kind')(e:pK n r c w kind' k'=pK n r c w kind k):kind'=kind/\k'=k:=by
 simp only[Fu,Sum.inl.injEq,and_true]at e;exact U4 h2 h1 hk' hk (bc e.1) (bc e.2)
def LM.put{H':Hp}{kh kl:List (List AS × V)}{rs:List Addr}{kind k:Nat}{x:CV}{v:V}{nd:List Nat}{t pl nl:Addr}{nds:List Int}(I:LM B H hd la rw n r c w M)(ekh:H hd=some (.dT kh))(ekl:H la=some (.dT kl))(ers:H rw=some (.lst (rs.map V.ref)))(h1:kind<5)(hk:k<AT n r c w kind)(ox:EB kind x)
  (tk:CG H H') (s:∀ x (xs:List V),H x=some (.lst xs)->¬ B x->H' x=some (.lst xs)) (rx:RepC H' x v) (e1:H' hd=some (.dT (BY kh (pK n r c w kind k) v))) (e2:H' la=some (.dT (BY kl (pK n r c w kind k) (.int M.as.length)))) (e3:H' rw=some (.lst (rs.map V.ref++[.ref t])))
  (et:H' t=some (.tup [.ref pl,v,.ref nl])) (ep:H' pl=some (.tup [.int (AY n r c w kind k:Nat),.int (k % w:Nat)])) (en:H' nl=some (.lst (nds.map V.int))) (nB:¬ B nl) (ps:nds.Pairwise (· <·)) (hn:∀ y:Int,y∈nds↔(∃ j∈nd,y=(j:Nat))\/∃ j:Nat,ET kind k M.as=some j/\y=j):LM B H' hd la rw n r c w (M.put kind k x nd):=by
 obtain⟨⟨kh',f1,f2,f3⟩,⟨kl',f4,f5,f6⟩,⟨rs',f7,f8⟩,b0,ap,nb,ok⟩:=I;rw[ekh]at f1;cases f1;rw[ekl]at f4;cases f4
 have:rs'=rs:=by
  rw[ers]at f7
  have:=HO.lst.inj (cm f7);exact(n_ λa b h=>V.ref.inj h).mp this.symm
 subst this
 have len:(M.put kind k x nd).as.length=M.as.length+1:=rfl;refine⟨⟨_,e1,υ (KL ..) (l8 f2),λi j hi hj=> ?_⟩,⟨_,e2,υ (KL ..) (l8 f5),λi j hi hj=> ?_⟩,⟨rs'++[t],by rw[e3,bo];rfl,?_⟩,b0,ap,nb,λi j hi hj=> ?_⟩
 ·rw[By,KK,Hs.put_at];by_cases e:i=kind/\j=k
  ·rw[if_pos e,if_pos (by rw[e.1,e.2]),if_pos e];exact .inr ⟨v,rfl,rx,by simp⟩
  ·rw[if_neg e,if_neg λz=>e (dD h1 hi hk hj z),if_neg e];exact(f3 i j hi hj).imp id λ⟨v,p1,p2,p3⟩=>⟨v,p1,p2.keep tk,p3⟩
 ·rw[By,KK];by_cases e:i=kind/\j=k
  ·rw[if_pos e,if_pos (by rw[e.1,e.2])];rfl
  ·rw[if_neg e,if_neg λz=>e (dD h1 hi hk hj z)];exact f6 i j hi hj
 ·exact LaidL.snoc (x:=⟨kind,k,x,nd⟩) (f8.keep tk s) et ep rx en nB ps hn h1 hk
 ·rw[Hs.put_at];by_cases e:i=kind/\j=k
  ·rw[if_pos e,e.1];exact ox
  ·rw[if_neg e];exact ok i j hi hj
end
def zoa:FS K a vs H Q E->aB K a (λ_=>E) (BC Q) (start ["","","","","",""] vs) H:=by
 apply NG;rintro B hd la rw pl nl n r c w kind k M x ⟨v,ns,rfl,I,h1,hk,ox,ep,rx,en,hns,hns0,hM,hB,q⟩;obtain⟨kh,ekh,lkh,hkh⟩:=I.hn;obtain⟨kl,ekl,lkl,IG⟩:=I.ls;obtain⟨rs,ers,L⟩:=I.rs
 have hl:=IG kind k h1 hk
 have lrs:=L.len
 have tail:∀ (nl1:Addr) (ns1:List Int) (H1:Hp),Same H H1->H1 nl1=some (.lst (ns1.map V.int))->ns1.length<=61->(∀ y:Int,y∈ns1↔y∈ns\/∃ j:Nat,ET kind k M.as=some j/\y=j)->AH (Z7 K a (λ_=>E) λ_=>E) (AH (Z8 K a (λ_=>E) λ_=>E) (AH (Z9 K a (λ_=>E) λ_=>E) (aA K a (λ_=>E) λ_=>E))) (BC Q) [some (.ref hd),some (.ref la),some (.ref rw),some (.ref pl),some v,some (.ref nl1)] H1:=λnl1 ns1 H1 s1 en1 l1 m1=>by
  push_cast[↓Z7_];refine⟨_,.inl ⟨_,SqL.of (s1 _ _ ers),rfl⟩,_,DPut.t (k:=pK n r c w kind k) (s1 _ _ ekl) (s1 _ _ ep) (τ (show kl.length<1000 by exact oC (υ lkl hM) rfl) (by decide)),?_⟩;rw[ν,lrs];push_cast[↓Z8_]
  have nlr:la≠rw:=A0 ekl ers (by intro z;cases z)
  have nhr:hd≠rw:=A0 ekh ers (by intro z;cases z)
  have g2:∀ {y:Addr} {o:HO},H1 y=some o->y≠la->upd H1 la (.dT (BY kl (pK n r c w kind k) (.int M.as.length))) y=some o:=λe z=>by rw[AO z];exact e
  have gl:upd H1 la (.dT (BY kl (pK n r c w kind k) (.int M.as.length))) la=some (.dT (BY kl (pK n r c w kind k) (.int M.as.length))):=AF;revert g2 gl;generalize upd H1 la (.dT (BY kl (pK n r c w kind k) (.int M.as.length)))=H2;intro g2 gl
  have enl:nl1≠la:=A0 en1 (s1 _ _ ekl) (by intro z;cases z);refine⟨.inl ⟨rfl,_,SqL.of (g2 (s1 _ _ ers) nlr.symm)⟩,ns1,SqL.of (g2 en1 enl),oC l1 rfl,λa1 o D ks ha1 hD hp hm _=>⟨by decide,λt ht=> ?_⟩⟩
  have s3:=(AL (o:=o) ha1).trans (AL (o:=.lst (ks.map V.int)) hD)
  have eD:upd (upd H2 a1 o) D (.lst (ks.map V.int)) D=some (.lst (ks.map V.int)):=AF
  have hD2:H2 D=none:=(AL (o:=o) ha1).free hD;revert s3 eD ht;generalize upd (upd H2 a1 o) D (.lst (ks.map V.int))=H3;intro ht s3 eD
  have s4:=AL (o:=.tup [.ref pl,v,.ref D]) ht
  have et:upd H3 t (.tup [.ref pl,v,.ref D]) t=some (.tup [.ref pl,v,.ref D]):=AF;revert s4 et;generalize upd H3 t (.tup [.ref pl,v,.ref D])=H4;intro s4 et
  have s24:=s3.trans s4
  have ers4:=s24 _ _ (g2 (s1 _ _ ers) nlr.symm)
  have ekh4:=s24 _ _ (g2 (s1 _ _ ekh) I.ap)
  have ep4:=s24 _ _ (g2 (s1 _ _ ep) (A0 ep ekl (by intro z;cases z)));refine⟨_,ers4,C4 _ (by rw[ν];exact oC (υ (bn lrs) hM) rfl),?_⟩
  have g5:∀ {y:Addr} {o:HO},H4 y=some o->y≠rw->upd H4 rw (.lst (rs.map V.ref++[.ref t])) y=some o:=λe z=>by rw[AO z];exact e
  have er5:upd H4 rw (.lst (rs.map V.ref++[.ref t])) rw=some (.lst (rs.map V.ref++[.ref t])):=AF;revert g5 er5;generalize upd H4 rw (.lst (rs.map V.ref++[.ref t]))=H5;intro g5 er5
  have tne:∀ {y:Addr} {ys:List V},H4 y=some (.tup ys)->y≠rw/\y≠hd:=λe=>⟨A0 e ers4 (by intro z;cases z),A0 e ekh4 (by intro z;cases z)⟩
  push_cast[↓Z9_];refine⟨_,DPut.t (k:=pK n r c w kind k) (g5 ekh4 nhr) (g5 ep4 (tne ep4).1) (τ (show kh.length<1000 by exact oC (υ lkh hM) rfl) (by decide)),?_⟩
  have g6:∀ {y:Addr} {o:HO},H5 y=some o->y≠hd->upd H5 hd (.dT (BY kh (pK n r c w kind k) v)) y=some o:=λe z=>by rw[AO z];exact e
  have eh6:upd H5 hd (.dT (BY kh (pK n r c w kind k) v)) hd=some (.dT (BY kh (pK n r c w kind k) v)):=AF;revert g6 eh6;generalize upd H5 hd (.dT (BY kh (pK n r c w kind k) v))=H6;intro g6 eh6
  have far:∀ {y:Addr} {o:HO},H y=some o->y≠la->y≠rw->y≠hd->H6 y=some o:=λe z1 z2 z3=>g6 (g5 (s24 _ _ (g2 (s1 _ _ e) z1)) z2) z3
  have far4:∀ {y:Addr} {ys:List V},H4 y=some (.tup ys)->H6 y=some (.tup ys):=λe=>g6 (g5 e (tne e).1) (tne e).2
  have el6:=g6 (g5 (s24 _ _ gl) nlr) I.ap.symm
  have ep6:=far4 ep4
  have tk:CG H H6:=λy ys e=>far e (A0 e ekl (by intro z;cases z)) (A0 e ers (by intro z;cases z)) (A0 e ekh (by intro z;cases z))
  have sl:∀ y (xs:List V),H y=some (.lst xs)->¬ B y->H6 y=some (.lst xs):=λy xs e nb=>far e (A0 e ekl (by intro z;cases z)) (λz=>nb (z ▸ I.nb.2.2)) (A0 e ekh (by intro z;cases z))
  have hDH:H D=none:=by
   cases e:H D with
   | none=>rfl
   | some o =>
    by_cases z:D=la
    ·rw[z,gl]at hD2;cases hD2
    ·rw[g2 (s1 _ _ e) z]at hD2;cases hD2
  have dne:D≠rw/\D≠hd:=⟨λz=>(by rw[z,ers]at hDH;cases hDH),λz=>(by rw[z,ekh]at hDH;cases hDH)⟩
  push_cast[↓aA_];refine⟨_,PY el6 ep6 (by rw[KK,if_pos rfl]),q H6 (I.put ekh ekl ers h1 hk ox tk sl (rx.keep tk) eh6 el6 (g6 er5 nhr.symm) (far4 et) ep6 (g6 (g5 (s4 _ _ eD) dne.1) dne.2) (hB D hDH) hp λy=> ?_) λy o e nf=>far e (λz=>nf (.inr (.inl z))) (λz=>nf (.inr (.inr z))) λz=>nf (.inl z)⟩;rw[hm,m1];refine or_congr ⟨λh=>⟨y.toNat,cj.mpr ⟨y,h,rfl⟩,by have:=hns0 y h;exact(c_ this).symm⟩,λhzz=> ?_⟩ Kr;obtain⟨j,hj,ej⟩:=hzz;obtain⟨y',hy',rfl⟩:=cj.mp hj
  have:=hns0 y' hy'
  have:y=y':=by omega
  rw[this];exact hy'
 push_cast[aB,↓rC_];refine⟨_,MR ekl ep,?_⟩;rw[show BT kl [.inl ((AY n r c w kind k:Nat):Int),.inl ((k % w:Nat):Int)]=_ from hl];cases el:ET kind k M.as with
 | none =>
  refine E6 (by simp) ?_;exact tail nl ns H (Same.refl _) en (av hns) λy=>by rw[el];simp
 | some j =>
  refine FV (by simp) ?_;push_cast[↓rB_];refine⟨.int j,PY ekl ep (by rw[show BT kl [.inl ((AY n r c w kind k:Nat):Int),.inl ((k % w:Nat):Int)]=_ from hl,el];rfl),by decide,λp hp=>.inl (x4 nl p (ns.map V.int) [.int j] ⟨rfl,rfl,(AL hp) _ _ en,AF,C4 _ (by rw[ν];simp;exact oA hns rfl),λl2 K9=> ?_⟩)⟩
  have e2:ns.map V.int++[V.int (j:Int)]=(ns++[(j:Int)]).map V.int:=by rw[bo];rfl
  rw[e2];exact tail l2 (ns++[(j:Int)]) _ ((AL hp).trans (AL K9)) AF (by rw[aj];simp;exact hns) λy=>by
   rw[el,bh];simp
def LM.get{B:Addr->Prop}{hd la rw:Addr}{n r c w kind k:Nat}{M:Hs}(I:LM B H hd la rw n r c w M)(h1:kind<5)(hk:k<AT n r c w kind):∃ kh,H hd=some (.dT kh)/\RepC H (M kind k) ((BT kh (pK n r c w kind k)).getD .non)/\(M kind k≠.no->∃ v,BT kh (pK n r c w kind k)=some v/\RepC H (M kind k) v):=by
 obtain⟨kh,e,_,h⟩:=I.hn;refine⟨kh,e,?_⟩;rcases h kind k h1 hk with⟨h2,h3⟩ | ⟨v,h2,h3,_⟩
 ·have h4:M kind k=.no:=by
   show C2 M.b M.as kind k=.no;rw[Bz h2,I.b0]
  rw[h3,h4];exact⟨rfl,λz=>absurd rfl z⟩
 ·rw[h2];exact⟨h3,λ_=>⟨v,rfl,h3⟩⟩
def zob{f:Nat->Bool}{m k:Nat}(hk:k<m)(h:f k=true)(hl:∀ j<k,f j=false):EU f m=k:=by
 unfold EU
 have:(ag m).find? f=some k:=by
  rw[List.find?_eq_some_iff_getElem];refine⟨h,k,by simpa using hk,by simp,λj hj=> ?_⟩;rw[List.getElem_range,hl j hj];rfl
 rw[this]
def zoc{f:Nat->Bool}{m:Nat}(hl:∀ j<m,f j=false):EU f m= -1:=by
 unfold EU
 have:(ag m).find? f=none:=jb.mpr λj hj=>by rw[hl j (bp.mp hj)];exact ψ
 rw[this]
def zod:QT K a vs H Q E->Z6 K a (λ_=>E) (BC Q) (start ["","","","",""] vs) H:=by
 apply OV;rintro B hd la rw p n r c w kind M ⟨rfl,I,h3,⟨ts,ep,lt,hts⟩,hm,q⟩;push_cast[Z6,↓rA_];refine⟨i0,by omega,?_⟩;refine MP (λi σ H'=>(H'=H/\∀ j<i,EV kind (M kind j)=false)/\∃ y4,σ=[some (.int (AT n r c w kind:Nat)),some (.ref hd),some (.ref p),some (.bl (decide (0<kind))),y4]) ⟨⟨rfl,λj hj=>nZ hj⟩,_,rfl⟩ (λi σ H' hi ⟨⟨e,hf⟩,y4,es⟩=> ?_) (λσ H' ⟨⟨e,hf⟩,y4,es⟩=> ?_)
 ·subst e es
  have et:=ζ (show i<ts.length by exact lt ▸ hi)
  have ept:=hts i _ et;obtain⟨kh,ekh,rv,_⟩:=I.get (kind:=kind) (oA h3 rfl) hi
  have ok:=I.ok kind i (oA h3 rfl) hi
  have ixp:∀ {Q':VK},Q' (.ref (ts[i]'(lt ▸ hi))) H'->CB K (.ref p) (.int (i:Nat)) H' Q':=λh=>D5 (n:=i) (SqL.of ep) rfl (by rw[ρ,et];rfl) h
  have stop:∀ b:Bool,b=false->EV kind (M kind i)=b->∀ j<i+1,EV kind (M kind j)=false:=λb hb h j hj=>by
   by_cases z:j=i
   ·rw[z,h,hb]
   ·exact hf j (gj (cy hj) z)
  push_cast[↓qZ_,pq];refine⟨.inr ⟨_,.inl ekh⟩,ixp ⟨_,MR ekh ept,?_⟩⟩;revert rv;generalize hv:(BT kh [.inl ((AY n r c w kind i:Nat):Int),.inl ((i % w:Nat):Int)]).getD .non=v;intro rv
  have fnd:EV kind (M kind i)=true->Z4 K a (λ_=>E) (λ_=>E) { nx:=λσ H'_1=>H'_1=H'/\(∀ (j:Nat),j<i+1->EV kind (M.f kind j)=false)/\∃ y4,σ=[some (V.int (AT n r c w kind:Nat)),some (V.ref hd),some (V.ref p),some (V.bl (decide (0<kind))),y4],rt:=Q,bk:=Z5 K a (λ_=>E) (λ_=>E) (BC Q),ct:=λσ H'_1=>H'_1=H'/\(∀ (j:Nat),j<i+1->EV kind (M.f kind j)=false)/\∃ y4,σ=[some (V.int (AT n r c w kind:Nat)),some (V.ref hd),some (V.ref p),some (V.bl (decide (0<kind))),y4] } [some (V.int (AT n r c w kind:Nat)),some (V.ref hd),some (V.ref p),some (V.bl (decide (0<kind))),some (V.int (i:Nat))] H':=λh=>by
   push_cast[↓Z4_];rw[show EG M kind (AT n r c w kind)=i from zob hi h hf]at q;exact q
  cases eM:M kind i with
  | no =>
   rw[eM]at rv;exact FV rv (fnd (by rw[eM];rfl))
  | nm z rec =>
   rw[eM]at rv ok;obtain⟨t0,rfl,_⟩:=rv
   have k0:kind=0:=by
    rcases(show kind=0\/kind=1\/kind=2 by exact c3 h3)with h | h | h
    ·exact h
    ·rw[h]at ok;exact ok.elim
    ·rw[h]at ok;exact ok.elim
   exact E6 (by simp) (E6 (k0.symm ▸ by decide) ⟨rfl,stop _ rfl (by rw[eM];rfl)⟩)
  | mk i0 =>
   rw[eM]at rv ok
   have k0:0<kind:=by
    rcases(show kind=0\/0<kind by omega)with h | h
    ·rw[h]at ok;exact ok.elim
    ·exact h
   have rv:v=.int i0:=rv;refine E6 (by rw[rv];simp) (FV k0 ⟨.inr ⟨_,.inl ekh⟩,ixp ⟨_,MR ekh ept,?_⟩⟩);rw[hv,rv];push_cast[];by_cases z:i0=0
   ·exact FV (congrArg _ z) (fnd (by rw[eM];simp[EV,k0,z]))
   ·exact E6 (by omega) (stop _ rfl (by rw[eM];simp[EV,z]))
  | rc m ps =>
   rw[eM]at ok;rcases(show kind=0\/kind=1\/kind=2 by exact c3 h3)with h | h | h<;>(rw[h]at ok;exact ok.elim)
  | tx z =>
   rw[eM]at ok;rcases(show kind=0\/kind=1\/kind=2 by exact c3 h3)with h | h | h<;>(rw[h]at ok;exact ok.elim)
 ·subst e es;push_cast[↓Z5_];rw[show EG M kind (AT n r c w kind)= -1 from zoc hf]at q;exact q
def zoe:UM K a vs H Q E->bC K a (λ_=>E) (BC Q) (start ["","","","",""] vs) H:=by
 apply OV;rintro B ly hd la rw n r c w M z ⟨rfl,TL,L,I,hm,q⟩;obtain⟨dl,el⟩:=L.ob;push_cast[bC,↓tD_];refine y2 ⟨el,CC,x5 ly n r c w ⟨rfl,TL,L,λt ht=> ?_⟩⟩
 have s2:=AL (o:=.tup [V.int ((n:Int) * w),V.int ((r:Int) * w),V.int ((c:Int) * w)]) ht;refine CU AF (n:=0) rfl rfl ?_;revert s2;generalize upd H t (.tup [V.int ((n:Int) * w),V.int ((r:Int) * w),V.int ((c:Int) * w)])=H2;intro s2
 have em:(n:Int) * w=(n * w:Nat):=by simp
 rw[em];push_cast[];refine⟨i0,by omega,?_⟩;refine MP (λi σ H'=>(Same H H'/\∀ j<i,(FR M j).any (λp=>decide (p.1=z))=false)/\∃ y3 y4,σ=[some (.ref ly),some (.ref hd),some (.str z),y3,y4]) ⟨⟨s2,λj hj=>nZ hj⟩,x2 _ _ rfl⟩ (λi σ H' hi ⟨⟨s,hf⟩,y3,y4,es⟩=> ?_) (λσ H' ⟨⟨s,hf⟩,y3,y4,es⟩=> ?_)
 ·subst es
  have hm0:i<AT n r c w 0:=by simpa [AT]using hi
  push_cast[↓sX_,pq];obtain⟨kh,ekh,_⟩:=(I.same s).get (kind:=0) (by decide) hm0;refine⟨.inr ⟨_,.inl ekh⟩,y2 ⟨s _ _ el,CC,U5 TL (L.same s) λu hu=> ?_⟩⟩
  have su:=AL (o:=.tup [.int (0+(i:Int) / w),.int ((i:Int) % w)]) hu
  have eu:upd H' u (.tup [.int (0+(i:Int) / w),.int ((i:Int) % w)]) u=some (.tup [.int (AY n r c w 0 i:Nat),.int (i % w:Nat)]):=by rw[AF];simp[AY]
  revert su eu;generalize upd H' u (.tup [.int (0+(i:Int) / w),.int ((i:Int) % w)])=H3;intro su eu
  have s3:=s.trans su;obtain⟨kh',ekh',rv,_⟩:=(I.same s3).get (kind:=0) (by decide) hm0;refine⟨_,MR ekh' eu,?_⟩;revert rv;generalize (BT kh' [.inl ((AY n r c w 0 i:Nat):Int),.inl ((i % w:Nat):Int)]).getD .non=v;intro rv
  have ok:=I.ok 0 i (by decide) hm0
  have next:(FR M i).any (λp=>decide (p.1=z))=false->∀ j<i+1,(FR M j).any (λp=>decide (p.1=z))=false:=λh j hj=>by
   by_cases c:j=i
   ·rw[c];exact h
   ·exact hf j (gj (cy hj) c)
  push_cast[↓sZ_];cases eM:M 0 i with
  | no =>
   rw[eM]at rv;rw[show v=.non from rv];push_cast[];exact⟨s3,next (by unfold FR;rw[eM];rfl)⟩
  | nm z' rec =>
   rw[eM]at rv;obtain⟨t0,rfl,F5⟩:=rv;rw[if_pos (by simp)];refine CU F5 (n:=0) rfl rfl ?_;push_cast[]
   have en:FR M i=some (z',rec):=by unfold FR;rw[eM]
   by_cases c:z'=z
   ·refine FV c ?_;push_cast[↓sY_]
    have:=Az (M:=M) (z:=z) hi (by rw[en];simp[c]) hf
    have e:K4 M (n * w) z=i:=by unfold K4;rw[this]
    rw[e]at q;exact q _ s3
   ·exact E6 c ⟨s3,next (by rw[en];simp[c])⟩
  | _=>rw[eM]at ok;exact ok.elim
 ·subst es;push_cast[↓tE_]
  have:=Bb (M:=M) (z:=z) hf
  have e:K4 M (n * w) z= -1:=by unfold K4;rw[this]
  rw[e]at q;exact q _ s
def TkL.same{td:Addr}{tks:List (AS × V)}{N:Nat}{H':Hp}(h:TkL H td tks N)(s:Same H H'):TkL H' td tks N:=by
 obtain⟨kt,e,h⟩:=h;exact⟨kt,s _ _ e,h⟩
def dE{tks:List (AS × V)}{z:Str}:D2 tks z=(HL tks z).toList:=by
 unfold HL D2;split<;>rfl
def zof:QU K a vs H Q E->bE K a (λ_=>E) (BC Q) (start ["","","","","","","","","","",""] vs) H:=by
 apply NG;rintro B ly hd la rw td n r c w rec need cell M ⟨tks,z,rfl,TL,L,I,⟨kt,ekt,lkt,hkt⟩,hm,ecell,hc,hM,hB,q⟩;obtain⟨dl,el⟩:=L.ob
 have ekm:AT n r c w 0=n * w:=by simp[AT]
 push_cast[bE,↓tF_];refine y2 ⟨el,CC,x5 ly n r c w ⟨rfl,TL,L,λt ht=> ?_⟩⟩
 have s1:=AL (o:=.tup [V.int ((n:Int) * w),V.int ((r:Int) * w),V.int ((c:Int) * w)]) ht;refine CU AF (n:=0) rfl rfl ?_;revert s1;generalize upd H t (.tup [V.int ((n:Int) * w),V.int ((r:Int) * w),V.int ((c:Int) * w)])=H1;intro s1
 have em:(n:Int) * w=(AT n r c w 0:Nat):=by unfold AT;simp
 rw[em];push_cast[];refine⟨i0,by omega,OH (B:=λk=>(AY n r c w 0 k:Nat)) (w:=w) (hm) (λi H' Q' hi s' q'=> ?_) λts H' l hts s' htt ED=> ?_⟩
 ·push_cast[D8];refine y2 ⟨s' _ _ (s1 _ _ el),CC,x6 ly n r c w i ⟨(by simp),TL,(L.same s1).same s',?_⟩⟩;unfold AY at q';simpa using q'
 ·have sH:=s1.trans s';push_cast[↓tG_];refine⟨_,.inl ⟨_,SqL.of ED,rfl⟩,IK B hd la rw l n r c w 0 M ⟨by rw[ν,hts];rfl,I.same sH,by decide,⟨ts,ED,hts,htt⟩,hm,?_⟩⟩;rw[ekm,ecell]
  have ect:=ζ (show cell<ts.length by exact gk hc hts.symm)
  have epl:=htt cell _ ect;refine D5 (n:=cell) (SqL.of ED) rfl (by rw[ρ,ect];rfl) ?_
  have fin:∀ (nl:Addr) (js:List Nat) (H2:Hp),Same H' H2->H2 nl=some (.lst (((need:Int)::js.map λ(j:Nat)=>(j:Int)).map V.int))->js=D2 tks z->bD K a (λ_=>E) (λ_=>E) (BC Q) [some (.ref ly),some (.ref hd),some (.ref la),some (.ref rw),some (.ref td),some (.str z),some (.int rec),some (.int need),some (.ref l),some (.ref (ts[cell]'(gk hc hts.symm))),some (.ref nl)] H2:=λnl js H2 s2 en ej=>by
   push_cast[↓bD_];refine⟨by decide,λtt htt'=> ?_⟩
   have s3:=AL (o:=.tup [.str z,.int rec]) htt'
   have e3:upd H2 tt (.tup [.str z,.int rec]) tt=some (.tup [.str z,.int rec]):=AF;revert s3 e3;generalize upd H2 tt (.tup [.str z,.int rec])=H3;intro s3 e3
   have sH3:=(sH.trans s2).trans s3
   have jl:js.length<=1:=by rw[ej,dE];cases HL tks z<;>simp
   refine NF B hd la rw _ nl n r c w 0 cell M (.nm z rec) ⟨_,_,rfl,I.same sH3,by decide,by rw[ekm];exact hc,trivial,(s2.trans s3) _ _ epl,⟨tt,rfl,e3⟩,s3 _ _ en,by simp;exact oA jl rfl,λy hy=> ?_,hM,λy hy=>hB y (sH3.free hy),λH4 I4 sb4=>q H4 ?_ λb o e nf=>sb4 _ _ (sH3 _ _ e) nf⟩
   ·rcases ak.mp hy with rfl | hy
    ·exact i0
    ·obtain⟨j,_,rfl⟩:=cj.mp hy;exact i0
   ·have:EW ((need:Int)::js.map λ(j:Nat)=>(j:Int))=need::D2 tks z:=by
     rw[<-ej];unfold EW;rw[cu,pv]
     congr 1
     exact(List.map_congr_left λj _=>rfl).trans (List.map_id _)
    rw[this]at I4;exact I4
  push_cast[↓tH_];refine⟨by decide,λnl hnl=> ?_⟩;refine nO hnl λH2 s2 e2=> ?_
  have ekt2:=s2 _ _ (sH _ _ ekt);push_cast[↓tJ_];refine⟨_,dS ekt2,?_⟩;rw[hkt];cases ez:HL tks z with
  | none =>
   refine E6 (by simp) ?_;exact fin nl [] H2 s2 (by rw[e2];rfl) (by rw[dE,ez];rfl)
  | some j =>
   refine FV (by simp) ?_;push_cast[↓tI_];refine⟨.inl ⟨rfl,_,SqL.of e2⟩,.int j,PU ekt2 (by rw[hkt,ez];rfl),⟨_,e2,(show 1<sizeLine by decide),?_⟩⟩;exact fin nl [j] _ (λb o e=>by rw[AO (BL e hnl)];exact s2 _ _ e) (by rw[AF];rfl) (by rw[dE,ez];rfl)
structure Gd(a:Ad)(H0:Hp)(B:Addr->Prop)(ly hd la rw td:Addr)(X:SX)(tks:List (AS × V))(N:Nat)(M:Hs)(H:Hp):Prop where
 ly:LayAt a H ly X.n X.r X.c X.w
 lm:LM B H hd la rw X.n X.r X.c X.w M
 tk:TkL H td tks N
 hB:∀ y,H y=none->¬ B y
 sb:SameBut (λy=>LF hd la rw y\/y=td) H0 H
 tp:CG H0 H
section
variable{H0:Hp}{B:Addr->Prop}{ly hd la rw td:Addr}{X:SX}{tks:List (AS × V)}{N:Nat}{M:Hs}{P:V->Hp->Prop}
def Gd.same{H':Hp}(J:Gd a H0 B ly hd la rw td X tks N M H)(s:Same H H'):Gd a H0 B ly hd la rw td X tks N M H':=⟨J.ly.same s,J.lm.same s,J.tk.same s,λy h=>J.hB y (s.free h),λb o e n=>s _ _ (J.sb _ _ e n),λb ys e=>s _ _ (J.tp _ _ e)⟩
def LM.off{y:Addr}{o:HO}(I:LM B H hd la rw X.n X.r X.c X.w M)(e:H y=some o)(h1:∀ k,o≠.dT k)(h2:∀ xs,o≠.lst xs):¬ LF hd la rw y:=λz=>by
 obtain⟨kh,f1,_⟩:=I.hn;obtain⟨kl,f2,_⟩:=I.ls;obtain⟨rs,f3,_⟩:=I.rs;rcases z with z | z | z
 ·rw[z,f1]at e;cases e;exact h1 _ rfl
 ·rw[z,f2]at e;cases e;exact h1 _ rfl
 ·rw[z,f3]at e;cases e;exact h2 _ rfl
def Gd.step{H':Hp}{M':Hs}(J:Gd a H0 B ly hd la rw td X tks N M H)(I:LM B H' hd la rw X.n X.r X.c X.w M')(sb:SameBut (LF hd la rw) H H'):Gd a H0 B ly hd la rw td X tks N M' H'/\CG H H':=by
 obtain⟨dl,el⟩:=J.ly.ob;obtain⟨kt,ekt,hkt⟩:=J.tk
 have tk:CG H H':=λy ys e=>sb _ _ e (J.lm.off e (by intro k z;cases z) (by intro k z;cases z));refine⟨⟨J.ly.sb sb (J.lm.off el (by intro k z;cases z) (by intro k z;cases z)),I,⟨kt,sb _ _ ekt (J.lm.off ekt (by intro k z;cases z) (by intro k z;cases z)),hkt⟩,λy h=> ?_,λb o e n=>sb _ _ (J.sb _ _ e n) λz=>n (.inl z),λb ys e=>tk _ _ (J.tp _ _ e)⟩,tk⟩;cases e:H y with
 | none=>exact J.hB y e
 | some o =>
  by_cases z:LF hd la rw y
  ·exfalso;obtain⟨kh,f1,_⟩:=I.hn;obtain⟨kl,f2,_⟩:=I.ls;obtain⟨rs,f3,_⟩:=I.rs;rcases z with z | z | z
   ·rw[z,f1]at h;cases h
   ·rw[z,f2]at h;cases h
   ·rw[z,f3]at h;cases h
  ·rw[sb _ _ e z]at h;cases h
def Gd.chg{kind k:Nat}{pl nl:Addr}{x:CV}{v:V}{ns:List Int}(J:Gd a H0 B ly hd la rw td X tks N M H)(h1:kind<5)(hk:k<AT X.n X.r X.c X.w kind)(ox:EB kind x)(ep:H pl=some (.tup [.int (AY X.n X.r X.c X.w kind k:Nat),.int (k % X.w:Nat)]))(rx:RepC H x v)(en:H nl=some (.lst (ns.map V.int)))(hn:ns.length<=60)(h0:∀ y∈ns,0<=y)(hM:M.as.length<=980)(q:∀ H',Gd a H0 B ly hd la rw td X tks N (M.put kind k x (EW ns)) H'->CG H H'->P (.int M.as.length) H'):FS K a [.ref hd,.ref la,.ref rw,.ref pl,v,.ref nl] H P E :=
 ⟨B,hd,la,rw,pl,nl,X.n,X.r,X.c,X.w,kind,k,M,x,v,ns,rfl,J.lm,h1,hk,ox,ep,rx,en,hn,h0,hM,J.hB,λH' I sb=>q H' (J.step I sb).1 (J.step I sb).2⟩
def Gd.led{rec need cell:Nat}{z:Str}(TL:D1 K a)(J:Gd a H0 B ly hd la rw td X tks N M H)(hN:N<=1000)(hm:X.n * X.w<=1000)(ec:EG M 0 (X.n * X.w)=cell)(hc:cell<X.n * X.w)(hM:M.as.length<=980)(q:∀ H',Gd a H0 B ly hd la rw td X tks N (M.put 0 cell (.nm z rec) (need::D2 tks z)) H'->CG H H'->P (.int M.as.length) H'):QU K a [.ref ly,.ref hd,.ref la,.ref rw,.ref td,.str z,.int rec,.int need] H P E:=by
 obtain⟨kt,e1,e2,e3⟩:=J.tk;exact NF B ly hd la rw td X.n X.r X.c X.w rec need cell M ⟨tks,z,rfl,TL,J.ly,J.lm,⟨kt,e1,υ e2 hN,e3⟩,hm,ec,hc,hM,J.hB,λH' I sb=>q H' (J.step I sb).1 (J.step I sb).2⟩
end
def U9{M:Hs}{kind k m:Nat}{x:CV}{nd:List Nat}(h:kind≠0):EG (M.put kind k x nd) 0 m=EG M 0 m:=Bd λj _=>by rw[Hs.put_at,if_neg λz=>h z.1.symm]
def zog:UN K a vs H Q E->bL K a (λ_=>E) (BC Q) (start ["","","","","","","","","",""] vs) H:=by
 apply NG;rintro B ly hd la rw td X M M' tks tks' y z x ⟨kind,N,rfl,TL,L,I,Tk,hN,z1,z2,z3,z4,hk,D,hM,hB,q⟩;obtain⟨dl,el⟩:=L.ob
 have bnw:X.n * X.w<=36:=e_ z1 z4
 have brw:X.r * X.w<=36:=e_ z2 z4;cases D with
 | link=>exact absurd hk (by decide)
 | move=>exact absurd hk (by decide)
 | cutOne=>exact absurd hk (by decide)
 | cutAll=>exact absurd hk (by decide)
 | put h=>omega
 | take=>exact absurd hk (by decide)
 | @make _ rec cell h h1 h2 h3 h4 h5 =>
  have ekm:AT X.n X.r X.c X.w 1=X.r * X.w:=by simp[AT]
  push_cast[bL,↓uE_];refine y2 ⟨el,CC,x5 ly X.n X.r X.c X.w ⟨rfl,TL,L,λt ht=> ?_⟩⟩
  have s1:=AL (o:=.tup [V.int ((X.n:Int) * X.w),V.int ((X.r:Int) * X.w),V.int ((X.c:Int) * X.w)]) ht;refine CU AF (n:=1) rfl rfl ?_;revert s1;generalize upd H t (.tup [V.int ((X.n:Int) * X.w),V.int ((X.r:Int) * X.w),V.int ((X.c:Int) * X.w)])=H1;intro s1
  have em:(X.r:Int) * X.w=(AT X.n X.r X.c X.w 1:Nat):=by rw[ekm];simp
  rw[em];push_cast[];refine⟨i0,by omega,OH (B:=λk=>(AY X.n X.r X.c X.w 1 k:Nat)) (w:=X.w) (oA brw rfl) (λi H' Q' hi s' q'=> ?_) λts H2 l hts s' htt ED=> ?_⟩
  ·push_cast[D8];refine y2 ⟨s' _ _ (s1 _ _ el),CC,x6 ly X.n X.r X.c X.w i ⟨(by simp),TL,(L.same s1).same s',?_⟩⟩;unfold AY at q';simpa using q'
  have sH:=s1.trans s';push_cast[↓uF_];refine⟨_,.inl ⟨_,SqL.of ED,rfl⟩,IK B hd la rw l X.n X.r X.c X.w 1 M ⟨by rw[ν,hts];rfl,I.same sH,by decide,⟨ts,ED,hts,htt⟩,oA brw rfl,?_⟩⟩;rw[ekm,h2]
  have ect:=ζ (show rec<ts.length by exact gk h4 hts.symm)
  have epl:=htt rec _ ect;push_cast[↓uG_];refine D5 (n:=rec) (SqL.of ED) rfl (by rw[ρ,ect];rfl) ⟨by decide,λn1 hn1=> ?_⟩
  have s3:=AL (o:=.lst []) hn1
  have e3:upd H2 n1 (.lst []) n1=some (.lst (([]:List Int).map V.int)):=AF;revert s3 e3;generalize upd H2 n1 (.lst [])=H3;intro s3 e3
  have sH3:=sH.trans s3
  have J3:Gd a H B ly hd la rw td X tks N M H3:=(Gd.same (a:=a) ⟨L,I,Tk,hB,λ_ _ e _=>e,λ_ _ e=>e⟩ sH3)
  refine J3.chg (kind:=1) (k:=rec) (x:=.mk 1) (by decide) (by rw[ekm];exact h4) (by simp[EB]) (s3 _ _ epl) rfl e3 (by decide) (λy hy=>(by cases hy)) (oA hM rfl) λH4 J4 _=> ?_;push_cast[↓uH_];obtain⟨dl4,el4⟩:=J4.ly.ob;refine y2 ⟨el4,CC,MA TL J4.ly λu hu=> ?_⟩
  have s5:=AL (o:=.tup [.int (X.n+(rec:Int) / X.w),.int ((rec:Int) % X.w)]) hu
  have e5:upd H4 u (.tup [.int (X.n+(rec:Int) / X.w),.int ((rec:Int) % X.w)]) u=some (.tup [.int (AY X.n X.r X.c X.w 3 rec:Nat),.int (rec % X.w:Nat)]):=by rw[AF];simp[AY]
  revert s5 e5;generalize upd H4 u (.tup [.int (X.n+(rec:Int) / X.w),.int ((rec:Int) % X.w)])=H5;intro s5 e5;refine⟨by decide,λp1 KB=>⟨by decide,λp2 FL=>⟨by decide,λp3 hp3=> ?_⟩⟩⟩
  have s61:=AL (o:=.tup []) KB
  have s62:=AL (o:=.tup [V.int 1,V.ref p1]) FL
  have s63:=AL (o:=.lst [V.int M.as.length]) hp3;refine(J4.same (s5.trans (s61.trans (s62.trans s63)))).chg (kind:=3) (k:=rec) (x:=.rc 1 []) (ns:=[(M.as.length:Int)]) (by decide) (by simpa [AT]using h4) trivial ((s61.trans (s62.trans s63)) _ _ e5) (x2 p2 p1 ⟨rfl,s63 _ _ AF,(s62.trans s63) _ _ AF⟩) AF (by simp) (λy hy=>by rw[ο.mp hy];exact i0) (by show M.as.length+1<=980;exact oC hM rfl) λH7 J7 _=> ?_;push_cast[↓uI_];refine J7.led TL (oA hN rfl) (oA bnw rfl) ?_ h5 (by show M.as.length+2<=980;exact oE hM rfl) λH8 J8 _=> ?_
  ·rw[U9 (by decide),U9 (by decide)];exact h3
  ·obtain⟨kt,f1,f2,f3⟩:=J8.tk;exact q H8 J8.lm ⟨kt,f1,av f2,f3⟩ J8.sb
def Dn.old{X:SX}{tks tks':List (AS × V)}{M M':Hs}{y z:Str}{x:Int}{N kind:Nat}(D:Dn X tks M y z x N kind tks' M')(hk:2<=kind):∃ old rec m ps,cellOf M X.m0 y=some old/\old<X.m0/\M 0 old=.nm y rec/\M 3 rec=.rc m ps/\rec<X.r * X.w:=by
 cases D with
 | make h=>exact nL h hk
 | link h1 h2 h3 h4 h5 h6 h7 h8=>exact y4 ⟨h2,h3,h4,h5,h8⟩
 | move h1 h2 h3 h4 h5 h6 h7 h8=>exact y4 ⟨h2,h3,h4,h5,h8⟩
 | cutOne h1 h2 h3 h4 h5 h6=>exact y4 ⟨h1,h2,h3,h4,h6⟩
 | cutAll h1 h2 h3 h4 h5 h6=>exact y4 ⟨h1,h2,h3,h4,h6⟩
 | put h h1 h2 h3 h4 h5 h6 h7=>exact y4 ⟨h1,h2,h3,h4,h7⟩
 | take h1 h2 h3 h4 h5 h6 h7=>exact y4 ⟨h1,h2,h3,h4,h7⟩
def LM.at{B:Addr->Prop}{hd la rw pl:Addr}{n r c w kind k:Nat}{M:Hs}{P:V->Prop}(I:LM B H hd la rw n r c w M)(h1:kind<5)(hk:k<AT n r c w kind)(hne:M kind k≠.no)(ep:H pl=some (.tup [.int (AY n r c w kind k:Nat),.int (k % w:Nat)]))(q:∀ v,RepC H (M kind k) v->P v):∃ v,DGet H hd (.ref pl) (some v)/\P v:=by
 obtain⟨kh,ekh,_,h⟩:=I.get h1 hk;obtain⟨v,hv,rv⟩:=h hne;exact⟨v,PY ekh ep hv,q v rv⟩
def Gd.taken{H0:Hp}{B:Addr->Prop}{ly hd la rw td:Addr}{X:SX}{tks kt:List (AS × V)}{N k:Nat}{M:Hs}{y:Str}(J:Gd a H0 B ly hd la rw td X tks N M H)(ekt:H td=some (.dK kt)):Gd a H0 B ly hd la rw td X (BY tks (.inr y) (.int k)) (N+1) M (upd H td (.dK (BY kt (.inr y) (.int k))))/\CG H (upd H td (.dK (BY kt (.inr y) (.int k)))):=by
 obtain⟨dl,el⟩:=J.ly.ob;obtain⟨kt',f1,f2,f3⟩:=J.tk;rw[ekt]at f1;cases f1
 have s:SameBut (· =td) H (upd H td (.dK (BY kt (.inr y) (.int k)))):=λb o e n=>by rw[AO n];exact e
 have tk:CG H (upd H td (.dK (BY kt (.inr y) (.int k)))):=λb ys e=>s _ _ e (A0 e ekt (by intro z;cases z));obtain⟨kh,g1,_⟩:=J.lm.hn;obtain⟨kl,g2,_⟩:=J.lm.ls;obtain⟨rs,g3,_⟩:=J.lm.rs;refine⟨⟨J.ly.sb s (A0 el ekt (by intro z;cases z)),J.lm.keep tk (λb xs e _=>s _ _ e (A0 e ekt (by intro z;cases z))) (λo e=>s _ _ e (A0 g1 ekt (by intro z;cases z))) (λo e=>s _ _ e (A0 g2 ekt (by intro z;cases z))) (λo e=>s _ _ e (A0 g3 ekt (by intro z;cases z))),⟨_,AF,υ (KL ..) (l8 f2),λz=> ?_⟩,λb h=> ?_,λb o e n=>s _ _ (J.sb _ _ e n) λz=>n (.inr z),λb ys e=>tk _ _ (J.tp _ _ e)⟩,tk⟩
 ·rw[KK,OK];unfold E4;by_cases c:z=y
  ·rw[if_pos (by rw[c]),if_pos c];rfl
  ·rw[if_neg λh=>c (Et h),if_neg c];exact f3 z
 ·by_cases c:b=td
  ·rw[c,AF]at h;cases h
  ·rw[AO c]at h;exact J.hB b h
def Gd.tkAt{H0:Hp}{B:Addr->Prop}{ly hd la rw td:Addr}{X:SX}{tks:List (AS × V)}{N:Nat}{M:Hs}{y:Str}(J:Gd a H0 B ly hd la rw td X tks N M H):∃ kt,H td=some (.dK kt)/\kt.length<=N/\BT kt (.inr y)=(HL tks y).map λ(j:Nat)=>V.int j:=by
 obtain⟨kt,f1,f2,f3⟩:=J.tk;exact⟨kt,f1,f2,f3 y⟩
def zoh:UO K a vs H Q E->bN K a (λ_=>E) (BC Q) (start ["","","","","","","","","","","","","","","","",""] vs) H:=by
 apply NG;rintro B ly hd la rw td X M M' tks tks' y z x ⟨kind,N,rfl,TL,L,I,Tk,hN,z1,z2,z3,z4,hk,D,hM,hB,q⟩;obtain⟨dl,el⟩:=L.ob
 have bnw:X.n * X.w<=36:=e_ z1 z4
 have brw:X.r * X.w<=36:=e_ z2 z4;refine u4 ?_ (D.old (by omega));rintro old rec m ps ⟨eo,ho,e0,e3,hr⟩
 have eci:K4 M (X.n * X.w) y=old:=by unfold K4;rw[eo]
 have hm0:old<AT X.n X.r X.c X.w 0:=by simpa [AT]using ho
 have hm3:rec<AT X.n X.r X.c X.w 3:=by simpa [AT]using hr
 have J0:Gd a H B ly hd la rw td X tks N M H:=⟨L,I,Tk,hB,λ_ _ e _=>e,λ_ _ e=>e⟩
 push_cast[bN,↓uJ_];refine y2 ⟨el,CC,IK B ly hd la rw X.n X.r X.c X.w M y ⟨rfl,TL,L,I,oA bnw rfl,λH1 s1=> ?_⟩⟩;rw[eci];refine U5 TL (L.same s1) λu hu=> ?_
 have s2:=AL (o:=.tup [.int (0+(old:Int) / X.w),.int ((old:Int) % X.w)]) hu
 have eu:upd H1 u (.tup [.int (0+(old:Int) / X.w),.int ((old:Int) % X.w)]) u=some (.tup [.int (AY X.n X.r X.c X.w 0 old:Nat),.int (old % X.w:Nat)]):=by rw[AF];simp[AY]
 revert s2 eu;generalize upd H1 u (.tup [.int (0+(old:Int) / X.w),.int ((old:Int) % X.w)])=H2;intro s2 eu
 have J2:=J0.same (s1.trans s2);push_cast[↓uK_];refine J2.lm.at (by decide) hm0 (by rw[e0];intro z;cases z) eu λv rv=> ?_;rw[e0]at rv;obtain⟨t0,rfl,F5⟩:=rv;refine CU F5 (n:=1) rfl rfl ?_;push_cast[↓uL_];obtain⟨dl2,el2⟩:=J2.ly.ob;refine y2 ⟨el2,CC,MA TL J2.ly λu3 hu3=> ?_⟩
 have s3:=AL (o:=.tup [.int (X.n+(rec:Int) / X.w),.int ((rec:Int) % X.w)]) hu3
 have eu3:upd H2 u3 (.tup [.int (X.n+(rec:Int) / X.w),.int ((rec:Int) % X.w)]) u3=some (.tup [.int (AY X.n X.r X.c X.w 3 rec:Nat),.int (rec % X.w:Nat)]):=by rw[AF];simp[AY]
 revert s3 eu3;generalize upd H2 u3 (.tup [.int (X.n+(rec:Int) / X.w),.int ((rec:Int) % X.w)])=H3;intro s3 eu3
 have J3:=J2.same s3
 have eu':=s3 _ _ eu;push_cast[↓uM_];refine J3.lm.at (by decide) hm3 (by rw[e3];intro z;cases z) eu3 λv rv=> ?_;rw[e3]at rv;revert rv;apply u2;rintro t1 u1 ⟨rfl,et1,eu1⟩;refine⟨_,SqT.of et1,rfl,?_⟩;push_cast[↓uU_];by_cases k3:kind=3
 ·subst k3;refine E6 (by simp) ?_;push_cast[↓uV_];refine⟨by decide,λn1 hn1=> ?_⟩
  have s4:=AL (o:=.lst []) hn1;refine(J3.same s4).chg (kind:=0) (k:=old) (x:=.no) (ns:=[]) (by decide) hm0 trivial (s4 _ _ eu') rfl AF (by decide) (λy hy=>(by cases hy)) (oA hM rfl) λH5 J5 tk5=> ?_
  have eu35:=tk5 _ _ (s4 _ _ eu3)
  have eu15:=tk5 _ _ (s4 _ _ eu1);obtain⟨kt,ekt,lkt,_⟩:=J5.tkAt (y:=y);refine⟨_,pS ekt (oC (υ lkt hN) rfl),?_⟩;obtain⟨J6,tk6⟩:=J5.taken (y:=y) (k:=M.as.length) ekt;revert J6 tk6;generalize upd H5 td (.dK (BY kt (.inr y) (.int M.as.length)))=H6;intro J6 tk6
  have eu36:=tk6 _ _ eu35
  have eu16:=tk6 _ _ eu15;obtain⟨kt6,ekt6,lkt6,hv6⟩:=J6.tkAt (y:=y)
  have hv6:BT kt6 (.inr y)=some (.int M.as.length):=by rw[hv6,OK];unfold E4;rw[if_pos rfl];rfl
  push_cast[↓uY_];cases D with
  | make h=>exact absurd h (by decide)
  | put h=>exact absurd h (by decide)
  | @cutOne cell' rec' m' ps' g1 g2 g3 g4 g5 g6 =>
   rw[eo]at g1;cases g1;rw[e0]at g3;cases g3;rw[e3]at g4;cases g4;refine FV (bv.mpr g5) ?_;push_cast[↓uW_];refine⟨by decide,λp2 FL=>⟨.int M.as.length,PU ((AL FL) _ _ ekt6) hv6,by decide,λn3 hn3=> ?_⟩⟩
   have sa:=AL (o:=.tup [V.int ((m:Int) - 1),V.ref u1]) FL
   have ea:upd H6 p2 (.tup [V.int ((m:Int) - 1),V.ref u1]) p2=some (.tup [V.int ((m - 1:Nat):Int),V.ref u1]):=by rw[AF];congr 4;omega
   revert sa ea hn3;generalize upd H6 p2 (.tup [V.int ((m:Int) - 1),V.ref u1])=H7;intro hn3 sa ea
   have sb:=AL (o:=.lst [V.int M.as.length]) hn3;refine(J6.same (sa.trans sb)).chg (kind:=3) (k:=rec) (x:=.rc (m - 1) ps) (ns:=[(M.as.length:Int)]) (by decide) hm3 trivial ((sa.trans sb) _ _ eu36) (x2 p2 u1 ⟨rfl,sb _ _ ea,(sa.trans sb) _ _ eu16⟩) AF (by simp) (λy hy=>by rw[ο.mp hy];exact i0) (by show M.as.length+1<=980;exact oC hM rfl) λH8 J8 _=> ?_;push_cast[↓uX_];exact q H8 J8.lm J8.tk J8.sb
  | @cutAll cell' rec' m' ps' g1 g2 g3 g4 g5 g6 g7 g8 =>
   rw[eo]at g1;cases g1;rw[e0]at g3;cases g3;rw[e3]at g4;cases g4;refine E6 (by omega) ?_;push_cast[↓uZ_];refine⟨.int M.as.length,PU ekt6 hv6,by decide,λn3 hn3=> ?_⟩
   have sb:=AL (o:=.lst [V.int M.as.length]) hn3;refine(J6.same sb).chg (kind:=3) (k:=rec) (x:=.no) (ns:=[(M.as.length:Int)]) (by decide) hm3 trivial (sb _ _ eu36) rfl AF (by simp) (λy hy=>by rw[ο.mp hy];exact i0) (by show M.as.length+1<=980;exact oC hM rfl) λH8 J8 tk8=> ?_
   have eu18:=tk8 _ _ (sb _ _ eu16);push_cast[↓vB_]
   have ulen:∀ (M1:Hs) (d:Nat) (l:List Nat),(M1.unmark d l).as.length=l.length+M1.as.length:=λM1 d l=>by rw[OL.1];simp
   have usn:∀ (M1:Hs) (d j p:Nat),ps[j]? =some p->(M1.unmark d (ps.take j)).put 2 p (.mk 0) [d]=M1.unmark d (ps.take (j+1)):=λM1 d j p e=>by
    unfold Hs.unmark;rw[fk,e,h_]
    rfl
   have hM8:((M.put 0 old CV.no (EW [])).put 3 rec CV.no (EW [(M.as.length:Int)])).as.length=M.as.length+2:=rfl;refine .inr ⟨⟨_,SqT.of eu18⟩,k9 (xs:=AW ps) (λj σ H'=>(Gd a H B ly hd la rw td X (BY tks (.inr y) (.int M.as.length)) (N+1) (((M.put 0 old CV.no (EW [])).put 3 rec CV.no (EW [(M.as.length:Int)])).unmark (M.as.length+1) (ps.take j)) H'/\CG H8 H')/\∃ y16,σ=[some (.ref ly),some (.ref hd),some (.ref la),some (.ref rw),some (.ref td),some (.int (3:Nat)),some (.str y),some (.str z),some (.ref u),some (.int rec),some (.ref u3),some (.int m),some (.ref u1),none,none,some (.int (M.as.length+1:Nat)),y16]) ⟨⟨J8,λ_ _ e=>e⟩,_,rfl⟩ (λj σ H' hj ⟨⟨_,tk⟩,_⟩=>SqT.of (tk _ _ eu18)) (λj v σ H9 hx ⟨⟨J9,tk9⟩,y16,es⟩=> ?_) (λσ H9 ⟨⟨J9,tk9⟩,y16,es⟩=> ?_)⟩
   ·subst es;unfold AW at hx;rw[ρ,bq]at hx;obtain⟨p,ep,rfl⟩:=hx
    have hpc:=g7 p (π ep)
    have hj:=(ι.mp ep).1;push_cast[↓vA_];obtain⟨dl9,el9⟩:=J9.ly.ob;refine y2 ⟨el9,CC,c6 TL J9.ly λu9 hu9=> ?_⟩
    have sa:=AL (o:=.tup [.int (X.n+X.r+X.c+X.r+(p:Int) / X.w),.int ((p:Int) % X.w)]) hu9
    have ea:upd H9 u9 (.tup [.int (X.n+X.r+X.c+X.r+(p:Int) / X.w),.int ((p:Int) % X.w)]) u9=some (.tup [.int (AY X.n X.r X.c X.w 2 p:Nat),.int (p % X.w:Nat)]):=by rw[AF];simp[AY]
    revert sa ea;generalize upd H9 u9 (.tup [.int (X.n+X.r+X.c+X.r+(p:Int) / X.w),.int ((p:Int) % X.w)])=H10;intro sa ea;refine⟨by decide,λn4 hn4=> ?_⟩
    have sb:=AL (o:=.lst [V.int ((M.as.length+1:Nat):Int)]) hn4;refine(J9.same (sa.trans sb)).chg (kind:=2) (k:=p) (x:=.mk 0) (ns:=[((M.as.length+1:Nat):Int)]) (by decide) (by simpa [AT]using hpc) (by simp[EB]) (sb _ _ ea) rfl AF (by simp) (λy hy=>by rw[ο.mp hy];exact i0) (by rw[ulen,hM8,dk];omega) λH11 J11 tk11=> ?_;refine⟨?_,λb ys e=>tk11 _ _ ((sa.trans sb) _ _ (tk9 _ _ e))⟩
    have:EW [((M.as.length+1:Nat):Int)]=[M.as.length+1]:=rfl;rw[this,usn _ _ j p ep]at J11;exact J11
   ·subst es
    have hll:(AW ps).length=ps.length:=by simp[AW]
    rw[hll,dn]at J9;push_cast[↓vC_];obtain⟨dl9,el9⟩:=J9.ly.ob;refine y2 ⟨el9,CC,cZ TL J9.ly λu9 hu9=> ?_⟩
    have sa:=AL (o:=.tup [.int (X.n+X.r+X.c+(rec:Int) / X.w),.int ((rec:Int) % X.w)]) hu9
    have ea:upd H9 u9 (.tup [.int (X.n+X.r+X.c+(rec:Int) / X.w),.int ((rec:Int) % X.w)]) u9=some (.tup [.int (AY X.n X.r X.c X.w 1 rec:Nat),.int (rec % X.w:Nat)]):=by rw[AF];simp[AY]
    revert sa ea;generalize upd H9 u9 (.tup [.int (X.n+X.r+X.c+(rec:Int) / X.w),.int ((rec:Int) % X.w)])=H10;intro sa ea;refine⟨by decide,λn4 hn4=> ?_⟩
    have sb:=AL (o:=.lst [V.int ((M.as.length+1:Nat):Int)]) hn4;refine(J9.same (sa.trans sb)).chg (kind:=1) (k:=rec) (x:=.mk 0) (ns:=[((M.as.length+1:Nat):Int)]) (by decide) (by simpa [AT]using hr) (by simp[EB]) (sb _ _ ea) rfl AF (by simp) (λy hy=>by rw[ο.mp hy];exact i0) (by rw[ulen,hM8];omega) λH11 J11 _=> ?_;exact q H11 J11.lm J11.tk J11.sb
 ·refine FV (λz=>k3 (bc z)) ?_;push_cast[↓uN_];refine⟨by decide,λp1 KB=>⟨by decide,λn1 hn1=> ?_⟩⟩
  have s41:=AL (o:=.tup [V.int ((m:Int)+1),V.ref u1]) KB
  have s42:=AL (o:=.lst []) hn1;refine(J3.same (s41.trans s42)).chg (kind:=3) (k:=rec) (x:=.rc (m+1) ps) (ns:=[]) (by decide) hm3 trivial ((s41.trans s42) _ _ eu3) (x2 p1 u1 ⟨rfl,s42 _ _ AF,(s41.trans s42) _ _ eu1⟩) AF (by decide) (λy hy=>(by cases hy)) (oA hM rfl) λH5 J5 tk5=> ?_
  have s4:=s41.trans s42;push_cast[↓uO_]
  have mono:∀ {H':Hp} {tks1:List (AS × V)} {N1:Nat},N1<=N+1->TkL H' td tks1 N1->TkL H' td tks1 (N+1):=λhle ⟨kt,f1,f2,f3⟩=>⟨kt,f1,υ f2 hle,f3⟩
  cases D with
  | make h=>omega
  | cutOne=>exact absurd k3 (by decide)
  | cutAll=>exact absurd k3 (by decide)
  | put h=>omega
  | take=>exact absurd hk (by decide)
  | @link old' rec' cell m' ps' g1 g2 g3 g4 g5 g6 g7 g8 =>
   rw[eo]at g2;cases g2;rw[e0]at g4;cases g4;rw[e3]at g5;cases g5;refine J5.led TL (oA hN rfl) (oA bnw rfl) (by rw[U9 (by decide)];exact g6) g7 (by show M.as.length+1<=980;exact oC hM rfl) λH6 J6 _=> ?_;push_cast[↓uQ_];refine E6 (by decide) ?_;push_cast[↓uS_];exact q H6 J6.lm (mono (dq _) J6.tk) J6.sb
  | @move old' rec' cell m' ps' g1 g2 g3 g4 g5 g6 g7 g8 =>
   rw[eo]at g2;cases g2;rw[e0]at g4;cases g4;rw[e3]at g5;cases g5;refine J5.led TL (oA hN rfl) (oA bnw rfl) (by rw[U9 (by decide)];exact g6) g7 (by show M.as.length+1<=980;exact oC hM rfl) λH6 J6 tk6=> ?_;push_cast[↓uQ_];refine FV (by decide) ?_;push_cast[↓uP_];refine⟨by decide,λn2 hn2=> ?_⟩
   have s7:=AL (o:=.lst [V.int ((M.put 3 rec (.rc (m+1) ps) (EW [])).as.length)]) hn2
   have keep6:CG H3 (upd H6 n2 (.lst [V.int ((M.put 3 rec (.rc (m+1) ps) (EW [])).as.length)])):=λb ys e=>s7 _ _ (tk6 _ _ (tk5 _ _ (s4 _ _ e)));refine(J6.same s7).chg (kind:=0) (k:=old) (x:=.no) (ns:=[((M.put 3 rec (.rc (m+1) ps) (EW [])).as.length:Int)]) (by decide) hm0 trivial (keep6 _ _ eu') rfl AF (by simp) (λy hy=>by rw[ο.mp hy];exact i0) (by show M.as.length+2<=980;exact oE hM rfl) λH8 J8 tk8=> ?_;obtain⟨kt,ekt,lkt,_⟩:=J8.tkAt (y:=y);refine⟨_,pS ekt (oC (υ lkt hN) rfl),?_⟩;obtain⟨J9,tk9⟩:=J8.taken (y:=y) (k:=M.as.length+2) ekt
   have tk39:CG H3 (upd H8 td (.dK (BY kt (.inr y) (.int ((M.as.length+2:Nat):Int))))):=λb ys e=>tk9 _ _ (tk8 _ _ (keep6 _ _ e));revert J9 tk39;clear tk9
   show _->_->bM K a (λ_=>E) (λ_=>E) _ _ (upd H8 td (.dK (BY kt (.inr y) (.int ((M.as.length+2:Nat):Int)))));generalize upd H8 td (.dK (BY kt (.inr y) (.int ((M.as.length+2:Nat):Int))))=H9;intro J9 tk39;obtain⟨kt9,ekt9,lkt9,hv9⟩:=J9.tkAt (y:=y)
   have hv9:BT kt9 (.inr y)=some (.int ((M.as.length+2:Nat):Int)):=by rw[hv9,OK];unfold E4;rw[if_pos rfl];rfl
   push_cast[↓bM_];refine⟨by decide,λp2 FL=>⟨.int ((M.as.length+2:Nat):Int),PU ((AL FL) _ _ ekt9) hv9,by decide,λn3 hn3=> ?_⟩⟩
   have sa:=AL (o:=.tup [V.int (m:Int),V.ref u1]) FL
   have sb:=AL (o:=.lst [V.int ((M.as.length+2:Nat):Int)]) hn3;refine(J9.same (sa.trans sb)).chg (kind:=3) (k:=rec) (x:=.rc m ps) (ns:=[((M.as.length+2:Nat):Int)]) (by decide) hm3 trivial ((sa.trans sb) _ _ (tk39 _ _ eu3)) (x2 p2 u1 ⟨rfl,sb _ _ AF,(sa.trans sb) _ _ (tk39 _ _ eu1)⟩) AF (by simp) (λy hy=>by rw[ο.mp hy];exact i0) (by show M.as.length+3<=980;exact oE hM rfl) λH10 J10 _=> ?_;push_cast[↓uS_];exact q H10 J10.lm J10.tk J10.sb
def zoi:UP K a vs H Q E->bO K a (λ_=>E) (BC Q) (start ["","","","","","","","","","","","","","","",""] vs) H:=by
 apply NG;rintro B ly hd la rw td X M M' tks tks' y z x ⟨kind,N,rfl,TL,L,I,Tk,hN,z1,z2,z3,z4,hk4,hk7,D,hM,hB,q⟩;obtain⟨dl,el⟩:=L.ob
 have bnw:X.n * X.w<=36:=e_ z1 z4
 have bcw:X.c * X.w<=36:=e_ z3 z4;refine u4 ?_ (D.old (υ (by decide) hk4));rintro old rec m ps ⟨eo,ho,e0,e3,hr⟩
 have eci:K4 M (X.n * X.w) y=old:=by unfold K4;rw[eo]
 have hm0:old<AT X.n X.r X.c X.w 0:=by simpa [AT]using ho
 have hm3:rec<AT X.n X.r X.c X.w 3:=by simpa [AT]using hr
 have J0:Gd a H B ly hd la rw td X tks N M H:=⟨L,I,Tk,hB,λ_ _ e _=>e,λ_ _ e=>e⟩
 have mono:∀ {H':Hp} {tks1:List (AS × V)} {N1:Nat},N1<=N+1->TkL H' td tks1 N1->TkL H' td tks1 (N+1):=λhle ⟨kt,f1,f2,f3⟩=>⟨kt,f1,υ f2 hle,f3⟩
 push_cast[bO,↓vE_];refine y2 ⟨el,CC,y2 ⟨el,CC,IK B ly hd la rw X.n X.r X.c X.w M y ⟨rfl,TL,L,I,oA bnw rfl,λH1 s1=> ?_⟩⟩⟩;rw[eci];refine U5 TL (L.same s1) λu hu=> ?_
 have s2:=AL (o:=.tup [.int (0+(old:Int) / X.w),.int ((old:Int) % X.w)]) hu
 have eu:upd H1 u (.tup [.int (0+(old:Int) / X.w),.int ((old:Int) % X.w)]) u=some (.tup [.int (AY X.n X.r X.c X.w 0 old:Nat),.int (old % X.w:Nat)]):=by rw[AF];simp[AY]
 revert s2 eu;generalize upd H1 u (.tup [.int (0+(old:Int) / X.w),.int ((old:Int) % X.w)])=H2;intro s2 eu
 have J2:=J0.same (s1.trans s2);refine J2.lm.at (by decide) hm0 (by rw[e0];intro z;cases z) eu λv rv=> ?_;rw[e0]at rv;obtain⟨t0,rfl,F5⟩:=rv;refine CU F5 (n:=1) rfl rfl ?_;refine MA TL J2.ly λu3 hu3=> ?_
 have s3:=AL (o:=.tup [.int (X.n+(rec:Int) / X.w),.int ((rec:Int) % X.w)]) hu3
 have eu3:upd H2 u3 (.tup [.int (X.n+(rec:Int) / X.w),.int ((rec:Int) % X.w)]) u3=some (.tup [.int (AY X.n X.r X.c X.w 3 rec:Nat),.int (rec % X.w:Nat)]):=by rw[AF];simp[AY]
 revert s3 eu3;generalize upd H2 u3 (.tup [.int (X.n+(rec:Int) / X.w),.int ((rec:Int) % X.w)])=H3;intro s3 eu3
 have J3:=J2.same s3;push_cast[↓vF_];refine J3.lm.at (by decide) hm3 (by rw[e3];intro z;cases z) eu3 λv rv=> ?_;rw[e3]at rv;revert rv;apply u2;rintro t1 u1 ⟨rfl,et1,eu1⟩;refine⟨_,SqT.of et1,rfl,?_⟩;push_cast[↓vK_];by_cases k6:kind=6
 ·subst k6;refine FV (by decide) ?_;push_cast[↓vG_];refine⟨x,rfl,?_⟩;cases D with
  | make h=>omega
  | put h=>omega
  | @take cell' rec' m' k p ps' g1 g2 g3 g4 g5 g6 g7 g8 g9 =>
   rw[eo]at g1;cases g1;rw[e0]at g3;cases g3;rw[e3]at g4;cases g4;rw[g5];push_cast[↓vH_]
   have IG:=(ι.mp g6).1
   have e1:HT.sIx (AW ps).length (AW ps).length (some (k:Int))=k:=by
    show(if(k:Int)<0 then((k:Int)+((AW ps).length:Int)).toNat else min (k:Int).toNat (AW ps).length)=_;rw[if_neg (by exact xn.mpr i0)];simp[AW];exact ku (fg IG)
   have e2:HT.sIx (AW ps).length 0 (some ((k:Int)+1))=k+1:=by
    show(if((k:Int)+1)<0 then((k:Int)+1+((AW ps).length:Int)).toNat else min ((k:Int)+1).toNat (AW ps).length)=_;rw[if_neg (by exact xn.mpr i0)];simp[AW];exact ku IG
   have hnl:(AW ps).length=ps.length:=by simp[AW]
   refine .inr (x2 u1 _ ⟨rfl,SqT.of eu1,λy=>by rw[e1]at y;omega,λp1 KB=> ?_⟩)
   have sa:=AL (o:=.tup (EY (AW ps) none (some (k:Int)))) KB;refine .inr (x2 u1 _ ⟨rfl,SqT.of (sa _ _ eu1),λy=>by rw[e2]at y;omega,λp2 FL=> ?_⟩)
   have sb:=AL (o:=.tup (EY (AW ps) (some ((k:Int)+1)) none)) FL
   have c1:EY (AW ps) none (some (k:Int))=AW (ps.take k):=by rw[mT _ (by exact i0),ai];simp[AW]
   have c2:EY (AW ps) (some ((k:Int)+1)) none=AW (ps.drop (k+1)):=by rw[XX _ (by exact i0),show((k:Int)+1).toNat=k+1 by exact rfl];simp[AW]
   rw[c1,c2]at sb;rw[c1]at sa;rw[c1,c2]
   have IF:(AW (ps.take k)).length+(AW (ps.drop (k+1))).length<=1000:=by simp[AW];omega
   refine Bj (sb _ _ AF) AF IF λpp H5 s5 epp=>⟨by decide,λpt hpt=>⟨by decide,λn1 hn1=> ?_⟩⟩
   have epp':H5 pp=some (.tup (AW (ps.eraseIdx k))):=by rw[epp,fu];simp[AW]
   have sc:=AL (o:=.tup [V.int (m:Int),V.ref pp]) hpt
   have sd:=AL (o:=.lst []) hn1
   have iJ:=(sa.trans sb).trans s5;refine(J3.same (iJ.trans (sc.trans sd))).chg (kind:=3) (k:=rec) (x:=.rc m (ps.eraseIdx k)) (ns:=[]) (by decide) hm3 trivial ((iJ.trans (sc.trans sd)) _ _ eu3) (x2 pt pp ⟨rfl,sd _ _ AF,(sc.trans sd) _ _ epp'⟩) AF (by decide) (λy hy=>(by cases hy)) (oA hM rfl) λH6 J6 tk6=> ?_;push_cast[↓vI_];obtain⟨dl6,el6⟩:=J6.ly.ob;refine y2 ⟨el6,CC,CU (tk6 _ _ ((iJ.trans (sc.trans sd)) _ _ eu1)) (n:=k) rfl (by unfold AW;rw[ρ,g6];rfl) (c6 TL J6.ly λu7 hu7=>⟨by decide,λn2 hn2=> ?_⟩)⟩
   have s7:=AL (o:=.tup [.int (X.n+X.r+X.c+X.r+(p:Int) / X.w),.int ((p:Int) % X.w)]) hu7
   have e7:upd H6 u7 (.tup [.int (X.n+X.r+X.c+X.r+(p:Int) / X.w),.int ((p:Int) % X.w)]) u7=some (.tup [.int (AY X.n X.r X.c X.w 2 p:Nat),.int (p % X.w:Nat)]):=by rw[AF];simp[AY]
   have s8:=AL (o:=.lst [V.int M.as.length]) hn2;refine(J6.same (s7.trans s8)).chg (kind:=2) (k:=p) (x:=.mk 0) (ns:=[(M.as.length:Int)]) (by decide) (by simpa [AT]using g8) (by simp[EB]) (s8 _ _ e7) rfl AF (by simp) (λy hy=>by rw[ο.mp hy];exact i0) (by show M.as.length+1<=980;exact oC hM rfl) λH9 J9 _=> ?_;push_cast[↓vJ_];exact q H9 J9.lm (mono (dq _) J9.tk) J9.sb
 ·refine E6 (λz=>k6 (bc z)) ?_;cases D with
  | make h=>omega
  | link=>exact absurd hk4 (by decide)
  | move=>exact absurd hk7 (by decide)
  | cutOne=>exact absurd hk4 (by decide)
  | cutAll=>exact absurd hk4 (by decide)
  | take=>exact absurd k6 (by decide)
  | @put _ cell' rec' m' p ps' g g1 g2 g3 g4 g5 g6 g7 g8 =>
   rw[eo]at g1;cases g1;rw[e0]at g3;cases g3;rw[e3]at g4;cases g4;push_cast[↓vL_];obtain⟨dl3,el3⟩:=J3.ly.ob;refine y2 ⟨el3,CC,x5 ly X.n X.r X.c X.w ⟨rfl,TL,J3.ly,λt ht=> ?_⟩⟩
   have s4:=AL (o:=.tup [V.int ((X.n:Int) * X.w),V.int ((X.r:Int) * X.w),V.int ((X.c:Int) * X.w)]) ht;refine CU AF (n:=2) rfl rfl ?_;revert s4;generalize upd H3 t (.tup [V.int ((X.n:Int) * X.w),V.int ((X.r:Int) * X.w),V.int ((X.c:Int) * X.w)])=H4;intro s4
   have ekm:AT X.n X.r X.c X.w 2=X.c * X.w:=by simp[AT]
   have em:(X.c:Int) * X.w=(AT X.n X.r X.c X.w 2:Nat):=by rw[ekm];simp
   rw[em];push_cast[];refine⟨i0,by omega,OH (B:=λk=>(AY X.n X.r X.c X.w 2 k:Nat)) (w:=X.w) (oA bcw rfl) (λi H' Q' hi s' q'=> ?_) λts H5 l hts s' htt ED=> ?_⟩
   ·push_cast[D8];refine y2 ⟨s' _ _ (s4 _ _ el3),CC,x6 ly X.n X.r X.c X.w i ⟨(by simp),TL,(J3.ly.same s4).same s',?_⟩⟩;unfold AY at q';simpa using q'
   have s35:=s4.trans s'
   have J5:=J3.same s35;push_cast[↓vM_];refine⟨_,.inl ⟨_,SqL.of ED,rfl⟩,IK B hd la rw l X.n X.r X.c X.w 2 M ⟨by rw[ν,hts];rfl,J5.lm,by decide,⟨ts,ED,hts,htt⟩,oA bcw rfl,?_⟩⟩;rw[ekm,g5]
   have ect:=ζ (show p<ts.length by exact gk g6 hts.symm)
   have epl:=htt p _ ect;push_cast[↓vN_];refine D5 (n:=p) (SqL.of ED) rfl (by rw[ρ,ect];rfl) ⟨by decide,λn1 hn1=> ?_⟩
   have s6:=AL (o:=.lst []) hn1;refine(J5.same s6).chg (kind:=2) (k:=p) (x:=.mk 1) (ns:=[]) (by decide) (by rw[ekm];exact g6) (by simp[EB]) (s6 _ _ epl) rfl AF (by decide) (λy hy=>(by cases hy)) (oA hM rfl) λH7 J7 tk7=> ?_
   have kp:CG H3 H7:=λb ys e=>tk7 _ _ (s6 _ _ (s35 _ _ e));push_cast[↓vO_];obtain⟨dl7,el7⟩:=J7.ly.ob;refine y2 ⟨el7,CC,Bc TL J7.ly λu7 hu7=>⟨x,rfl,λH9 s9=>⟨by decide,λn2 hn2=> ?_⟩⟩⟩
   have s8:=AL (o:=.tup [.int (X.n+X.r+(p:Int) / X.w),.int ((p:Int) % X.w)]) hu7
   have e8:upd H7 u7 (.tup [.int (X.n+X.r+(p:Int) / X.w),.int ((p:Int) % X.w)]) u7=some (.tup [.int (AY X.n X.r X.c X.w 4 p:Nat),.int (p % X.w:Nat)]):=by rw[AF];simp[AY]
   have s10:=AL (o:=.lst [V.int M.as.length]) hn2
   have s79:=s8.trans (s9.trans s10);refine(J7.same s79).chg (kind:=4) (k:=p) (x:=.tx (JY x)) (ns:=[(M.as.length:Int)]) (by decide) (by simpa [AT]using g6) trivial ((s9.trans s10) _ _ e8) rfl AF (by simp) (λy hy=>by rw[ο.mp hy];exact i0) (by show M.as.length+1<=980;exact oC hM rfl) λH11 J11 tk11=> ?_
   have kp11:CG H3 H11:=λb ys e=>tk11 _ _ (s79 _ _ (kp _ _ e));push_cast[↓vP_];refine⟨by decide,λpa hpa=> ?_⟩
   have sa:=AL (o:=.tup [V.int (p:Int)]) hpa;refine cat_tup (sa _ _ (kp11 _ _ eu1)) AF (by simp) (by simp[AW];exact oA g8 rfl) λpp H12 C1 epp=>⟨by decide,λpt hpt=>⟨by decide,λn3 hn3=> ?_⟩⟩
   have sb:=AL (o:=.tup [V.int (m:Int),V.ref pp]) hpt
   have sc:=AL (o:=.lst [V.int (((M.put 2 p (.mk 1) (EW [])).as.length:Nat):Int)]) hn3
   have sz:=(sa.trans C1).trans (sb.trans sc);refine(J11.same sz).chg (kind:=3) (k:=rec) (x:=.rc m (ps++[p])) (ns:=[(((M.put 2 p (.mk 1) (EW [])).as.length:Nat):Int)]) (by decide) hm3 trivial (sz _ _ (kp11 _ _ eu3)) (x2 pt pp ⟨rfl,sc _ _ AF,(sb.trans sc) _ _ (by rw[epp];simp[AW])⟩) AF (by simp) (λy hy=>by rw[ο.mp hy];exact i0) (by show M.as.length+2<=980;exact oE hM rfl) λH13 J13 _=> ?_;exact q H13 J13.lm (mono (dq _) J13.tk) J13.sb
section
variable{X:SX}{cs:List Ch}{tks:List (AS × V)}{M:Hs}
def SM.sbG{G:Addr->Prop}{H':Hp}(I:X.at a H cs tks M)(s:SameBut G H H')(g:∀ x,G x->FB (H x))(f:∀ x,G x->¬ X.S.A.F x/\x≠X.S.tk):X.at a H' cs tks M:=by
 have tk:CG H H':=JD s g;obtain⟨⟨dx,e1⟩,e2,e3,e4,e5,e6,e7,e8,e9,e10,e11,e12⟩:=I;obtain⟨dl,el⟩:=e2.ob;exact⟨⟨dx,s _ _ e1 λz=>(g _ z).2 _ _ _ e1⟩,e2.sb s λz=>(g _ z).2 _ _ _ el,e3.sb s g λx hx=>(f x hx).1,s _ _ e4 λz=>(f _ z).2 rfl,e5,e6,e7,e8,e9.keep tk,λkind k v h1 h2 hv=>(e10 kind k v h1 h2 hv).keep tk,e11,e12.keep tk⟩
def C45.sbG{G:Addr->Prop}{H':Hp}(I:C45 a H X cs tks M)(s:SameBut G H H')(g:∀ x,G x->FB (H x))(f:∀ x,G x->¬ X.S.A.F x/\x≠X.S.tk):C45 a H' X cs tks M:=⟨I.st.sbG s g f,I.hi,I.b0,I.cut,I.rows.keep (JD s g),I.few,I.ok⟩
def C45.same{H':Hp}(I:C45 a H X cs tks M)(s:Same H H'):C45 a H' X cs tks M:=⟨I.st.same s,I.hi,I.b0,I.cut,I.rows.keep s.tk,I.few,I.ok⟩
def C45.put1{l:Addr}{o:HO}(I:C45 a H X cs tks M)(g:FB (H l))(f:¬ X.S.A.F l/\l≠X.S.tk):C45 a (upd H l o) X cs tks M:=I.sbG (G:=(· =l)) (λy o' e n=>by rw[AO n];exact e) (λx hx=>by rw[hx];exact g) λx hx=>by rw[hx];exact f
end
def Cb(ps:List Nat):AW ps=(ps.map λ(k:Nat)=>(k:Int)).map V.int:=by rw[pv];rfl
def Cc{x:CV}{v v':V}{Q:VK}(h:RepC H x v)(h':RepC H x v')(g:GoodV 4 H v)(q:Q (.bl false) H):EI K v v' H Q:=by
 cases x with
 | no=>rw[show v'=.non from h',<-show v=.non from h];exact cW g q
 | mk i=>rw[show v'=.int i from h',<-show v=.int i from h];exact cW g q
 | tx z=>rw[show v'=.str z from h',<-show v=.str z from h];exact cW g q
 | nm z k =>
  obtain⟨t,rfl,et⟩:=h;obtain⟨t',rfl,et'⟩:=h';obtain⟨xs,ex,_,gx⟩:=g;rw[et]at ex;cases ex;obtain⟨ds,D⟩:=zms (K:=K) gx;exact MS (n:=4) (by decide) (Dat.tup (SqT.of et) D) (Dat.tup (SqT.of et') D) q
 | rc m ps =>
  revert h;apply u2;rintro t u ⟨rfl,et,eu⟩;revert h';apply u2;rintro t' u' ⟨rfl,et',eu'⟩;rw[Cb]at eu eu'
  have D:∀ {u:Addr},H u=some (.tup ((ps.map λ(k:Nat)=>(k:Int)).map V.int))->Dat K H 2 (.ref u) (.tuple ((ps.map λ(k:Nat)=>(k:Int)).map zo)):=λe=>Dat.tup (n:=1) (SqT.of e) (JS _);exact MS (n:=3) (by decide) (Dat.tup (SqT.of et) (.cons (.int _) (.cons (D eu) .nil))) (Dat.tup (SqT.of et') (.cons (.int _) (.cons (D eu') .nil))) q
def Cd:∀ {l m:List Int},l.Pairwise (· <·)->m.Pairwise (· <·)->(∀ x,x∈l↔x∈m)->l=m
 | [],[],_,_,_=>rfl
 | [],y::_,_,_,h=>absurd ((h y).mpr (by simp)) (by simp)
 | x::_,[],_,_,h=>absurd ((h x).mp (by simp)) (by simp)
 | x::l,y::m,hl,hm,h=>by
  obtain⟨l1,l2⟩:=iz.mp hl;obtain⟨m1,m2⟩:=iz.mp hm
  have hx:x=y:=by
   rcases ak.mp ((h x).mp (by simp))with e | e
   ·exact e
   ·rcases ak.mp ((h y).mpr (by simp))with e2 | e2
    ·exact e2.symm
    ·have:=m1 x e;have:=l1 y e2;omega
  subst hx
  congr 1
  refine Cd l2 m2 λz=>⟨λhz=> ?_,λhz=> ?_⟩
  ·have:=l1 z hz;exact(ak.mp ((h z).mp (χ _ hz))).resolve_left (Jr this)
  ·have:=m1 z hz;exact(ak.mp ((h z).mpr (χ _ hz))).resolve_left (Jr this)
def VA{B:Addr->Prop}{n r c w:Nat}{cs:List Ch}{as:List AC}{rs:List Addr}(A:LaidA n r c w H cs as)(L:LaidL n r c w B H rs as)(hs:∀ ch∈cs,ch.nd.Pairwise (· <·)):∀ (k:Nat) ch t,cs[k]? =some ch->rs[k]? =some t->∃ pl nl v x kind kk,H t=some (.tup [.ref pl,v,.ref nl])/\H pl=some (.tup [.int (AY n r c w kind kk:Nat),.int (kk % w:Nat)])/\RepC H x v/\RepC H x ch.val/\H nl=some (.lst (ch.nd.map V.int))/\¬ B nl/\kind<5/\kk<AT n r c w kind/\ch.blk=AY n r c w kind kk/\ch.cell=kk % w/\∃ nd',as.reverse[k]? =some ⟨kind,kk,x,nd'⟩:=by
 induction A generalizing rs with
 | nil=>intro k ch t e;simp at e
 | @snoc cs as ch0 x0 A e1 e2 e3 e4 e5 e6 ih =>
  cases L with
  | @snoc rs' _ t0 pl0 nl0 _ v0 nds L f1 f2 f3 f4 f5 f6 f7 f8 f9 =>
   intro k ch t ec et
   have len:=A.len
   have len':=L.len;by_cases hk:k<cs.length
   ·rw[am hk]at ec;rw[am (by omega)]at et;refine u6 ?_ (ih L (λc hc=>hs c (gr _ hc)) k ch t ec et);rintro pl nl v x kind kk ⟨p1,p2,p3,p4,p5,p6,p7,p8,p9,p10,nd',p11⟩;exact x6 pl nl v x kind kk ⟨p1,p2,p3,p4,p5,p6,p7,p8,p9,p10,nd',by rw[dh,am (by rw[ax];exact len ▸ hk)];exact p11⟩
   ·have hk':=(ι.mp ec).1;rw[aj]at hk'
    have:k=cs.length:=by simp at hk';omega
    subst this;rw[ao (ξ _),ko]at ec;rw[show cs.length=rs'.length by exact len.trans len'.symm,ao (ξ _),ko]at et;cases ec;cases et
    have:nds=ch0.nd:=Cd f6 (hs ch0 (by simp)) λy=>by rw[f7,e4]
    rw[this]at f4;exact x6 pl0 nl0 v0 x0.x x0.kind x0.k ⟨f1,f2,f3,e3,f4,f5,f8,f9,e1,e2,x0.nd,by rw[dh,ao (by rw[ax];exact bn len.symm),ax,show cs.length - as.length=0 by omega];rfl⟩
def zoj:UQ K a vs H Q E->bF K a (λ_=>E) (BC Q) (start ["","","","",""] vs) H:=by
 apply OV;rintro B hd la rw l X cs tks M N d ⟨rfl,⟨T,TP,TL,TS⟩,C,I,ecs,el,q⟩;obtain⟨rs,ers,L⟩:=I.rs
 have lrs:=L.len
 have lcs:=C.st.la.len
 have c990:=C.st.bk.bk.sz;obtain⟨db,eb⟩:=C.st.bk.bk.ob
 have need:∀ ch∈cs,ch.nd.Pairwise (· <·):=λch hc=>by
  obtain⟨k,hk⟩:=rg.mp hc;exact(C.st.bk.bk.need k ch hk).2.1
 have lrs':(rs.map V.ref).length=N+d:=by rw[ν];omega
 push_cast[bF,↓tK_];refine LQ (.inl (.lst el)) (.ty _) (b:=true) rfl ?_;push_cast[];refine⟨_,.inl ⟨_,SqL.of ers,rfl⟩,i0,by omega,i0,by omega,?_⟩;rw[lrs',show(((N+d:Nat):Int) - (N:Nat)).toNat=d by omega];refine Vp (C4 _ (by omega)) (λi=>V.int ((N:Int)+i)) (λi hi Q' hq=> ?_) λl2 K9=> ?_
 ·push_cast[D8];exact hq
 have s1:=AL (o:=.lst ((ag d).map λi=>V.int ((N:Int)+(i:Nat)))) K9
 have e1:upd H l2 (.lst ((ag d).map λi=>V.int ((N:Int)+(i:Nat)))) l2=some (.lst (AW ((ag d).map (N+·)))):=by rw[AF];simp[AW,pr]
 revert s1 e1;generalize upd H l2 (.lst ((ag d).map λi=>V.int ((N:Int)+(i:Nat))))=H1;intro s1 e1
 have el1:=s1 _ _ el;rw[zly]at el1 e1;refine nC (MS (n:=2) (by decide) (Dat.lst (n:=1) (SqL.of el1) (JS _)) (Dat.lst (n:=1) (SqL.of e1) (JS _)) ?_);push_cast[];push_cast[↓tM_];refine⟨_,.inl ⟨_,SqL.of (s1 _ _ ers),rfl⟩,i0,by omega,i0,by omega,?_⟩;rw[lrs',show(((N+d:Nat):Int) - (N:Nat)).toNat=d by omega];refine MP (λi σ H'=>Same H H'/\∃ y4,σ=[some (.ref X.S.A.b),some (.ref l),some (.ref rw),some (.int N),y4]) ⟨s1,_,rfl⟩ (λi σ H' hi hzz=> ?_) (λσ H' hzz=> ?_)
 ·obtain⟨s,y4,es⟩:=hzz;subst es;push_cast[↓tL_];rw[show((N:Int)+(i:Nat) - (N:Nat))=((i:Nat):Int) by omega];refine D5 (n:=i) (v:=.int ((N+i:Nat):Int)) (SqL.of (s _ _ el)) rfl (by unfold AW;rw[ρ,ρ,List.getElem?_range hi];rfl) (LQ (.inl (.int _)) (.ty _) (b:=false) rfl ?_);push_cast[]
  have hk:N+i<cs.length:=ecs ▸ Nat.add_lt_add_left hi _
  have ec:=ζ hk
  have et:=ζ (show N+i<rs.length by omega);refine y2 ⟨s _ _ eb,EA,x7 X.S.A X.w X.rows X.nn cs X.outs _ ⟨rfl,T,C.st.bk.same s,λk ch l3 H3 ek ech hl3 s3 el3=> ?_,λhn=>absurd ⟨i0,by omega⟩ hn⟩⟩
  have:k=N+i:=bc ek.symm;subst this
  have K8:=s.trans s3;refine u6 ?_ (VA C.st.la L need _ _ _ ech et);rintro pl nl v x kind kk ⟨f1,f2,f3,f4,f5,_⟩;refine D5 (n:=N+i) (SqL.of (K8 _ _ ers)) (rfl) (by rw[ρ,et];rfl) (CU (K8 _ _ f1) (n:=2) rfl rfl ?_);refine nC (MS (n:=2) (by decide) (Dat.lst (n:=1) (SqL.of el3) (JS _)) (Dat.lst (n:=1) (SqL.of (K8 _ _ f5)) (JS _)) ?_);push_cast[];exact K8
 ·obtain⟨s,y4,es⟩:=hzz;subst es;push_cast[↓tN_];exact q _ s
def zok:UR K a vs H Q E->bU K a (λ_=>E) (BC Q) (start ["","","","","",""] vs) H:=by
 apply u9;rintro B hd la rw X cs tks M N ⟨rfl,⟨T,TP,TL,TS⟩,C,I,hN,q⟩;obtain⟨rs,ers,L⟩:=I.rs
 have lrs:=L.len
 have lcs:=C.st.la.len
 have c990:=C.st.bk.bk.sz;obtain⟨db,eb⟩:=C.st.bk.bk.ob
 have need:∀ ch∈cs,ch.nd.Pairwise (· <·):=λch hc=>by
  obtain⟨k,hk⟩:=rg.mp hc;exact(C.st.bk.bk.need k ch hk).2.1
 push_cast[bU,↓v3_]
 have ecut:EY (rs.map V.ref) (some (N:Int)) none=(rs.drop N).map V.ref:=by rw[XX _ (by exact i0),ai,Ik]
 refine mU (SqL.of ers) λrr hrr=> ?_;rw[ecut]
 have s1:=AL (o:=.lst ((rs.drop N).map V.ref)) hrr
 have e1:upd H rr (.lst ((rs.drop N).map V.ref)) rr=some (.lst ((rs.drop N).map V.ref)):=AF;revert s1 e1;generalize upd H rr (.lst ((rs.drop N).map V.ref))=H1;intro s1 e1;refine(.inl ⟨⟨_,SqL.of e1⟩,MO (xs:=(rs.drop N).map V.ref) (λi σ H'=>Same H1 H'/\∃ y5,σ=[some (.ref X.S.A.b),some (.ref hd),some (.ref la),some (.ref rw),some (.int N),y5]) ⟨Same.refl _,_,rfl⟩ (λi σ H' _ ⟨s,_⟩=>SqL.of (s _ _ e1)) (λi v σ H' ev hzz=> ?_) (λσ H' hzz=> ?_)⟩)
 ·obtain⟨s,y5,es⟩:=hzz;subst es;rw[ρ,bq]at ev;obtain⟨t,et,rfl⟩:=ev;rw[zi]at et
  have hk:N+i<cs.length:=by have:=(ι.mp et).1;omega
  have ech:=ζ hk;refine u6 ?_ (VA C.st.la L need _ _ _ ech et);rintro pl nl v x kind kk ⟨f1,f2,f3,f4,f5,_,h1,hkm,eb1,eb2,_⟩
  have sH:=s1.trans s
  have nw:=(C.st.la.newest h1 hkm).1;refine u2 ?_ (YA ech);rintro j0 c0 ⟨hn0,_⟩;rw[eb1,eb2,nw]at hn0
  have nw:ES cs (AY X.n X.r X.c X.w kind kk:Nat) (kk % X.w:Nat)=some j0:=by rw[nw];exact hn0
  have C':=C.same sH
  have onp:=C.st.onPl h1 hkm;push_cast[↓vZ_];refine y2 ⟨sH _ _ eb,EA,CU (sH _ _ f1) (n:=0) rfl rfl (x9 X.S.A X.w X.rows X.nn cs X.outs pl _ _ ⟨rfl,T,TP,C'.st.bk,sH _ _ f2,λ_ v1 H2 ev1 s2=> ?_,λz=>absurd onp z⟩)⟩
  have IE:=sH.trans s2;obtain⟨kh,ekh,_,hkh⟩:=(I.same IE).hn
  have iL:∃ v2,BT kh (pK X.n X.r X.c X.w kind kk)=some v2/\RepC H2 (M kind kk) v2:=by
   rcases hkh kind kk h1 hkm with⟨h2,_⟩ | ⟨v2,h2,h3,_⟩
   ·rw[h2]at hn0;cases hn0
   ·exact⟨v2,h2,h3⟩
  obtain⟨v2,iL,rv2⟩:=iL;refine CU (IE _ _ f1) (n:=0) rfl rfl ⟨v2,PY ekh (IE _ _ f2) iL,?_⟩
  have rv1:=(C.st.rp kind kk v1 h1 hkm ev1).keep IE.tk;refine nC (Cc rv1 rv2 (Aq (C.same IE).st.gd ev1) ?_);push_cast[];obtain⟨kl,ekl,_,IG⟩:=(I.same IE).ls;refine y2 ⟨IE _ _ eb,EA,CU (IE _ _ f1) (n:=0) rfl rfl (x9 X.S.A X.w X.rows X.nn cs X.outs pl _ _ ⟨rfl,T,TP,(C.same IE).st.bk,IE _ _ f2,λ_=> ?_,λz=>absurd onp z⟩)⟩;rw[nw];refine CU (IE _ _ f1) (n:=0) rfl rfl ⟨.int j0,PY ekl (IE _ _ f2) (by rw[show BT kl [.inl ((AY X.n X.r X.c X.w kind kk:Nat):Int),.inl ((kk % X.w:Nat):Int)]=_ from IG kind kk h1 hkm,hn0];rfl),?_⟩;rw[show IB (some j0)=.int (j0:Nat)from rfl];push_cast[];exact s.trans s2
 ·obtain⟨s,y5,es⟩:=hzz;subst es;push_cast[↓v4_];exact q _ (s1.trans s)
def zol{n r c w b y:Nat}(hb:b<n+r+c+r+c)(hy:y<w):∃ kind k,kind<5/\k<AT n r c w kind/\AY n r c w kind k=b/\k % w=y:=by
 have key:∀ s t:Nat,s<=b->b<s+t->((b - s) * w+y) / w=b - s/\((b - s) * w+y) % w=y/\(b - s) * w+y<t * w:=λs t h1 h2=>by
  refine⟨?_,?_,?_⟩
  ·rw[ji,Nat.mul_add_div (by omega),Nat.div_eq_of_lt hy];rfl
  ·rw[ji,Nat.mul_add_mod,Nat.mod_eq_of_lt hy]
  ·have:(b - s+1) * w<=t * w:=Nat.mul_le_mul_right w (by omega);rw[Nat.add_mul]at this;omega
 by_cases h0:b<n
 ·obtain⟨a1,a2,a3⟩:=key 0 n (ue _ _) (by omega);exact x2 0 _ ⟨by decide,by simpa [AT]using a3,by simp only[AY,if_true];omega,a2⟩
 by_cases h1:b<n+r
 ·obtain⟨a1,a2,a3⟩:=key n r (bu h0) (h1);exact x2 3 _ ⟨by decide,by simpa [AT]using a3,by simp[AY];omega,a2⟩
 by_cases h2:b<n+r+c
 ·obtain⟨a1,a2,a3⟩:=key (n+r) c (bu h1) (h2);exact x2 4 _ ⟨by decide,by simpa [AT]using a3,by simp[AY];omega,a2⟩
 by_cases h3:b<n+r+c+r
 ·obtain⟨a1,a2,a3⟩:=key (n+r+c) r (bu h2) (h3);exact x2 1 _ ⟨by decide,by simpa [AT]using a3,by simp[AY];omega,a2⟩
 ·obtain⟨a1,a2,a3⟩:=key (n+r+c+r) c (bu h3) (hb);exact x2 2 _ ⟨by decide,by simpa [AT]using a3,by simp[AY];omega,a2⟩
def zom{x:CV}{v:V}{Q:VK}(h:RepC H x v)(q:Q (.bl false) H):MN K [v,.ty "bool"] H Q:=by
 cases x with
 | no=>rw[show v=.non from h];exact LQ (.inl .non) (.ty _) (b:=false) rfl q
 | nm z k =>
  obtain⟨t,rfl,et⟩:=h;exact LQ (.inl (.tup et)) (.ty _) (b:=false) rfl q
 | mk i=>rw[show v=.int i from h];exact LQ (.inl (.int _)) (.ty _) (b:=false) rfl q
 | rc m ps =>
  revert h;apply u2;rintro t u ⟨rfl,et,_⟩;exact LQ (.inl (.tup et)) (.ty _) (b:=false) rfl q
 | tx z=>rw[show v=.str z from h];exact LQ (.inl (.str _)) (.ty _) (b:=false) rfl q
def zon:Y5 K a vs H Q E->bG K a (λ_=>E) (BC Q) (start ["","","","","",""] vs) H:=by
 apply u6;rintro X cs tks M sd N ⟨rfl,⟨T,TP,TL,TS⟩,C,⟨ks,eks,_,hks⟩,q⟩;obtain⟨z1,z2,z3,z4,z5⟩:=C.st.sz
 have L:=C.st.ly;obtain⟨dl,el⟩:=L.ob;push_cast[bG,↓tR_];refine y2 ⟨el,CC,x5 X.S.lp X.n X.r X.c X.w ⟨rfl,TL,L,i0,by omega,?_⟩⟩;rw[show((X.n:Int)+X.r+X.c+X.r+X.c).toNat=X.n+X.r+X.c+X.r+X.c from rfl];refine MP (λi σ H'=>Same H H'/\∃ y3 y4 y5,σ=[some (.ref X.S.lp),some (.ref X.S.A.gp),some (.ref sd),y3,y4,y5]) ⟨Same.refl _,x3 _ _ _ rfl⟩ (λi σ H' hi hzz=> ?_) (λσ H' hzz=> ?_)
 ·obtain⟨s,y3,y4,y5,es⟩:=hzz;subst es
  have P':=C.st.bk.pk.same s;obtain⟨dp,ep⟩:=P'.ob;push_cast[↓tO_,pq];refine y2 ⟨ep,cT _ _ _,x6 X.S.A.gp X.S.A.cl X.w X.rows X.nn i ⟨rfl,TP,P',λb' row eb er vl hvl=> ?_,λz=>by omega⟩⟩;obtain rfl:i=b':=bc eb
  have rw1:=P'.wd row (π er);refine nO hvl λH2 s2 e2=> ?_;push_cast[↓tQ_];refine⟨row.length,.inl ⟨_,SqL.of e2,rfl⟩,i0,by omega,?_⟩;rw[rw1];refine MP (λj σ H'=>Same H2 H'/\∃ y5,σ=[some (.ref X.S.lp),some (.ref X.S.A.gp),some (.ref sd),some (.int i),some (.ref vl),y5]) ⟨Same.refl _,_,rfl⟩ (λj σ H3 hj hzz=> ?_) (λσ H3 hzz=> ?_)
  ·obtain⟨s3,y5,es⟩:=hzz;subst es
   have ej:=ζ (show j<row.length by exact rw1 ▸ hj)
   have sH:=(s.trans s2).trans s3;refine u2 ?_ (zol (n:=X.n) (r:=X.r) (c:=X.c) hi hj);rintro kind k ⟨hk5,hk,ek1,ek2⟩
   have rv:=(C.rows kind k (row[j]'(rw1 ▸ hj)) hk5 hk (by rw[ek1,ek2,er];exact ej)).keep sH.tk
   have gv:=(C.same sH).st.gd.1 row (π er) _ (π ej);push_cast[↓tP_,pq];refine D5 (SqL.of (s3 _ _ e2)) rfl ej ⟨.inr ⟨_,.inl (sH _ _ eks)⟩,by decide,λp hp=> ?_⟩
   have s4:=AL (o:=.tup [V.int (i:Int),V.int (j:Int)]) hp
   have e4:upd H3 p (.tup [V.int (i:Int),V.int (j:Int)]) p=some (.tup [V.int (i:Int),V.int (j:Int)]):=AF;revert s4 e4;generalize upd H3 p (.tup [V.int (i:Int),V.int (j:Int)])=H4;intro s4 e4
   have rs:=(hks kind k hk5 hk).keep (sH.trans s4).tk;rw[show pK X.n X.r X.c X.w kind k=[.inl (i:Int),.inl (j:Int)] by show [_,_]=_;rw[ek1,ek2]]at rs;refine⟨_,MR ((sH.trans s4) _ _ eks) e4,nC (Cc (rv.keep s4.tk) rs ((C.same (sH.trans s4)).st.gd.1 row (π er) _ (π ej)) ?_)⟩;push_cast[];refine D5 (SqL.of ((s3.trans s4) _ _ e2)) rfl ej (zom (rv.keep s4.tk) ?_);push_cast[];exact s3.trans s4
  ·obtain⟨s3,y5,es⟩:=hzz;subst es;push_cast[];exact(s.trans s2).trans s3
 ·obtain⟨s,y3,y4,y5,es⟩:=hzz;subst es;push_cast[↓tS_];exact q _ s
structure WI(H2:Hp)(cs:List Ch)(M:Hs)(outs:Int->Bool)(b n r c w N:Nat)(gn sd ol hl:Addr)(i:Nat)(H':Hp):Prop where
 g:∃ gs:List Bool,H' gn=some (.lst (gs.map V.bl))/\i<=gs.length/\gs.length<=cs.length/\(∀ (k:Nat) q,gs[k]? =some q->(outs k || (BN cs outs b i).gone k)=q)/\∀ k:Nat,gs.length<=k->outs k=false
 o:H' ol=some (.lst (AW (BN cs outs b i).out))
 h:∃ hs:List Addr,H' hl=some (.lst (hs.map V.ref))/\Paired (λx (p:Nat × Int)=>H' x=some (.tup [.int p.1,.int p.2])) hs (BN cs outs b i).held
 s:ShL H' sd n r c w (sh M.b (λj=>outs (j:Nat) || (BN cs outs b i).gone (j:Nat)) M.as) (N+i)
 f:SameBut (λx=>x=gn\/x=sd\/x=ol\/x=hl) H2 H'
def WI.up{H2 H':Hp}{cs:List Ch}{M:Hs}{outs:Int->Bool}{b n r c w N i:Nat}{gn sd ol hl:Addr}{gs:List Bool}(W:WI H2 cs M outs b n r c w N gn sd ol hl i H')(e:BN cs outs b (i+1)=BN cs outs b i)(eg:H' gn=some (.lst (gs.map V.bl)))(hi:i<gs.length):WI H2 cs M outs b n r c w N gn sd ol hl (i+1) H':=by
 obtain⟨⟨gs',eg',li,lgs,hg,hgo⟩,o,h,⟨ks,e1,e2,e3⟩,f⟩:=W
 have:gs'=gs:=by
  rw[eg]at eg'
  have:=HO.lst.inj (cm eg');exact(n_ λa b h=>V.bl.inj h).mp this.symm
 subst this;exact⟨⟨gs',eg',hi,lgs,by rw[e];exact hg,hgo⟩,by rw[e];exact o,by rw[e];exact h,⟨ks,e1,av e2,by rw[e];exact e3⟩,f⟩
def WI.same{H2 H' H3:Hp}{cs:List Ch}{M:Hs}{outs:Int->Bool}{b n r c w N i:Nat}{gn sd ol hl:Addr}(W:WI H2 cs M outs b n r c w N gn sd ol hl i H')(s:Same H' H3):WI H2 cs M outs b n r c w N gn sd ol hl i H3:=by
 obtain⟨⟨gs',eg',g⟩,o,⟨hs,e1,e2⟩,⟨ks,e3,e4,e5⟩,f⟩:=W;exact⟨⟨gs',s _ _ eg',g⟩,s _ _ o,⟨hs,s _ _ e1,Paired.mapP e2 λx p h=>s _ _ h⟩,⟨ks,s _ _ e3,e4,λkind k a1 a2=>(e5 kind k a1 a2).keep s.tk⟩,λy o e n=>s _ _ (f _ _ e n)⟩
def Cg{α β :Type}{F: α -> β ->Prop}{x: α}{y: β}:∀ {l:List α} {m:List β},Paired F l m->F x y->Paired F (l++[x]) (m++[y])
 | _,_,.nil,h=>.cons h .nil
 | _,_,.cons h t,h'=>.cons h (Cg t h')
def zoo{cs:List Ch}{outs:Int->Bool}{b i:Nat}(h:outs (i:Nat)=true):BN cs outs b (i+1)=BN cs outs b i:=by
 rcases nS (cs:=cs) (outs:=outs) (b:=b) (i:=i)with e | e
 ·exact e
 ·rw[e];unfold DH;rw[h]
  rfl
def Cj{cs:List Ch}{outs:Int->Bool}:∀ (l:List Nat) (P:Pass),(∀ x,P.gone x=P.out.any λ(k:Nat)=>x ==(k:Int))->∀ x,(l.foldl (DH cs outs) P).gone x=(l.foldl (DH cs outs) P).out.any λ(k:Nat)=>x ==(k:Int)
 | [],_,h=>h
 | i::l,P,h=>by
  refine Cj l _ λx=> ?_;unfold DH;split
  ·exact h x
  ·split
   ·simp only[F_,jt,Js,dt,h]
   ·exact h x
def zop{cs:List Ch}{outs:Int->Bool}{b i:Nat}(x:Int):(BN cs outs b i).gone x=(BN cs outs b i).out.any λ(k:Nat)=>x ==(k:Int):=Cj _ _ (λ_=>rfl) x
def Ck{K:η}{H:Hp}:∀ {hs:List Addr} {held:List (Nat × Int)},Paired (λx (p:Nat × Int)=>H x=some (.tup [.int p.1,.int p.2])) hs held->Paired (Dat K H 1) (hs.map V.ref) (held.map λp=>Jt [.int p.1,.int p.2])
 | _,_,.nil=>.nil
 | _,_,.cons h t=>.cons (.tup (SqT.of h) (.cons (.int _) (.cons (.int _) .nil))) (Ck t)
def ToldAt.datX{K:η}{H:Hp}{t ol hl:Addr}{out:List Nat}{held:List (Nat × Int)}(h:ToldAt H t ol hl out held):Dat K H 3 (.ref t) (.tuple [.list (out.map λ(k:Nat)=>zo k),.list (held.map λp=>Jt [.int p.1,.int p.2])]):=by
 obtain⟨h1,h2,hs,h3,h4⟩:=h
 have e:∀ l:List Nat,Paired (Dat K H 1) (l.map λ(k:Nat)=>V.int k) (l.map λ(k:Nat)=>zo k):=λl=>by
  have:=JS (K:=K) (H:=H) (n:=1) (l.map λ(k:Nat)=>(k:Int));rw[pv,pv]at this;exact this
 exact .tup (SqT.of h1) (.cons (.lst (SqL.of h2) (e out)) (.cons (.lst (SqL.of h3) (Ck h4)) .nil))
def zoq:QW K a vs H Q E->bW K a (λ_=>E) (BC Q) (start ["","","","","","","","","","","","",""] vs) H:=by
  apply RH;rintro B hd la rw gn sd X cs tks M b N ⟨rfl,T4,C,I,hb,⟨gs0,egn,lg0,hg0,hg1⟩,⟨ks0,esd,lks0,hks0⟩,hN,nsh,nsl,ngr,⟨Bgn,Bsd,hF⟩,Bst,q⟩
  have T4':=T4;obtain⟨T,TP,TL,TS⟩:=T4;obtain⟨rs,ers,L⟩:=I.rs
  have lrs:=L.len
  have lcs:=C.st.la.len
  have c990:=C.st.bk.bk.sz
  have lrc:rs.length=cs.length:=lrs.trans lcs.symm;clear lrs
  have need:∀ ch∈cs,ch.nd.Pairwise (· <·):=λch hc=>by
    obtain⟨k,hk⟩:=rg.mp hc;exact(C.st.bk.bk.need k ch hk).2.1
  push_cast[bW,↓v5_,↓v6_];refine⟨by decide,λol hol=>⟨by decide,λhl hhl=> ?_⟩⟩
  have nol:ol≠hl:=BL AF hhl
  have s1:=(AL (o:=.lst []) hol).trans (AL (o:=.lst []) hhl)
  have eol:upd (upd H ol (.lst [])) hl (.lst []) ol=some (.lst []):=by rw[AO nol,AF]
  have ehl:upd (upd H ol (.lst [])) hl (.lst []) hl=some (.lst []):=AF
  have hhl:H hl=none:=by rw[AO nol.symm]at hhl;exact hhl
  revert s1 eol ehl;generalize upd (upd H ol (.lst [])) hl (.lst [])=H2;intro s1 eol ehl;push_cast[↓wF_]
  have lrs':(rs.map V.ref).length=cs.length:=by rw[ν];exact lrc
  refine⟨_,.inl ⟨_,SqL.of (s1 _ _ ers),rfl⟩,i0,by omega,?_⟩;rw[lrs']
  have W0:WI H2 cs M X.outs b X.n X.r X.c X.w N gn sd ol hl 0 H2:=by
    refine⟨⟨gs0,s1 _ _ egn,a_ _,lg0,λk q e=> ?_,hg1⟩,eol,⟨[],ehl,.nil⟩,⟨ks0,s1 _ _ esd,lks0,λkind k h1 h2=> ?_⟩,λ_ _ e _=>e⟩
    ·rw[YF];simp only[dt];exact hg0 k q e
    ·rw[YF];simp only[dt];exact(hks0 kind k h1 h2).keep s1.tk
  have rwk:∀ {H':Hp} {i:Nat},WI H2 cs M X.outs b X.n X.r X.c X.w N gn sd ol hl i H'->CG H H'/\H' rw=some (.lst (rs.map V.ref))/\∀ x (xs:List V),H x=some (.lst xs)->¬ B x->H' x=some (.lst xs):=λW=>by
    have far:∀ {y:Addr} {o:HO},H y=some o->y≠gn->y≠sd->_:=λ{y o} e z1 z2=>W.f _ _ (s1 _ _ e) λz=>by
      rcases z with z | z | z | z
      ·exact z1 z
      ·exact z2 z
      ·rw[z,hol]at e;cases e
      ·rw[z,hhl]at e;cases e
    exact⟨λy ys e=>far e (A0 e egn (by intro z;cases z)) (A0 e esd (by intro z;cases z)),far ers ngr.symm (A0 ers esd (by intro z;cases z)),λy xs e nb=>far e (λz=>nb (z ▸ Bgn)) (A0 e esd (by intro z;cases z))⟩
  have stp : ∀ {D:Ends} {y10:Option V} {H':Hp} {i:Nat} {gs:List Bool},i<cs.length->WI H2 cs M X.outs b X.n X.r X.c X.w N gn sd ol hl i H'->H' gn=some (.lst (gs.map V.bl))->i<gs.length->(∀ H'' y10',WI H2 cs M X.outs b X.n X.r X.c X.w N gn sd ol hl (i+1) H''->D.nx [some (.ref X.S.lp),some (.ref X.S.A.gp),some (.ref X.S.st),some (.ref rw),some (.ref gn),some (.ref sd),some (.int b),some (.ref ol),some (.ref hl),some (.int (i:Nat)),y10',none,none] H'')->bV K a (λ_=>E) (λ_=>E) D [some (.ref X.S.lp),some (.ref X.S.A.gp),some (.ref X.S.st),some (.ref rw),some (.ref gn),some (.ref sd),some (.int b),some (.ref ol),some (.ref hl),some (.int (i:Nat)),y10,none,none] H':=λ{D y10 H' i gs} hi W eg BH hD=>by
    obtain⟨gs',eg',li,lgs,hg,hgo⟩:=W.g
    have:gs'=gs:=by
      rw[eg]at eg'
      have:=HO.lst.inj (cm eg');exact(n_ λa b h=>V.bl.inj h).mp this.symm
    subst this;obtain⟨tk,erw,nlk⟩:=rwk W
    have ech:=ζ hi
    have et:=ζ (lrc ▸ hi:i<rs.length);refine u6 ?_ (VA C.st.la L need _ _ _ ech et);rintro pl nl v x kind kk ⟨f1,f2,f3,f4,f5,nB,h1,hkm,eb1,eb2,nda,eac⟩
    have egi:=ζ BH
    have hgi:X.outs (i:Nat)=gs'[i]:=by have:=hg i _ egi;rw[OD (ξ _),dt]at this;exact this
    have ixr:∀ {Q':VK},Q' (.ref (rs[i]'(lrc ▸ hi))) H'->CB K (.ref rw) (.int (i:Nat)) H' Q':=λh=>D5 (n:=i) (SqL.of erw) rfl (by rw[ρ,et];rfl) h;push_cast[↓bV_];refine D5 (n:=i) (v:=.bl gs'[i]) (SqL.of eg) rfl (by rw[ρ,egi];rfl) ?_;push_cast[];by_cases hq:gs'[i]=true
    ·exact E6 (by rw[hq];simp) (hD _ _ (W.up (zoo (by rw[hgi];exact hq)) eg BH))
    · have hq:gs'[i]=false:=by simpa using hq
      refine FV hq (ixr (CU (tk _ _ f1) (n:=0) rfl rfl (CU (tk _ _ f2) (n:=0) rfl rfl ?_)));push_cast[];by_cases hbk:AY X.n X.r X.c X.w kind kk=b
      · refine FV (congrArg _ hbk) ?_
        push_cast[↓v9_];obtain⟨nd1,_,nd3⟩:=C.st.bk.bk.need i _ ech
        have enl:=nlk _ _ f5 nB;refine ixr (CU (tk _ _ f1) (n:=2) rfl rfl (.inl ⟨⟨_,SqL.of enl⟩,lY (λv=>match v with | .int y=> !(X.outs y || (BN cs X.outs b i).gone y) | _=>false) (C4 _ (by rw[ν];exact oA nd3 rfl)) (SqL.of enl) (λv hv QB hqb=> ?_) λlk hlk=> ?_⟩))
        · obtain⟨y,hy,rfl⟩:=cj.mp hv
          obtain⟨y0,yi⟩:=nd1 y hy
          have hyl:y.toNat<gs'.length:=by omega
          have ey:=ζ hyl
          have hgy:=hg _ _ ey;rw[show((y.toNat:Nat):Int)=y by exact c_ y0]at hgy;push_cast[D8];refine D5 (n:=y.toNat) (v:=.bl gs'[y.toNat]) (SqL.of eg) ((c_ y0).symm) (by rw[ρ,ey];rfl) ?_;push_cast[];rw[<-hgy];exact hqb
        have efl:((cs[i].nd.map V.int).filter λv=>match v with | .int y=> !(X.outs y || (BN cs X.outs b i).gone y) | _=>false)=(cs[i].nd.filter λy=> !(X.outs y || (BN cs X.outs b i).gone y)).map V.int:=by
          rw[List.filter_map];rfl
        rw[efl];refine nO hlk λH3 s3 e3=> ?_;push_cast[↓wE_];refine⟨by decide,λpe hpe=> ?_⟩
        have s4:=AL (o:=.lst []) hpe
        have e4:upd H3 pe (.lst []) pe=some (.lst []):=AF;revert s4 e4;generalize upd H3 pe (.lst [])=H4;intro s4 e4
        have s34:=s3.trans s4
        have W4:=W.same s34
        have eg4:=s34 _ _ eg
        have e34:=s4 _ _ e3;refine Ym (n:=1) (by decide) (SqL.of e34) (JS _) (SqL.of e4) ?_;push_cast[]
        have pst:BN cs X.outs b (i+1)=DH cs X.outs (BN cs X.outs b i) i:=zc2 ech (by rw[eb1];exact hbk)
        have ho:X.outs (i:Nat)=false:=by rw[hgi];exact hq
        have hps:DH cs X.outs (BN cs X.outs b i) i=(match IY cs[i].nd λx=>X.outs x || (BN cs X.outs b i).gone x with
          | none=>⟨(BN cs X.outs b i).out++[i],(BN cs X.outs b i).held,λx=>(BN cs X.outs b i).gone x || x ==(i:Int)⟩
          | some l=>⟨(BN cs X.outs b i).out,(BN cs X.outs b i).held++[(i,l)],(BN cs X.outs b i).gone⟩):=by
          unfold DH;rw[ho,OD (ξ _),ech]
          rfl
        cases iK:cs[i].nd.filter λy=> !(X.outs y || (BN cs X.outs b i).gone y)with
        | nil =>
          have hlack:IY cs[i].nd (λx=>X.outs x || (BN cs X.outs b i).gone x)=none:=by
            unfold IY;rw[<-Co,iK]
            rfl
          rw[hlack]at hps;refine FV (by simp) ?_;push_cast[↓wA_];refine x4 gn (gs'.map V.bl) i i ⟨rfl,rfl,eg4,by rw[ν];unfold JO;rw[if_pos (by exact i0),if_pos (by exact bv.mpr BH)];rfl,?_⟩
          have neo:gn≠ol/\gn≠hl:=⟨λz=>(by rw[z,hol]at egn;cases egn),λz=>(by rw[z,hhl]at egn;cases egn)⟩
          have nsd:gn≠sd:=A0 egn esd (by intro z;cases z)
          have nso:sd≠ol/\sd≠hl:=⟨λz=>(by rw[z,hol]at esd;cases esd),λz=>(by rw[z,hhl]at esd;cases esd)⟩
          have e5:upd H4 gn (.lst ((gs'.map V.bl).set i (.bl true))) gn=some (.lst ((gs'.set i true).map V.bl)):=by rw[AF,Jo]
          have g5:∀ {y:Addr} {o:HO},H4 y=some o->y≠gn->upd H4 gn (.lst ((gs'.map V.bl).set i (.bl true))) y=some o:=λe n=>by rw[AO n];exact e
          revert e5 g5;generalize upd H4 gn (.lst ((gs'.map V.bl).set i (.bl true)))=H5;intro e5 g5;obtain⟨_,o4,⟨hs,eh1,eh2⟩,⟨ks,q3,q4,q5⟩,f6⟩:=W4
          have o5:=g5 o4 neo.1.symm
          have lo:(BN cs X.outs b i).out.length<=i:=by
            have h1:=TX (cs:=cs) (outs:=X.outs) ((ag i).filter λ(k:Nat)=>(cs[k]?).any λc=>c.blk == b) ⟨[],[],λ_=>false⟩
            have h2:=rf (λ(k:Nat)=>(cs[k]?).any λc=>c.blk == b) (ag i);rw[lj]at h2;unfold BN;simp only[na]at h1;omega
          push_cast[↓wB_];refine⟨.inl ⟨rfl,_,SqL.of o5⟩,⟨_,o5,C4 _ (by unfold AW;rw[ν];omega),?_⟩⟩
          have e6:upd H5 ol (.lst (AW (BN cs X.outs b i).out++[.int (i:Nat)])) ol=some (.lst (AW ((BN cs X.outs b i).out++[i]))):=by rw[AF];unfold AW;rw[bo];rfl
          have g6:∀ {y:Addr} {o:HO},H5 y=some o->y≠ol->upd H5 ol (.lst (AW (BN cs X.outs b i).out++[.int (i:Nat)])) y=some o:=λe n=>by rw[AO n];exact e
          revert e6 g6;generalize upd H5 ol (.lst (AW (BN cs X.outs b i).out++[.int (i:Nat)]))=H6;intro e6 g6
          have tkg:CG H4 H6:=λy ys e=>g6 (g5 e (A0 e eg4 (by intro z;cases z))) (A0 e o4 (by intro z;cases z))
          have tk6:CG H H6:=λy ys e=>tkg _ _ (s34 _ _ (tk _ _ e))
          have erw6:H6 rw=some (.lst (rs.map V.ref)):=g6 (g5 (s34 _ _ erw) ngr.symm) λz=>(by rw[<-z,ers]at hol;cases hol)
          have esd6:=g6 (g5 q3 nsd.symm) nso.1;push_cast[↓wC_]
          have ixr6:∀ {Q':VK},Q' (.ref (rs[i]'(lrc ▸ hi))) H6->CB K (.ref rw) (.int (i:Nat)) H6 Q':=λh=>D5 (n:=i) (SqL.of erw6) rfl (by rw[ρ,et];rfl) h;refine ixr6 (CU (tk6 _ _ f1) (n:=1) rfl rfl (ixr6 (CU (tk6 _ _ f1) (n:=0) rfl rfl ⟨_,DPut.t (k:=pK X.n X.r X.c X.w kind kk) esd6 (tk6 _ _ f2) (τ (show ks.length<100000 by omega) (by decide)),hD _ _ ?_⟩)))
          have ep1:BN cs X.outs b (i+1)=⟨(BN cs X.outs b i).out++[i],(BN cs X.outs b i).held,λx=>(BN cs X.outs b i).gone x || x ==(i:Int)⟩:=pst.trans hps
          have g7:∀ {y:Addr} {o:HO},H6 y=some o->y≠sd->upd H6 sd (.dT (BY ks (pK X.n X.r X.c X.w kind kk) v)) y=some o:=λe n=>by rw[AO n];exact e
          have tk7:CG H6 (upd H6 sd (.dT (BY ks (pK X.n X.r X.c X.w kind kk) v))):=λy ys e=>g7 e (A0 e esd6 (by intro z;cases z))
          have esh:sh M.b (λj=>X.outs (j:Nat) || (BN cs X.outs b (i+1)).gone (j:Nat)) M.as=(sh M.b (λj=>X.outs (j:Nat) || (BN cs X.outs b i).gone (j:Nat)) M.as).put kind kk x:=by
            refine nU (x:=⟨kind,kk,x,nda⟩) eac (λj=> ?_) ?_ λj y hij ey hy hk=> ?_
            · rw[ep1]
              simp only[sv]
              congr 2
              by_cases z:j=i
              ·subst z;simp
              ·rw[beq_eq_false_iff_ne.mpr z,beq_eq_false_iff_ne.mpr (by omega)]
            ·rw[ho,OD (ξ _)];rfl
            · rw[OD (by exact fg hij),dt]at hy
              have hj:j<M.as.length:=by
                have:=(ι.mp ey).1;rw[ax]at this;exact this
              have ecj:=ζ (show j<cs.length by exact lcs ▸ hj)
              have etj:=ζ (show j<rs.length by exact(lrc.trans lcs) ▸ hj);refine u6 ?_ (VA C.st.la L need _ _ _ ecj etj);rintro _ _ _ x' kind' kk' ⟨_,_,_,_,_,_,_,_,eb1',eb2',nd'',eac'⟩;rw[ey]at eac';cases eac';obtain⟨z1,z2⟩:=hk;simp only at z1 z2;subst z1 z2
              have:=nJ C.cut C.st.bk.bk.chn j i j _ _ (ξ _) hij ech ecj (by rw[eb1,eb1']) (by rw[eb2,eb2']) hy;rw[ho]at this;cases this
          refine⟨⟨gs'.set i true,g7 (g6 e5 neo.1) nsd,by rw[fq];exact BH,by rw[fq];exact lgs,λk q e=> ?_,λk hk=>hgo k (by rw[fq]at hk;exact hk)⟩,by rw[ep1];exact g7 e6 nso.1.symm,⟨hs,g7 (g6 (g5 eh1 neo.2.symm) nol.symm) nso.2.symm,by rw[ep1];exact Paired.mapP eh2 λx p h=>tk7 _ _ (tkg _ _ h)⟩,⟨_,AF,by have:=KL ks (pK X.n X.r X.c X.w kind kk) v;omega,λkind' k' a1 a2=> ?_⟩,λy o e n=> ?_⟩
          · rw[ep1]
            by_cases z:k=i
            · subst z
              rw[fh BH]at e;cases e;simp
            · rw[gu (di z)]at e
              rw[<-hg k q e];simp only;rw[show((k:Int) ==(i:Int))=false from beq_eq_false_iff_ne.mpr (by omega),dt]
          · rw[esh,KK]
            unfold Md.put;by_cases z:kind'=kind/\k'=kk
            · rw[if_pos z,if_pos (by rw[z.1,z.2])]
              exact f3.keep λy ys e=>tk7 _ _ (tk6 _ _ e)
            · rw[if_neg z,if_neg λz'=>z (dD h1 a1 hkm a2 z')]
              exact(q5 kind' k' a1 a2).keep λy ys e=>tk7 _ _ (tkg _ _ e)
          ·exact g7 (g6 (g5 (f6 _ _ e n) λz=>n (.inl z)) λz=>n (.inr (.inr (.inl z)))) λz=>n (.inr (.inl z))
        | cons l rest =>
          have hlack:IY cs[i].nd (λx=>X.outs x || (BN cs X.outs b i).gone x)=some l:=by
            unfold IY;rw[<-Co,iK]
            rfl
          rw[hlack]at hps;rw[iK]at e34;refine E6 (by simp) ?_;push_cast[↓wD_];obtain⟨hs,eh1,eh2⟩:=W4.h;refine⟨.inl ⟨rfl,_,SqL.of eh1⟩,D5 (n:=0) (SqL.of e34) rfl rfl ⟨by decide,λtt htt=> ?_⟩⟩
          have s5:=AL (o:=.tup [.int (i:Nat),.int l]) htt
          have e5:upd H4 tt (.tup [.int (i:Nat),.int l]) tt=some (.tup [.int (i:Nat),.int l]):=AF;revert s5 e5;generalize upd H4 tt (.tup [.int (i:Nat),.int l])=H5;intro s5 e5
          have lh:hs.length<=i:=by
            have h1:=TX (cs:=cs) (outs:=X.outs) ((ag i).filter λ(k:Nat)=>(cs[k]?).any λc=>c.blk == b) ⟨[],[],λ_=>false⟩
            have h2:=rf (λ(k:Nat)=>(cs[k]?).any λc=>c.blk == b) (ag i);rw[lj]at h2
            have h3:=eh2.length;unfold BN at h3;simp only[na]at h1;omega
          refine⟨_,s5 _ _ eh1,C4 _ (by rw[ν];omega),hD _ _ ?_⟩
          have ep1:BN cs X.outs b (i+1)=⟨(BN cs X.outs b i).out,(BN cs X.outs b i).held++[(i,l)],(BN cs X.outs b i).gone⟩:=pst.trans hps
          have ehl2:=s5 _ _ eh1
          have far:∀ {y:Addr} {o:HO},H5 y=some o->y≠hl->upd H5 hl (.lst (hs.map V.ref++[.ref tt])) y=some o:=λe n=>by rw[AO n];exact e
          have tkg:CG H5 (upd H5 hl (.lst (hs.map V.ref++[.ref tt]))):=λy ys e=>far e (A0 e ehl2 (by intro z;cases z));obtain⟨⟨gs5,eg5,_,_,hg5,hgo5⟩,o5,_,⟨ks,q3,q4,q5⟩,f6⟩:=W4.same s5
          have:gs5=gs':=by
            rw[s5 _ _ eg4]at eg5
            have:=HO.lst.inj (cm eg5);exact(n_ λa b h=>V.bl.inj h).mp this.symm
          subst this;refine⟨⟨gs5,far eg5 λz=>(by rw[z,hhl]at egn;cases egn),BH,lgs,by rw[ep1];exact hg5,hgo5⟩,by rw[ep1];exact far o5 nol,⟨hs++[tt],by rw[AF,bo];rfl,by rw[ep1];exact Cg (Paired.mapP eh2 λx p h=>tkg _ _ (s5 _ _ h)) (tkg _ _ e5)⟩,⟨ks,far q3 (A0 q3 ehl2 (by intro z;cases z)),av q4,λkind k a1 a2=>by rw[ep1];exact(q5 kind k a1 a2).keep tkg⟩,λy o e n=>by rw[AO λz=>n (.inr (.inr (.inr z)))];exact f6 _ _ e n⟩
      ·exact E6 (λz=>hbk (bc z)) (hD _ _ (W.up (zc1 ech (by rw[eb1];exact hbk)) eg BH))
  refine MP (λi σ H'=>WI H2 cs M X.outs b X.n X.r X.c X.w N gn sd ol hl i H'/\∃ y9 y10,σ=[some (.ref X.S.lp),some (.ref X.S.A.gp),some (.ref X.S.st),some (.ref rw),some (.ref gn),some (.ref sd),some (.int b),some (.ref ol),some (.ref hl),y9,y10,none,none]) ⟨W0,x2 _ _ rfl⟩ (λi σ H' hi hzz=> ?_) (λσ H' hzz=> ?_)
  · obtain⟨W,y9,y10,es⟩:=hzz
    subst es;obtain⟨gs,eg,li,lgs,hg,hgo⟩:=W.g;push_cast[↓v8_,pq];refine⟨_,.inl ⟨_,SqL.of eg,rfl⟩,?_⟩;rw[ν];by_cases hin:i=gs.length
    · refine FV (congrArg _ hin) ?_
      push_cast[↓v7_];refine⟨.inl ⟨rfl,_,SqL.of eg⟩,⟨_,eg,C4 _ (by rw[ν];omega),?_⟩⟩
      have neo:gn≠ol/\gn≠hl:=⟨λz=>(by rw[z,hol]at egn;cases egn),λz=>(by rw[z,hhl]at egn;cases egn)⟩
      have nsd:gn≠sd:=A0 egn esd (by intro z;cases z)
      have W':WI H2 cs M X.outs b X.n X.r X.c X.w N gn sd ol hl i (upd H' gn (.lst (gs.map V.bl++[.bl false]))):=by
        have far:∀ {y:Addr} {o:HO},H' y=some o->y≠gn->upd H' gn (.lst (gs.map V.bl++[.bl false])) y=some o:=λe n=>by rw[AO n];exact e
        have tkg:CG H' (upd H' gn (.lst (gs.map V.bl++[.bl false]))):=λy ys e=>far e (A0 e eg (by intro z;cases z));obtain⟨_,o,⟨hs,e1,e2⟩,⟨ks,e3,e4,e5⟩,f⟩:=W;refine⟨⟨gs++[false],by rw[AF,bo];rfl,by rw[aj];exact av (bn hin),by rw[aj];simp;omega,λk q e=> ?_,λk hk=>hgo k (by rw[aj]at hk;exact fg hk)⟩,far o neo.1.symm,⟨hs,far e1 neo.2.symm,Paired.mapP e2 λx p h=>tkg _ _ h⟩,⟨ks,far e3 nsd.symm,e4,λkind k a1 a2=>(e5 kind k a1 a2).keep tkg⟩,λy o e n=>by rw[AO λz=>n (.inl z)];exact f _ _ e n⟩;by_cases hk:k<gs.length
        · rw[am hk]at e
          exact hg k q e
        · have hk2:=(ι.mp e).1
          rw[aj]at hk2
          have:k=gs.length:=by simp at hk2;exact nj (cy hk2) (bu hk)
          subst this;rw[ao (ξ _),ko]at e;cases e;rw[hgo _ (ξ _),OD (by exact li)]
          rfl
      exact stp (gs:=gs++[false]) hi W' (by rw[AF,bo];rfl) (by simp;exact oz (bn hin)) λH'' y10' W''=>⟨W'',x2 _ _ rfl⟩
    ·exact E6 (λz=>hin (bc z)) (stp hi W eg (gj li hin) λH'' y10' W''=>⟨W'',x2 _ _ rfl⟩)
  · obtain⟨W,y9,y10,es⟩:=hzz
    subst es;push_cast[↓wG_]
    have sbf:SameBut (λx=>x=gn\/x=sd) H H':=λy o e n=>W.f _ _ (s1 _ _ e) λz=>by
      rcases z with z | z | z | z
      ·exact n (.inl z)
      ·exact n (.inr z)
      ·rw[z,hol]at e;cases e
      ·rw[z,hhl]at e;cases e
    have lse:∀ x,x=gn\/x=sd->FB (H x):=λx hx=>by
      rcases hx with rfl | rfl
      ·rw[egn];exact⟨λ_ z=>(by cases z),λ_ _ _ z=>by cases z⟩
      ·rw[esd];exact⟨λ_ z=>(by cases z),λ_ _ _ z=>by cases z⟩
    have C5:=C.sbG sbf lse λx hx=>by
      rcases hx with rfl | rfl
      ·exact⟨hF.1,A0 egn C.st.tk (by intro z;cases z)⟩
      ·exact⟨hF.2,A0 esd C.st.tk (by intro z;cases z)⟩
    obtain⟨dp,ep⟩:=C5.st.bk.pk.ob;obtain⟨dx,eo⟩:=C5.st.ob;refine y2 ⟨ep,rfl,y5 ⟨rfl,TP,C5.st.bk.pk,?_⟩⟩;push_cast[↓wH_]
    have er:=ζ (show b<X.rows.length by have:=C.st.sz.2.2.2.2;exact gk hb this.symm);refine y2 ⟨eo,rfl,x6 X cs tks M b _ ⟨rfl,T4',C5.st,er,λt ol' hl' H6 TA I' sb=> ?_⟩⟩
    have C6:=C5.write er I' sb;push_cast[↓wI_]
    have fol:¬ X.S.A.F ol/\¬ X.S.A.F hl:=⟨C.st.bk.off hol,C.st.bk.off hhl⟩
    have tk6:CG H' H6:=λy ys e=>sb _ _ e λz=>z.elim (λz=>(C5.st.bk.loose z).1 _ e) λz=>by rw[z,ep]at e;cases e
    obtain⟨⟨gs,eg,li,lgs,hg,hgo⟩,o,⟨hs,eh1,eh2⟩,⟨ks,e3,e4,e5⟩,f⟩:=W
    have g6:∀ {y:Addr} {o:HO},H' y=some o->¬ X.S.A.F y->(∀ C dx fs,o≠.ins C dx fs)->H6 y=some o:=λ{y o} e n1 n2=>sb _ _ e λz=>z.elim n1 λz=>by rw[z,ep]at e;exact n2 _ _ _ (cm e).symm
    refine LQ (.inl (.tup TA.1)) (.ty _) (b:=true) rfl ?_;rw[mK];refine E6 (by simp) ⟨by decide,λp hp=> ?_⟩
    have s7:=AL (o:=.tup [.ref ol,.ref hl]) hp
    have e7:upd H6 p (.tup [.ref ol,.ref hl]) p=some (.tup [.ref ol,.ref hl]):=AF;revert s7 e7;generalize upd H6 p (.tup [.ref ol,.ref hl])=H7;intro s7 e7
    have TB:ToldAt H7 p ol hl (BN cs X.outs b cs.length).out (BN cs X.outs b cs.length).held:=⟨e7,s7 _ _ (g6 o fol.1 λ_ _ _ z=>by cases z),hs,s7 _ _ (g6 eh1 fol.2 λ_ _ _ z=>by cases z),Paired.mapP eh2 λx p h=>s7 _ _ (tk6 _ _ h)⟩
    rw[nR]at TB;refine MS (n:=3) (by decide) (TA.same s7).datX TB.datX ?_;simp only[XM,mI]
    have C7:=C6.same s7;obtain⟨dp7,ep7⟩:=C7.st.bk.pk.ob;refine y2 ⟨ep7,rfl,y5 ⟨rfl,TP,C7.st.bk.pk,?_⟩⟩;push_cast[];refine E6 (by simp[SX.wr]) ?_;push_cast[↓wJ_]
    have eo:∀ x:Int,FH cs X.outs b x=(X.outs x || (BN cs X.outs b cs.length).gone x):=λx=>by
      unfold FH;rw[zop,nR]
    have S7:ShL H7 sd X.n X.r X.c X.w (sh M.b (λj=>FH cs X.outs b (j:Nat)) M.as) (N+990):=by
      simp only[eo];exact⟨ks,s7 _ _ (g6 e3 hF.2 λ_ _ _ z=>by cases z),by omega,λkind k a1 a2=>(e5 kind k a1 a2).keep λy ys e=>s7 _ _ (tk6 _ _ e)⟩
    refine x6 (X.wr cs b (X.rows[b]'(by have:=C.st.sz.2.2.2.2;exact gk hb this.symm))) cs tks M sd (N+990) ⟨rfl,T4',C7,S7,λH8 s8=> ?_⟩
    have eg8:=s8 _ _ (s7 _ _ (g6 eg hF.1 λ_ _ _ z=>by cases z));obtain⟨ks7,z1,z2,z3⟩:=S7;refine q _ _ _ H8 (C7.same s8) ⟨gs,eg8,lgs,λk v e=>by rw[eo];exact hg k v e,λk hk=>by rw[eo,hgo k hk,OD (by omega)];rfl⟩ ⟨ks7,s8 _ _ z1,z2,λkind k a1 a2=>(z3 kind k a1 a2).keep s8.tk⟩ λy o e n=>s8 _ _ (s7 _ _ (sb _ _ (sbf _ _ e λz=>n (.inr (.inr z))) λz=>n (z.imp id .inl)))
def Cl{M0:Md}{C:Nat->Bool}{as:List AC}:∀ {l:List AC},(∀ j,as.length<=j->C j=false)->sh M0 C (l++as)=sh M0 C as
 | [],_=>rfl
 | x::l,h=>by
  rw[jy,EF (by rw[h _ (by rw[aj];exact ue _ _)];decide)];exact Cl h
def Cm{j:Nat}:∀ {ps:List Nat} {M:Hs},∃ l,(M.unmark j ps).as=l++M.as/\(M.unmark j ps).b=M.b
 | [],M=>⟨[],rfl,rfl⟩
 | p::ps,M=>by
  obtain⟨l,e1,e2⟩:=Cm (j:=j) (ps:=ps) (M:=M.put 2 p (.mk 0) [j]);exact⟨l++[⟨2,p,.mk 0,[j]⟩],e1.trans (by rw[fi];rfl),e2⟩
def Dn.ext{X:SX}{tks tks':List (AS × V)}{M M':Hs}{y z:Str}{x:Int}{N kind:Nat}(h:Dn X tks M y z x N kind tks' M'):∃ l,M'.as=l++M.as/\M'.b=M.b:=by
 cases h with
 | make=>exact⟨[_,_,_],rfl,rfl⟩
 | link=>exact⟨[_,_],rfl,rfl⟩
 | move=>exact⟨[_,_,_,_],rfl,rfl⟩
 | cutOne=>exact⟨[_,_],rfl,rfl⟩
 | @cutAll cell rec m ps =>
  obtain⟨l,e1,e2⟩:=Cm (j:=N+1) (ps:=ps) (M:=(M.put 0 cell .no []).put 3 rec .no [N]);exact⟨⟨1,rec,.mk 0,[N+1]⟩::(l++[⟨3,rec,.no,[N]⟩,⟨0,cell,.no,[]⟩]),(congrArg (_::·) e1).trans (by rw[jy,fi];rfl),e2⟩
 | put=>exact⟨[_,_,_],rfl,rfl⟩
 | take=>exact⟨[_,_],rfl,rfl⟩
abbrev C9(S:SA)(hd la td rw gn sd hl:Addr)(x:Addr):Prop:=S.A.F x\/x=S.tk\/x=S.A.gp\/x=hd\/x=la\/x=td\/x=rw\/x=gn\/x=sd\/x=hl
structure S43(a:Ad)(H:Hp)(S:SA)(n r c w:Nat)(nl rr hd la td rw gn sd hl:Addr)(zs:List Str)(ms:List Int)(i:Nat):Prop where
 c:∃ (X:SX) (cs:List Ch) (tks:List (AS × V)) (M:Hs),X.S=S/\X.n=n/\X.r=r/\X.c=c/\X.w=w/\C45 a H X cs tks M/\cs.length<=15 * i/\LM (C9 S hd la td rw gn sd hl) H hd la rw n r c w M/\TkL H td tks i/\GnL H gn X.outs cs.length/\ShL H sd n r c w (sh M.b (λj=>X.outs (j:Nat)) M.as) (990 * i)
 h:∃ ps:List Addr,H hl=some (.lst (ps.map V.ref))/\ps.length<=i/\∀ p∈ps,∃ l l' ks,H p=some (.tup [.ref l,.ref l'])/\H l=some (.lst (AW ks))/\H l'=some (.lst (AW ks))/\¬ C9 S hd la td rw gn sd hl l/\¬ C9 S hd la td rw gn sd hl l'
 enl:H nl=some (.lst (zs.map V.str))
 err:H rr=some (.lst (ms.map V.int))
 f1:¬ C9 S hd la td rw gn sd hl nl
 f2:¬ C9 S hd la td rw gn sd hl rr
 f3:∀ x,x=hd\/x=la\/x=td\/x=rw\/x=gn\/x=sd\/x=hl->¬ S.A.F x/\x≠S.tk/\x≠S.A.gp
 f4:sd≠hd/\sd≠la/\gn≠rw/\gn≠hl/\rw≠hl
section
variable{S:SA}{n r c w i:Nat}{nl rr hd la td rw gn sd hl:Addr}{zs:List Str}{ms:List Int}
def S43.same{H':Hp}(J:S43 a H S n r c w nl rr hd la td rw gn sd hl zs ms i)(s:Same H H'):S43 a H' S n r c w nl rr hd la td rw gn sd hl zs ms i:=by
 obtain⟨⟨X,cs,tks,M,a1,a2,a3,a4,a5,I,l,J1,J2,⟨gs,g1,g2⟩,⟨ks,k1,k2,k3⟩⟩,⟨ps,h1,h2,h3⟩,e1,e2,f1,f2,f3,f4⟩:=J;exact⟨x4 X cs tks M ⟨a1,a2,a3,a4,a5,I.same s,l,J1.same s,J2.same s,⟨gs,s _ _ g1,g2⟩,⟨ks,s _ _ k1,k2,λkind k b1 b2=>(k3 kind k b1 b2).keep s.tk⟩⟩,⟨ps,s _ _ h1,h2,λp hp=>by
  refine u3 ?_ (h3 p hp);rintro l l' ks ⟨p1,p2,p3,p4⟩;exact x3 l l' ks ⟨s _ _ p1,s _ _ p2,s _ _ p3,p4⟩⟩,s _ _ e1,s _ _ e2,f1,f2,f3,f4⟩
def S43.up(J:S43 a H S n r c w nl rr hd la td rw gn sd hl zs ms i):S43 a H S n r c w nl rr hd la td rw gn sd hl zs ms (i+1):=by
 obtain⟨⟨X,cs,tks,M,a1,a2,a3,a4,a5,I,l,J1,⟨kt,t1,t2,t3⟩,G,⟨ks,k1,k2,k3⟩⟩,⟨ps,h1,h2,h3⟩,e1,e2,f1,f2,f3,f4⟩:=J;exact⟨x4 X cs tks M ⟨a1,a2,a3,a4,a5,I,υ l (ik _ (dq _)),J1,⟨kt,t1,av t2,t3⟩,G,⟨ks,k1,υ k2 (ik _ (dq _)),k3⟩⟩,⟨ps,h1,av h2,h3⟩,e1,e2,f1,f2,f3,f4⟩
def S43.wr{b:Nat}{P:V->Hp->Prop}(T4:DM K a)(J:S43 a H S n r c w nl rr hd la td rw gn sd hl zs ms i)(hi:i<=62)(hb:b<n+r+c+r+c)(q:∀ H',S43 a H' S n r c w nl rr hd la td rw gn sd hl zs ms (i+1)->P (.bl true) H'):QW K a [.ref S.lp,.ref S.A.gp,.ref S.st,.ref rw,.ref gn,.ref sd,.int (b:Nat)] H P E:=by
 obtain⟨⟨X,cs,tks,M,rfl,rfl,rfl,rfl,rfl,I,l,J1,⟨kt,t1,t2,t3⟩,G,Sh⟩,⟨ps,h1,h2,h3⟩,e1,e2,f1,f2,f3,f4⟩:=J
 have f3g:=f3 gn (by simp)
 have f3s:=f3 sd (by simp)
 have f3h:=f3 hd (by simp)
 have f3l:=f3 la (by simp)
 have f3t:=f3 td (by simp)
 have f3r:=f3 rw (by simp)
 have f3e:=f3 hl (by simp);obtain⟨gs,eg,_⟩:=id G;obtain⟨ks,es,_⟩:=id Sh;obtain⟨kh,eh,_⟩:=J1.hn;obtain⟨kl,el,_⟩:=J1.ls;obtain⟨rs,er,_⟩:=J1.rs;refine RG _ hd la rw gn sd X cs tks M b (990 * i) ⟨rfl,T4,I,J1,hb,G,Sh,υ (ik _ hi) (by decide),f4.1,f4.2.1,f4.2.2.1,⟨by simp[C9],by simp[C9],f3g.1,f3s.1⟩,λx hx=>by rcases hx with hx | hx | hx<;>simp[C9,hx],λrows nn outs H' I' G' S' sb=>q H' ?_⟩;obtain⟨dp,ep⟩:=I.st.bk.pk.ob
 have k2:∀ {x:Addr} {o:HO},H x=some o->¬ X.S.A.F x->x≠X.S.A.gp->x≠gn->x≠sd->H' x=some o:=λe n1 n2 n3 n4=>sb _ _ e λz=>by
  rcases z with z | z | z | z
  ·exact n1 z
  ·exact n2 z
  ·exact n3 z
  ·exact n4 z
 have kB:∀ {x:Addr} {o:HO},H x=some o->¬ C9 X.S hd la td rw gn sd hl x->H' x=some o:=λe nb=>k2 e (λz=>nb (.inl z)) (λz=>nb (by simp[C9,z])) (λz=>nb (by simp[C9,z])) λz=>nb (by simp[C9,z])
 have tk:CG H H':=λy ys e=>k2 e (λz=>(I.st.bk.loose z).1 _ e) (λz=>by rw[z,ep]at e;cases e) (A0 e eg (by intro z;cases z)) (A0 e es (by intro z;cases z));refine⟨x4 ({ X with rows:=rows,nn:=nn,outs:=outs }) cs tks M ⟨rfl,rfl,rfl,rfl,rfl,I',υ l (ik _ (dq _)),J1.keep tk (λx xs e nb=>kB e nb) (λo e=>k2 e f3h.1 f3h.2.2 (A0 eh eg (by intro z;cases z)) f4.1.symm) (λo e=>k2 e f3l.1 f3l.2.2 (A0 el eg (by intro z;cases z)) f4.2.1.symm) (λo e=>k2 e f3r.1 f3r.2.2 f4.2.2.1.symm (A0 er es (by intro z;cases z))),⟨kt,k2 t1 f3t.1 f3t.2.2 (A0 t1 eg (by intro z;cases z)) (A0 t1 es (by intro z;cases z)),av t2,t3⟩,G',S'⟩,⟨ps,k2 h1 f3e.1 f3e.2.2 f4.2.2.2.1.symm (A0 h1 es (by intro z;cases z)),av h2,λp hp=> ?_⟩,kB e1 f1,kB e2 f2,f1,f2,f3,f4⟩;refine u3 ?_ (h3 p hp);rintro l l' ks ⟨p1,p2,p3,p4,p5⟩;exact x3 l l' ks ⟨tk _ _ p1,kB p2 p4,kB p3 p5,p4,p5⟩
end
abbrev Bl(S:SA)(hd la td rw gn sd hl l:Addr)(x:Addr):Prop:=C9 S hd la td rw gn sd hl x\/x=l
structure R43(H:Hp)(S:SA)(nl rr hd la td rw gn sd hl l:Addr)(zs:List Str)(ms:List Int)(i:Nat):Prop where
 h:∃ ps:List Addr,H hl=some (.lst (ps.map V.ref))/\ps.length<=i/\∀ p∈ps,∃ l1 l2 ks,H p=some (.tup [.ref l1,.ref l2])/\H l1=some (.lst (AW ks))/\H l2=some (.lst (AW ks))/\¬ Bl S hd la td rw gn sd hl l l1/\¬ Bl S hd la td rw gn sd hl l l2
 enl:H nl=some (.lst (zs.map V.str))
 err:H rr=some (.lst (ms.map V.int))
 f1:¬ Bl S hd la td rw gn sd hl l nl
 f2:¬ Bl S hd la td rw gn sd hl l rr
 f3:∀ x,x=hd\/x=la\/x=td\/x=rw\/x=gn\/x=sd\/x=hl->¬ S.A.F x/\x≠S.tk/\x≠S.A.gp
 f4:sd≠hd/\sd≠la/\gn≠rw/\gn≠hl/\rw≠hl
 fl:¬ C9 S hd la td rw gn sd hl l
structure M43(a:Ad)(H:Hp)(S:SA)(n r c w:Nat)(nl rr hd la td rw gn sd hl:Addr)(zs:List Str)(ms:List Int)(i kind:Nat)(y z:Str)(x:Int)(N:Nat)(l:Addr):Prop where
 c:∃ (X:SX) (cs:List Ch) (tks tks':List (AS × V)) (M M':Hs) (d:Nat),X.S=S/\X.n=n/\X.r=r/\X.c=c/\X.w=w/\C45 a H X cs tks' M'/\cs.length=N+d/\d<=15/\N<=15 * i/\M.as.length=N/\Dn X tks M y z x N kind tks' M'/\LM (Bl S hd la td rw gn sd hl l) H hd la rw n r c w M/\TkL H td tks i/\GnL H gn X.outs N/\ShL H sd n r c w (sh M.b (λj=>X.outs (j:Nat)) M.as) (990 * i)/\H l=some (.lst (AW ((ag d).map (N+·))))
 r:R43 H S nl rr hd la td rw gn sd hl l zs ms i
structure A43(a:Ad)(H:Hp)(S:SA)(n r c w:Nat)(nl rr hd la td rw gn sd hl:Addr)(zs:List Str)(ms:List Int)(i N:Nat)(l:Addr):Prop where
 c:∃ (X:SX) (cs:List Ch) (tks:List (AS × V)) (M:Hs) (d:Nat),X.S=S/\X.n=n/\X.r=r/\X.c=c/\X.w=w/\C45 a H X cs tks M/\cs.length=N+d/\cs.length<=15 * (i+1)/\LM (Bl S hd la td rw gn sd hl l) H hd la rw n r c w M/\TkL H td tks (i+1)/\GnL H gn X.outs cs.length/\ShL H sd n r c w (sh M.b (λj=>X.outs (j:Nat)) M.as) (990 * (i+1))/\H l=some (.lst (AW ((ag d).map (N+·))))
 r:R43 H S nl rr hd la td rw gn sd hl l zs ms i
section
variable{S:SA}{n r c w i kind N:Nat}{nl rr hd la td rw gn sd hl l:Addr}{zs:List Str}{ms:List Int}{y z:Str}{x:Int}{P:V->Hp->Prop}
def R43.keep{H':Hp}(R:R43 H S nl rr hd la td rw gn sd hl l zs ms i)(tk:CG H H')(k:∀ x (xs:List V),H x=some (.lst xs)->¬ Bl S hd la td rw gn sd hl l x->H' x=some (.lst xs))(e:∀ o,H hl=some o->H' hl=some o):R43 H' S nl rr hd la td rw gn sd hl l zs ms i:=by
 obtain⟨⟨ps,h1,h2,h3⟩,e1,e2,f1,f2,f3,f4,fl⟩:=R;refine⟨⟨ps,e _ h1,h2,λp hp=> ?_⟩,k _ _ e1 f1,k _ _ e2 f2,f1,f2,f3,f4,fl⟩;refine u3 ?_ (h3 p hp);rintro l1 l2 ks ⟨p1,p2,p3,p4,p5⟩;exact x3 l1 l2 ks ⟨tk _ _ p1,k _ _ p2 p4,k _ _ p3 p5,p4,p5⟩
def R43.same{H':Hp}(R:R43 H S nl rr hd la td rw gn sd hl l zs ms i)(s:Same H H'):R43 H' S nl rr hd la td rw gn sd hl l zs ms i:=R.keep s.tk (λ_ _ e _=>s _ _ e) λ_ e=>s _ _ e
def GnL.same{N:Nat}{outs:Int->Bool}{H':Hp}(G:GnL H gn outs N)(s:Same H H'):GnL H' gn outs N:=by
 obtain⟨gs,g1,g2⟩:=G;exact⟨gs,s _ _ g1,g2⟩
def ShL.keep{Sm:Md}{N:Nat}{H':Hp}(G:ShL H sd n r c w Sm N)(tk:CG H H')(k:∀ o,H sd=some o->H' sd=some o):ShL H' sd n r c w Sm N:=by
 obtain⟨ks,k1,k2,k3⟩:=G;exact⟨ks,k _ k1,k2,λkind k b1 b2=>(k3 kind k b1 b2).keep tk⟩
def A43.same{H':Hp}(J:A43 a H S n r c w nl rr hd la td rw gn sd hl zs ms i N l)(s:Same H H'):A43 a H' S n r c w nl rr hd la td rw gn sd hl zs ms i N l:=by
 obtain⟨⟨X,cs,tks,M,d,a1,a2,a3,a4,a5,I,l1,l2,J1,J2,G,Sh,el⟩,R⟩:=J;exact⟨x5 X cs tks M d ⟨a1,a2,a3,a4,a5,I.same s,l1,l2,J1.same s,J2.same s,G.same s,Sh.keep s.tk (λ_ e=>s _ _ e),s _ _ el⟩,R.same s⟩
def M43.same{H':Hp}(J:M43 a H S n r c w nl rr hd la td rw gn sd hl zs ms i kind y z x N l)(s:Same H H'):M43 a H' S n r c w nl rr hd la td rw gn sd hl zs ms i kind y z x N l:=by
 obtain⟨⟨X,cs,tks,tks',M,M',d,a1,a2,a3,a4,a5,I,l1,l2,l3,l4,D,J1,J2,G,Sh,el⟩,R⟩:=J;exact⟨x7 X cs tks tks' M M' d ⟨a1,a2,a3,a4,a5,I.same s,l1,l2,l3,l4,D,J1.same s,J2.same s,G.same s,Sh.keep s.tk (λ_ e=>s _ _ e),s _ _ el⟩,R.same s⟩
def S43.off{x:Addr}(J:S43 a H S n r c w nl rr hd la td rw gn sd hl zs ms i)(hx:H x=none):¬ C9 S hd la td rw gn sd hl x:=by
 obtain⟨⟨X,cs,tks,M,rfl,rfl,rfl,rfl,rfl,I,_,J1,⟨kt,t1,_⟩,⟨gs,eg,_⟩,⟨ks,es,_⟩⟩,⟨ps,h1,_⟩,_⟩:=J;obtain⟨kh,eh,_⟩:=J1.hn;obtain⟨kl,el,_⟩:=J1.ls;obtain⟨rs,er,_⟩:=J1.rs;obtain⟨dp,ep⟩:=I.st.bk.pk.ob;intro z;rcases z with z | z | z | z | z | z | z | z | z | z
 ·exact I.st.bk.off hx z
 ·rw[z,I.st.tk]at hx;cases hx
 ·rw[z,ep]at hx;cases hx
 ·rw[z,eh]at hx;cases hx
 ·rw[z,el]at hx;cases hx
 ·rw[z,t1]at hx;cases hx
 ·rw[z,er]at hx;cases hx
 ·rw[z,eg]at hx;cases hx
 ·rw[z,es]at hx;cases hx
 ·rw[z,h1]at hx;cases hx
def S43.deed(T4:DM K a)(TDk:TD K a)(J:S43 a H S n r c w nl rr hd la td rw gn sd hl zs ms i)(hi:i<=61)(hk:kind<8)(hy:B7 y=true)(hz:B7 z=true)(q0:∀ H',S43 a H' S n r c w nl rr hd la td rw gn sd hl zs ms i->P .non H')(q:∀ N l H',M43 a H' S n r c w nl rr hd la td rw gn sd hl zs ms i kind y z x N l->P (.ref l) H'):UL K a [.ref S.st,.int (kind:Nat),.str y,.str z,.int x] H P E:=by
 have J':=J;obtain⟨⟨X,cs,tks,M,rfl,rfl,rfl,rfl,rfl,I,ll,J1,⟨kt,t1,t2,t3⟩,⟨gs,eg,g2⟩,Sh⟩,⟨ps,h1,h2,h3⟩,e1,e2,f1,f2,f3,f4⟩:=J;refine x8 X cs tks M kind y z x ⟨rfl,T4,TDk,I,oC (υ ll (ik _ hi)) rfl,hk,hy,hz,λH' s=>q0 H' (J'.same s),λd ex tks' M' l H' I' ed hd15 D sb hl0 el=>q cs.length l H' ?_⟩
 have fl:=J'.off hl0
 have kk:∀ {x:Addr} {o:HO},H x=some o->¬ X.S.A.F x->x≠X.S.tk->H' x=some o:=λe n1 n2=>sb _ _ e λz=>z.elim n1 n2
 have kB:∀ {x:Addr} {o:HO},H x=some o->¬ C9 X.S hd la td rw gn sd hl x->H' x=some o:=λe nb=>kk e (λz=>nb (.inl z)) λz=>nb (.inr (.inl z))
 have tk:CG H H':=JD sb λx hx=>hx.elim (λh=>I.st.bk.loose h) λh=>by rw[h];exact OB I.st.tk
 have nl':∀ {x:Addr} {o:HO},H x=some o->¬ C9 X.S hd la td rw gn sd hl x->¬ Bl X.S hd la td rw gn sd hl l x:=λe nb z=>z.elim nb (BL e hl0)
 have f3h:=f3 hd (by simp)
 have f3l:=f3 la (by simp)
 have f3t:=f3 td (by simp)
 have f3r:=f3 rw (by simp)
 have f3g:=f3 gn (by simp)
 have f3s:=f3 sd (by simp)
 have f3e:=f3 hl (by simp)
 have J2:LM (Bl X.S hd la td rw gn sd hl l) H hd la rw X.n X.r X.c X.w M:=by
  obtain⟨a1,a2,⟨rs,a3,a4⟩,a5,a6,a7,a8⟩:=J1;exact⟨a1,a2,⟨rs,a3,a4.set λx xs e nb=>nl' e nb⟩,a5,a6,⟨.inl a7.1,.inl a7.2.1,.inl a7.2.2⟩,a8⟩
 refine⟨x7 X (cs++ex) tks tks' M M' d ⟨rfl,rfl,rfl,rfl,rfl,I',by rw[aj,ed],hd15,ll,(I.st.la.len).symm,D,J2.keep tk (λx xs e nb=>kB e λz=>nb (.inl z)) (λo e=>kk e f3h.1 f3h.2.1) (λo e=>kk e f3l.1 f3l.2.1) (λo e=>kk e f3r.1 f3r.2.1),⟨kt,kk t1 f3t.1 f3t.2.1,t2,t3⟩,⟨gs,kk eg f3g.1 f3g.2.1,g2⟩,Sh.keep tk (λo e=>kk e f3s.1 f3s.2.1),el⟩,⟨ps,kk h1 f3e.1 f3e.2.1,h2,λp hp=> ?_⟩,kB e1 f1,kB e2 f2,nl' e1 f1,nl' e2 f2,f3,f4,fl⟩;refine u3 ?_ (h3 p hp);rintro l1 l2 ks ⟨p1,p2,p3,p4,p5⟩;exact x3 l1 l2 ks ⟨tk _ _ p1,kB p2 p4,kB p3 p5,nl' p2 p4,nl' p3 p5⟩
def M43.len(J:M43 a H S n r c w nl rr hd la td rw gn sd hl zs ms i kind y z x N l):∃ rs:List Addr,H rw=some (.lst (rs.map V.ref))/\rs.length=N:=by
 obtain⟨⟨X,cs,tks,tks',M,M',d,rfl,rfl,rfl,rfl,rfl,I,l1,l2,l3,l4,D,J1,J2,G,Sh,el⟩,R⟩:=J;obtain⟨rs,e,L⟩:=J1.rs;exact⟨rs,e,by rw[L.len,l4]⟩
def M43.use(J:M43 a H S n r c w nl rr hd la td rw gn sd hl zs ms i kind y z x N l)(hi:i<=61):∃ (X:SX) (M M':Hs) (tks tks':List (AS × V)),LayAt a H S.lp X.n X.r X.c X.w/\LM (Bl S hd la td rw gn sd hl l) H hd la rw X.n X.r X.c X.w M/\TkL H td tks i/\(X.n<=6/\X.r<=6/\X.c<=6/\X.w<=6)/\Dn X tks M y z x M.as.length kind tks' M'/\M.as.length<=930/\(∀ y,H y=none->¬ Bl S hd la td rw gn sd hl l y)/\∀ H',LM (Bl S hd la td rw gn sd hl l) H' hd la rw X.n X.r X.c X.w M'->TkL H' td tks' (i+1)->SameBut (λy=>LF hd la rw y\/y=td) H H'->A43 a H' S n r c w nl rr hd la td rw gn sd hl zs ms i N l:=by
 obtain⟨⟨X,cs,tks,tks',M,M',d,rfl,rfl,rfl,rfl,rfl,I,l1,l2,l3,l4,D,J1,J2,⟨gs,eg,g2,g3,g4⟩,Sh,el⟩,R⟩:=J;obtain⟨z1,z2,z3,z4,z5⟩:=I.st.sz;obtain⟨kt,ekt,_⟩:=id J2;obtain⟨kh,eh,_⟩:=J1.hn;obtain⟨kl,ela,_⟩:=J1.ls;obtain⟨rs,er,_⟩:=J1.rs;obtain⟨ks,es,_⟩:=id Sh;obtain⟨ps,h1,_⟩:=R.h;obtain⟨dp,ep⟩:=I.st.bk.pk.ob;refine x5 X M M' tks tks' ⟨I.st.ly,J1,J2,⟨z1,z2,z3,z4⟩,by rw[l4];exact D,by omega,λy hx z=> ?_,λH' K1 K2 sb=> ?_⟩
 ·rcases z with z | z
  ·rcases z with z | z | z | z | z | z | z | z | z | z
   ·exact I.st.bk.off hx z
   ·rw[z,I.st.tk]at hx;cases hx
   ·rw[z,ep]at hx;cases hx
   ·rw[z,eh]at hx;cases hx
   ·rw[z,ela]at hx;cases hx
   ·rw[z,ekt]at hx;cases hx
   ·rw[z,er]at hx;cases hx
   ·rw[z,eg]at hx;cases hx
   ·rw[z,es]at hx;cases hx
   ·rw[z,h1]at hx;cases hx
  ·rw[z,el]at hx;cases hx
 ·have g:∀ x,LF hd la rw x\/x=td->FB (H x):=λx hx=>by
   rcases hx with(hx | hx | hx) | hx<;>rw[hx]
   ·exact X3 eh
   ·exact X3 ela
   ·exact MY er
   ·exact OB ekt
  have f:∀ x,LF hd la rw x\/x=td->¬ X.S.A.F x/\x≠X.S.tk:=λx hx=>by
   have:=R.f3 x (by rcases hx with(hx | hx | hx) | hx<;>simp[hx]);exact⟨this.1,this.2.1⟩
  have tk:CG H H':=JD sb g
  have inB:∀ {x:Addr},LF hd la rw x\/x=td->C9 X.S hd la td rw gn sd hl x:=λhx=>by rcases hx with(hx | hx | hx) | hx<;>simp[C9,hx]
  have kB:∀ {x:Addr} {o:HO},H x=some o->¬ C9 X.S hd la td rw gn sd hl x->H' x=some o:=λe nb=>sb _ _ e λz=>nb (inB z)
  have kN:∀ {x:Addr} {o:HO},H x=some o->x≠hd->x≠la->x≠rw->x≠td->H' x=some o:=λe n1 n2 n3 n4=>sb _ _ e λz=>by
   rcases z with(z | z | z) | z
   ·exact n1 z
   ·exact n2 z
   ·exact n3 z
   ·exact n4 z
  obtain⟨lx,x1,x2⟩:=D.ext
  have shE:sh M'.b (λj=>X.outs (j:Nat)) M'.as=sh M.b (λj=>X.outs (j:Nat)) M.as:=by
   rw[x1,x2];exact Cl λj hj=>g4 j (by omega)
  refine⟨x5 X cs tks' M' d ⟨rfl,rfl,rfl,rfl,rfl,I.sbG sb g f,l1,by omega,K1,K2,⟨gs,kN eg (A0 eg eh (by intro z;cases z)) (A0 eg ela (by intro z;cases z)) R.f4.2.2.1 (A0 eg ekt (by intro z;cases z)),by omega,g3,g4⟩,?_,kB el R.fl⟩,R.keep tk (λx xs e nb=>kB e λz=>nb (.inl z)) λo e=> ?_⟩
  ·rw[shE];obtain⟨ks,k1,k2,k3⟩:=Sh.keep tk λo e=>by
    rw[es]at e;cases e;exact kN es R.f4.1 R.f4.2.1 (A0 es er (by intro z;cases z)) (A0 es ekt (by intro z;cases z))
   exact⟨ks,k1,υ k2 (ik _ (dq _)),k3⟩
  ·rw[h1]at e;cases e;exact kN h1 (A0 h1 eh (by intro z;cases z)) (A0 h1 ela (by intro z;cases z)) R.f4.2.2.2.2.symm (A0 h1 ekt (by intro z;cases z))
def M43.make(TL:D1 K a)(J:M43 a H S n r c w nl rr hd la td rw gn sd hl zs ms i kind y z x N l)(hi:i<=61)(hk:kind<2)(q:∀ H',A43 a H' S n r c w nl rr hd la td rw gn sd hl zs ms i N l->P .non H'):UN K a [.ref S.lp,.ref hd,.ref la,.ref rw,.ref td,.str y] H P E:=by
 refine u5 ?_ (J.use hi);rintro X M M' tks tks' ⟨L,J1,J2,⟨z1,z2,z3,z4⟩,D,lM,off,qq⟩;exact NF _ S.lp hd la rw td X M M' tks tks' y z x ⟨kind,i,rfl,TL,L,J1,J2,oA hi rfl,z1,z2,z3,z4,hk,D,lM,off,λH' k1 k2 k3=>q H' (qq H' k1 k2 k3)⟩
def M43.way(TL:D1 K a)(J:M43 a H S n r c w nl rr hd la td rw gn sd hl zs ms i kind y z x N l)(hi:i<=61)(hk:kind=2\/kind=3\/kind=7)(q:∀ H',A43 a H' S n r c w nl rr hd la td rw gn sd hl zs ms i N l->P .non H'):UO K a [.ref S.lp,.ref hd,.ref la,.ref rw,.ref td,.int kind,.str y,.str z] H P E:=by
 refine u5 ?_ (J.use hi);rintro X M M' tks tks' ⟨L,J1,J2,⟨z1,z2,z3,z4⟩,D,lM,off,qq⟩;exact NF _ S.lp hd la rw td X M M' tks tks' y z x ⟨kind,i,rfl,TL,L,J1,J2,oA hi rfl,z1,z2,z3,z4,hk,D,lM,off,λH' k1 k2 k3=>q H' (qq H' k1 k2 k3)⟩
def M43.pieces(TL:D1 K a)(J:M43 a H S n r c w nl rr hd la td rw gn sd hl zs ms i kind y z x N l)(hi:i<=61)(hk:4<=kind)(hk':kind<7)(q:∀ H',A43 a H' S n r c w nl rr hd la td rw gn sd hl zs ms i N l->P .non H'):UP K a [.ref S.lp,.ref hd,.ref la,.ref rw,.int kind,.str y,.int x] H P E:=by
 refine u5 ?_ (J.use hi);rintro X M M' tks tks' ⟨L,J1,J2,⟨z1,z2,z3,z4⟩,D,lM,off,qq⟩;exact NF _ S.lp hd la rw td X M M' tks tks' y z x ⟨kind,i,rfl,TL,L,J1,J2,oA hi rfl,z1,z2,z3,z4,hk,hk',D,lM,off,λH' k1 k2 k3=>q H' (qq H' k1 k2 k3)⟩
def A43.told(T4:DM K a)(J:A43 a H S n r c w nl rr hd la td rw gn sd hl zs ms i N l)(q:∀ H',A43 a H' S n r c w nl rr hd la td rw gn sd hl zs ms i N l->P (.bl true) H'):UQ K a [.ref S.A.b,.ref l,.ref rw,.int N] H P E:=by
 have J':=J;obtain⟨⟨X,cs,tks,M,d,rfl,rfl,rfl,rfl,rfl,I,l1,l2,J1,J2,G,Sh,el⟩,R⟩:=J;exact IK _ hd la rw l X cs tks M N d ⟨rfl,T4,I,J1,l1,el,λH' s=>q H' (J'.same s)⟩
def A43.hand(T4:DM K a)(J:A43 a H S n r c w nl rr hd la td rw gn sd hl zs ms i N l)(q:∀ H',A43 a H' S n r c w nl rr hd la td rw gn sd hl zs ms i N l->P (.bl true) H'):UR K a [.ref S.A.b,.ref hd,.ref la,.ref rw,.int N] H P E:=by
 have J':=J;obtain⟨⟨X,cs,tks,M,d,rfl,rfl,rfl,rfl,rfl,I,l1,l2,J1,J2,G,Sh,el⟩,R⟩:=J;exact x9 _ hd la rw X cs tks M N ⟨rfl,T4,I,J1,by omega,λH' s=>q H' (J'.same s)⟩
def A43.put{u:Addr}{o:HO}{xs:List V}(J:A43 a H S n r c w nl rr hd la td rw gn sd hl zs ms i N l)(hu:u=l\/u=hl)(eu:H u=some (.lst xs))(hh:∃ ps:List Addr,upd H u o hl=some (.lst (ps.map V.ref))/\ps.length<=i+1/\∀ p∈ps,∃ l1 l2 ks,upd H u o p=some (.tup [.ref l1,.ref l2])/\upd H u o l1=some (.lst (AW ks))/\upd H u o l2=some (.lst (AW ks))/\¬ C9 S hd la td rw gn sd hl l1/\¬ C9 S hd la td rw gn sd hl l2):S43 a (upd H u o) S n r c w nl rr hd la td rw gn sd hl zs ms (i+1):=by
 obtain⟨⟨X,cs,tks,M,d,rfl,rfl,rfl,rfl,rfl,I,l1,l2,J1,⟨kt,ekt,t2,t3⟩,⟨gs,eg,g2⟩,Sh,el⟩,R⟩:=J;obtain⟨kh,eh,_⟩:=J1.hn;obtain⟨kl,ela,_⟩:=J1.ls;obtain⟨rs,er,_⟩:=J1.rs;obtain⟨ks,es,_⟩:=id Sh
 have f:¬ X.S.A.F u/\u≠X.S.tk:=by
  rcases hu with rfl | rfl
  ·exact⟨λz=>R.fl (.inl z),λz=>R.fl (.inr (.inl z))⟩
  ·have:=R.f3 u (by simp);exact⟨this.1,this.2.1⟩
 have nr:u≠rw:=by
  rcases hu with rfl | rfl
  ·exact λz=>R.fl (by simp[C9,z])
  ·exact R.f4.2.2.2.2.symm
 have ng:u≠gn:=by
  rcases hu with rfl | rfl
  ·exact λz=>R.fl (by simp[C9,z])
  ·exact R.f4.2.2.2.1.symm
 have inB:Bl X.S hd la td rw gn sd hl l u:=by
  rcases hu with rfl | rfl
  ·exact .inr rfl
  ·exact .inl (by simp[C9])
 have tk:CG H (upd H u o):=λb ys e=>by rw[AO (A0 e eu (by intro z;cases z))];exact e
 have k:∀ {x:Addr} {o':HO},H x=some o'->x≠u->upd H u o x=some o':=λe n=>by rw[AO n];exact e
 have kB:∀ x (xs:List V),H x=some (.lst xs)->¬ Bl X.S hd la td rw gn sd hl l x->upd H u o x=some (.lst xs):=λx xs e nb=>k e λz=>nb (z ▸ inB)
 have J3:LM (C9 X.S hd la td rw gn sd hl) (upd H u o) hd la rw X.n X.r X.c X.w M:=by
  obtain⟨a1,a2,⟨rs,a3,a4⟩,a5,a6,a7,a8⟩:=J1.keep tk kB (λo e=>k e (A0 eh eu (by intro z;cases z))) (λo e=>k e (A0 ela eu (by intro z;cases z))) (λo e=>k e nr.symm);exact⟨a1,a2,⟨rs,a3,a4.set λx xs e nb z=>nb (.inl z)⟩,a5,a6,⟨by simp[C9],by simp[C9],by simp[C9]⟩,a8⟩
 exact⟨⟨X,cs,tks,M,rfl,rfl,rfl,rfl,rfl,I.put1 (MY eu) f,l2,J3,⟨kt,k ekt (A0 ekt eu (by intro z;cases z)),t2,t3⟩,⟨gs,k eg ng.symm,g2⟩,Sh.keep tk λo e=>by
  rw[es]at e;cases e;exact k es (A0 es eu (by intro z;cases z))⟩,hh,kB _ _ R.enl R.f1,kB _ _ R.err R.f2,λz=>R.f1 (.inl z),λz=>R.f2 (.inl z),R.f3,R.f4⟩
def A43.off{x:Addr}(J:A43 a H S n r c w nl rr hd la td rw gn sd hl zs ms i N l)(hx:H x=none):¬ C9 S hd la td rw gn sd hl x:=by
 obtain⟨⟨X,cs,tks,M,d,rfl,rfl,rfl,rfl,rfl,I,_,_,J1,⟨kt,t1,_⟩,⟨gs,eg,_⟩,⟨ks,es,_⟩,_⟩,R⟩:=J;obtain⟨kh,eh,_⟩:=J1.hn;obtain⟨kl,el,_⟩:=J1.ls;obtain⟨rs,er,_⟩:=J1.rs;obtain⟨ps,h1,_⟩:=R.h;obtain⟨dp,ep⟩:=I.st.bk.pk.ob;intro z;rcases z with z | z | z | z | z | z | z | z | z | z
 ·exact I.st.bk.off hx z
 ·rw[z,I.st.tk]at hx;cases hx
 ·rw[z,ep]at hx;cases hx
 ·rw[z,eh]at hx;cases hx
 ·rw[z,el]at hx;cases hx
 ·rw[z,t1]at hx;cases hx
 ·rw[z,er]at hx;cases hx
 ·rw[z,eg]at hx;cases hx
 ·rw[z,es]at hx;cases hx
 ·rw[z,h1]at hx;cases hx
def A43.list(J:A43 a H S n r c w nl rr hd la td rw gn sd hl zs ms i N l):(∃ ks,H l=some (.lst (AW ks)))/\∃ ps:List Addr,H hl=some (.lst (ps.map V.ref))/\ps.length<=i:=by
 obtain⟨⟨X,cs,tks,M,d,rfl,rfl,rfl,rfl,rfl,I,_,_,J1,_,_,_,el⟩,R⟩:=J;obtain⟨ps,h1,h2,_⟩:=R.h;exact⟨⟨_,el⟩,ps,h1,h2⟩
def A43.clear(J:A43 a H S n r c w nl rr hd la td rw gn sd hl zs ms i N l):S43 a (upd H l (.lst [])) S n r c w nl rr hd la td rw gn sd hl zs ms (i+1):=by
 obtain⟨⟨ks,el⟩,_⟩:=J.list;refine J.put (.inl rfl) el ?_;obtain⟨ps,h1,h2,h3⟩:=J.r.h
 have k:∀ {x:Addr} {o':HO},H x=some o'->x≠l->upd H l (.lst []) x=some o':=λe n=>by rw[AO n];exact e
 refine⟨ps,k h1 λz=>J.r.fl (by simp[C9,z]),av h2,λp hp=> ?_⟩;refine u3 ?_ (h3 p hp);rintro l1 l2 ks ⟨p1,p2,p3,p4,p5⟩;exact x3 l1 l2 ks ⟨k p1 (A0 p1 el (by intro z;cases z)),k p2 λz=>p4 (.inr z),k p3 λz=>p5 (.inr z),λz=>p4 (.inl z),λz=>p5 (.inl z)⟩
def A43.hold{H':Hp}{l' t:Addr}{ks:List Nat}{ps:List Addr}(J:A43 a H S n r c w nl rr hd la td rw gn sd hl zs ms i N l)(s:Same H H')(el:H l=some (.lst (AW ks)))(eh:H hl=some (.lst (ps.map V.ref)))(h0:H l'=none)(e1:H' l'=some (.lst (AW ks)))(e2:H' t=some (.tup [.ref l,.ref l'])):S43 a (upd H' hl (.lst (ps.map V.ref++[.ref t]))) S n r c w nl rr hd la td rw gn sd hl zs ms (i+1):=by
 have nl':=J.off h0;refine(J.same s).put (.inr rfl) (s _ _ eh) ?_;obtain⟨ps',h1,h2,h3⟩:=(J.same s).r.h;rw[s _ _ eh]at h1
 have ep:ps.map V.ref=ps'.map V.ref:=by injection h1 with h1;injection h1
 have ep:ps=ps':=by
  have:=congrArg (Ie λv:V=>match v with | .ref q=>q | _=>0) ep;simpa [pv,pr]using this
 subst ep
 have k:∀ {x:Addr} {o':HO} {o:HO},H' x=some o'->x≠hl->upd H' hl o x=some o':=λe n=>by rw[AO n];exact e
 have nh:∀ {x:Addr},¬ C9 S hd la td rw gn sd hl x->x≠hl:=λnb z=>nb (by simp[C9,z]);refine⟨ps++[t],by rw[AF,bo];rfl,by rw[aj];simp;exact h2,λp hp=> ?_⟩;rcases bh.mp hp with hp | hp
 ·refine u3 ?_ (h3 p hp);rintro l1 l2 ks ⟨p1,p2,p3,p4,p5⟩;exact x3 l1 l2 ks ⟨k p1 (A0 p1 (s _ _ eh) (by intro z;cases z)),k p2 (nh λz=>p4 (.inl z)),k p3 (nh λz=>p5 (.inl z)),λz=>p4 (.inl z),λz=>p5 (.inl z)⟩
 ·rw[ο.mp hp];exact x3 l l' ks ⟨k e2 (A0 e2 (s _ _ eh) (by intro z;cases z)),k (s _ _ el) (nh J.r.fl),k e1 (nh nl'),J.r.fl,nl'⟩
end
def zor(ns:List Int):∃ ms:List Int,EY (ns.map V.int) (some 1) none=ms.map V.int/\ms.length<=ns.length - 1:=by
 refine⟨(ns.drop (HT.sIx ns.length 0 (some 1))).take (HT.sIx ns.length ns.length none - HT.sIx ns.length 0 (some 1)),?_,?_⟩
 ·unfold EY;rw[ν,<-Ik,<-List.map_take]
 ·rw[dk,io]
  have:HT.sIx ns.length 0 (some 1)=min 1 ns.length:=by
   unfold HT.sIx;simp
   try omega
  exact υ (Di _ _) (by rw[this];omega)
def zos{p:Addr}{x:Nat}{Q:VK}(h:H p=some (.tup [.int 2,.int 3,.int 7]))(q:Q (.bl (decide (x=2\/x=3\/x=7))) H):S4 K (.int x) (.ref p) H Q:=by
 refine x2 p _ ⟨rfl,.inr (SqT.of h),rfl,rfl,?_⟩
 have:MJ (.int (x:Nat)) [.int 2,.int 3,.int 7]=decide (x=2\/x=3\/x=7):=by
  simp only[MJ,jt,Js,dt,IQ];rw[je];simp;omega
 simp only[iy,if_false];rw[this];exact q
section
variable{S:SA}{n r c w i kind N:Nat}{nl rr hd la td rw gn sd hl l s:Addr}{zs:List Str}{ms:List Int}{y z:Str}{x:Int}
def S43.obs(J:S43 a H S n r c w nl rr hd la td rw gn sd hl zs ms i):(∃ dx,H S.st=some (.ins (a "Store") dx (sf S.lp S.A.b S.tk)))/\LayAt a H S.lp n r c w:=by
 obtain⟨⟨X,cs,tks,M,rfl,rfl,rfl,rfl,rfl,I,_⟩,_⟩:=J;exact⟨I.st.ob,I.st.ly⟩
abbrev VB(S:SA)(nl hd la td rw gn sd hl s:Addr)(y1 y14 y15 y16 y17 y18 y19:Option V):St:=[some (.ref s),y1,some (.ref S.lp),some (.ref S.A.gp),some (.ref S.st),some (.ref nl),some (.ref hd),some (.ref la),some (.ref td),some (.ref S.A.b),some (.ref rw),some (.ref gn),some (.ref sd),some (.ref hl),y14,y15,y16,y17,y18,y19]
def dF(a:Ad)(S:SA)(n r c w:Nat)(nl rr hd la td rw gn sd hl s:Addr)(zs:List Str)(ms:List Int)(i:Nat)(σ:St)(H:Hp):Prop:=S43 a H S n r c w nl rr hd la td rw gn sd hl zs ms i/\∃ y1 y14 y15 y16 y17 y18 y19,σ=VB S nl hd la td rw gn sd hl s y1 y14 y15 y16 y17 y18 y19
def zot{D:Ends}{y14 y15 y16 y19:Option V}{v:Int}(T4:DM K a)(J:A43 a H S n r c w nl rr hd la td rw gn sd hl zs ms i N l)(hi:i<=61)(hD:∀ H' y1 y14 y15 y16 y17 y18 y19,S43 a H' S n r c w nl rr hd la td rw gn sd hl zs ms (i+1)->D.nx (VB S nl hd la td rw gn sd hl s y1 y14 y15 y16 y17 y18 y19) H'):AH (U0 K a (λ_=>E) (λ_=>E)) (AH (U1 K a (λ_=>E) (λ_=>E)) (U2 K a (λ_=>E) (λ_=>E))) D (VB S nl hd la td rw gn sd hl s (some (.int v)) y14 y15 y16 (some (.ref l)) (some (.int N)) y19) H:=by
 push_cast[↓U0_];refine J.told T4 λH1 J1=> ?_;push_cast[↓U1_];refine J1.hand T4 λH2 J2=> ?_;push_cast[↓U2_];refine⟨⟨by decide,by decide⟩,?_⟩;obtain⟨⟨ks,el⟩,ps,eh,hps⟩:=J2.list;split
 ·push_cast[↓Ag_];refine⟨.inl ⟨rfl,_,SqL.of eh⟩,_,.inl (SqL.of el),λl' hl'=>⟨by decide,λt ht=> ?_⟩⟩
  have s3:=AL (o:=.lst (AW ks)) hl'
  have s4:=AL (o:=.tup [.ref l,.ref l']) ht;refine⟨_,(s3.trans s4) _ _ eh,by rw[ν,ka];exact oC (υ hps hi) rfl,hD _ _ _ _ _ _ _ _ (J2.hold (s3.trans s4) el eh hl' (s4 _ _ AF) AF)⟩
 ·push_cast[↓Ah_];exact⟨.inl ⟨rfl,_,SqL.of el⟩,x2 l _ ⟨rfl,rfl,el,hD _ _ _ _ _ _ _ _ J2.clear⟩⟩
end
def zou:zc7 K a vs H Q E->cS K a (λ_=>E) (BC Q) (start ["","","","","","","","","","","","","","","","","","","",""] vs) H:=by
 apply u2;rintro s ns ⟨rfl,T4,TDk,hs,hl,q⟩
 have T4':=T4;obtain⟨T,TP,TL,TS⟩:=T4;push_cast[cS,↓zE_,↓zc5];refine x2 ns 0 ⟨rfl,hs,oA hl rfl,?_⟩;generalize M3 ns 0=x;obtain⟨n,en,hn⟩:∃ n:Nat,1+x % 3=n/\1<=n/\n<=3:=md _ 3 (by decide);obtain⟨r,er,hr⟩:∃ n:Nat,1+x / 3 % 3=n/\1<=n/\n<=3:=md _ 3 (by decide);obtain⟨c,ec,hc⟩:∃ n:Nat,1+x / 9 % 3=n/\1<=n/\n<=3:=md _ 3 (by decide);obtain⟨w,ew,hw⟩:∃ n:Nat,1+x / 27 % 4=n/\1<=n/\n<=4:=md _ 4 (by decide);push_cast[↓zF_,en,er,ec,ew];clear en er ec ew;refine⟨⟨by decide,by decide⟩,⟨by decide,by decide⟩,⟨by decide,by decide⟩,λlp dl hlp hdl ndl=> ?_⟩
 have s0:Same H (upd (upd H dl (.own lp)) lp (.ins (a "Layout") dl [])):=(AL hdl).trans (AL (by rw[AO ndl.symm];exact hlp));refine x6 lp dl n r c w ⟨rfl,TL,AF,oA hn.2 rfl,oA hr.2 rfl,oA hc.2 rfl,hw.1,oA hw.2 rfl,λH2 L2 sb2=>⟨rfl,?_⟩⟩
 have s2:Same H H2:=λy o e=>sb2 _ _ (s0 _ _ e) (BL e hlp);clear s0 sb2 hlp hdl ndl;replace hs:=s2.seq hs;clear s2;obtain⟨dl2,el⟩:=L2.ob;push_cast[↓zG_];refine y2 ⟨el,CC,x5 lp n r c w ⟨rfl,TL,TP,L2,λgp cl H3 hgp BM P3 s3=> ?_⟩⟩;push_cast[↓zH_];intro st dst hst hdst ndst
 have s4:Same H3 (upd (upd H3 dst (.own st)) st (.ins (a "Store") dst [])):=(AL hdst).trans (AL (by rw[AO ndst.symm];exact hst))
 have hN:∀ r'∈ah (n+r+c+r+c) (ah w V.non),∀ v∈r',v=.non:=λr' hr' v hv=>by
  rw[mx hr']at hv;exact mx hv
 have hB:∀ {kind k:Nat} {v:V},((ah (n+r+c+r+c) (ah w V.non))[AY n r c w kind k]?).bind (λq=>q[k % w]?)=some v->v=.non:=λhv=>by
  obtain⟨r',er',ev⟩:=wq.mp hv;exact hN r' (π er') _ (π ev)
 refine RG st dst lp gp cl n r c w _ 0 (λ_ _=>.no) ⟨rfl,T4',AF,(L2.same s3).same s4,P3.same s4,⟨oA hn.2 rfl,oA hr.2 rfl,oA hc.2 rfl,oA hw.2 rfl,by simp⟩,(λr' hr' v hv=>by rw[hN r' hr' v hv];trivial),λkind k v h1 hk hv=> ?_,λ_ _ _ _=>trivial,λS H5 e1 e2 e3 e4 off htk I RE=>⟨rfl,?_⟩⟩
 ·unfold FI at hv
  have:ES [] (AY n r c w kind k:Nat) (k % w:Nat)=none:=rfl;rw[this]at hv;exact hB hv
 subst e1 e2
 have s35:Same H3 H5:=λy o e=>RE _ _ (s4 _ _ e) (BL e hst)
 have s25:Same H2 H5:=s3.trans s35
 have fw:c * w<=12:=υ (e_ hc.2 hw.2) (by decide);obtain⟨X,eX⟩:∃ X:SX,X=⟨S,n,r,c,w,ah (n+r+c+r+c) (ah w V.non),0,λ_=>false⟩:=⟨_,rfl⟩
 have I5:C45 a H5 X [] [] ⟨λ_ _=>.no,[]⟩:=by
  subst eX;refine⟨I,⟨λ_=>none,λC _=>⟨λ_ _ _ _ e=>(by cases e),λ_ _ _ e=>(by cases e),λ_ _ _ e=>(by cases e),λ_ _ _ e=>(by cases e),λ_ _ _ e=>(by cases e),λ_ _ _ _ _ _ _ e=>(by cases e),λ_ _ _ _ _ _ _ e=>(by cases e)⟩,λ_ _ _ _ e=>(by cases e),λ_ _=>rfl,λ_ _ _ _ _ _ _=>Kr⟩,rfl,λk c e=>(by simp at e),λkind k v h1 hk hv=>hB hv,fw,λx hx=>(by cases hx)⟩
 push_cast[↓zI_];refine⟨⟨by decide,by decide⟩,_,rfl,λnl zs H6 hnl s6 enl hzl hzn=> ?_⟩;obtain⟨ms,ems,hms⟩:=zor ns
 have egp:∃ dp fs,H5 gp=some (.ins (a "Plank") dp fs):=by
  obtain⟨dp,e⟩:=I.bk.pk.ob;exact x2 _ _ (e3 ▸ e)
 revert egp;apply u2;rintro dgp fgp egp
 have offB:∀ {x:Addr},H5 x=none->¬ S.A.F x/\x≠S.tk/\x≠S.A.gp:=λhx=>⟨I.bk.off hx,λz=>(by rw[z,I.tk]at hx;cases hx),λz=>(by rw[z,e3,egp]at hx;cases hx)⟩
 push_cast[↓zJ_];intro hd hhd;refine nO hhd λH7 s7 e7=> ?_;push_cast[↓zK_];intro la hla;refine nO hla λH8 s8 e8=> ?_;push_cast[↓zL_];intro td htd;refine nO htd λH9 s9 e9=> ?_
 have s59:Same H5 H9:=((s6.trans s7).trans s8).trans s9;obtain⟨dxs,ho⟩:=(I.same s59).ob;push_cast[↓zM_];refine y2 ⟨ho,DA,y5 ⟨rfl,TS,ho,?_⟩⟩;push_cast[↓zN_];refine⟨by decide,λrw hrw=> ?_⟩;refine nO hrw λH10 s10 e10=> ?_;push_cast[↓zO_];refine⟨by decide,λgn hgn=> ?_⟩;refine nO hgn λH11 s11 e11=> ?_;push_cast[↓zP_];intro sd hsd;refine nO hsd λH12 C1 e12=> ?_;push_cast[↓zQ_];refine⟨by decide,λhl hhl=> ?_⟩;refine nO hhl λH13 s13 e13=> ?_
 have s9d:Same H9 H13:=((s10.trans s11).trans C1).trans s13;push_cast[↓Aj_];refine mU (s9d.seq (s59.seq (s25.seq hs))) λrr hrr=> ?_;rw[ems]
 have s14:=AL (o:=.lst (ms.map V.int)) hrr
 have e14:upd H13 rr (.lst (ms.map V.int)) rr=some (.lst (ms.map V.int)):=AF;revert s14 e14;generalize upd H13 rr (.lst (ms.map V.int))=H14;intro s14 e14
 have fr:∀ {y:Addr},H13 y=none->H5 y=none:=λh=>s59.free (s9d.free h)
 have o7:=offB (s6.free hhd)
 have o8:=offB (s6.free (s7.free hla))
 have o9:=offB (s6.free (s7.free (s8.free htd)))
 have o10:=offB (s59.free hrw)
 have o11:=offB (s59.free (s10.free hgn))
 have o12:=offB (s59.free (s10.free (s11.free hsd)))
 have o13:=offB (s59.free (s10.free (s11.free (C1.free hhl))))
 have e7':=s9 _ _ (s8 _ _ e7)
 have e8':=s9 _ _ e8
 have sl:=(s9d.trans s14)
 have nB:∀ {y:Addr},H5 y=none->y≠hd->y≠la->y≠td->y≠rw->y≠gn->y≠sd->y≠hl->¬ C9 S hd la td rw gn sd hl y:=λh n1 n2 n3 n4 n5 n6 n7 z=>by
  obtain⟨o1,o2,o3⟩:=offB h;rcases z with z | z | z | z | z | z | z | z | z | z
  ·exact o1 z
  ·exact o2 z
  ·exact o3 z
  ·exact n1 z
  ·exact n2 z
  ·exact n3 z
  ·exact n4 z
  ·exact n5 z
  ·exact n6 z
  ·exact n7 z
 have J14:S43 a H14 S n r c w nl rr hd la td rw gn sd hl zs ms 0:=by
  refine⟨x4 X [] [] ⟨λ_ _=>.no,[]⟩ ⟨by rw[eX],by rw[eX],by rw[eX],by rw[eX],by rw[eX],I5.same (s59.trans sl),a_ _,⟨⟨[],sl _ _ e7',a_ _,λ_ _ _ _=>.inl ⟨rfl,rfl⟩⟩,⟨[],sl _ _ e8',a_ _,λ_ _ _ _=>rfl⟩,⟨[],s14 _ _ (s13 _ _ (C1 _ _ (s11 _ _ e10))),.nil⟩,rfl,(BL e7 hla).symm.symm,⟨by simp[C9],by simp[C9],by simp[C9]⟩,λ_ _ _ _=>trivial⟩,⟨[],sl _ _ e9,a_ _,λ_=>rfl⟩,⟨[],s14 _ _ (s13 _ _ (C1 _ _ e11)),a_ _,λk b e=>(by simp at e),λ_ _=>by rw[eX]⟩,⟨[],s14 _ _ (s13 _ _ e12),a_ _,λ_ _ _ _=>rfl⟩⟩,⟨[],s14 _ _ e13,a_ _,λp hp=>by cases hp⟩,sl _ _ (s9 _ _ (s8 _ _ (s7 _ _ enl))),e14,?_,?_,λx hx=> ?_,?_⟩
  ·exact nB hnl (BL enl hhd) (BL (s7 _ _ enl) hla) (BL (s8 _ _ (s7 _ _ enl)) htd) (BL (s9 _ _ (s8 _ _ (s7 _ _ enl))) hrw) (BL (s10 _ _ (s9 _ _ (s8 _ _ (s7 _ _ enl)))) hgn) (BL (s11 _ _ (s10 _ _ (s9 _ _ (s8 _ _ (s7 _ _ enl))))) hsd) (BL (C1 _ _ (s11 _ _ (s10 _ _ (s9 _ _ (s8 _ _ (s7 _ _ enl)))))) hhl)
  ·exact nB (fr hrr) (BL (s9d _ _ e7') hrr).symm (BL (s9d _ _ e8') hrr).symm (BL (s9d _ _ e9) hrr).symm (BL (s13 _ _ (C1 _ _ (s11 _ _ e10))) hrr).symm (BL (s13 _ _ (C1 _ _ e11)) hrr).symm (BL (s13 _ _ e12) hrr).symm (BL e13 hrr).symm
  ·rcases hx with rfl | rfl | rfl | rfl | rfl | rfl | rfl
   ·exact o7
   ·exact o8
   ·exact o9
   ·exact o10
   ·exact o11
   ·exact o12
   ·exact o13
  ·exact⟨(BL (s11 _ _ (s10 _ _ e7')) hsd).symm,(BL (s11 _ _ (s10 _ _ e8')) hsd).symm,(BL e10 hgn).symm,BL (C1 _ _ e11) hhl,BL (C1 _ _ (s11 _ _ e10)) hhl⟩
 rw[<-e3];refine(.inl ⟨⟨_,SqL.of e14⟩,MO (xs:=ms.map V.int) (dF a S n r c w nl rr hd la td rw gn sd hl s zs ms) ⟨J14,x7 _ _ _ _ _ _ _ rfl⟩ (λi σ H' _ ⟨J,_⟩=>SqL.of J.err) (λi v σ H' ev hzz=> ?_) (λσ H' hzz=> ?_)⟩)
 ·obtain⟨J,y1,y14,y15,y16,y17,y18,y19,es⟩:=hzz;subst es;rw[ρ,bq]at ev;obtain⟨y,ey,rfl⟩:=ev
  have hi:=(ι.mp ey).1;obtain⟨⟨dxs,ho⟩,L'⟩:=J.obs;obtain⟨dl',el'⟩:=L'.ob
  have nm:∀ {i:Int} {H9:Hp} {QV:VK},H9 nl=some (.lst (zs.map V.str))->(∀ z,B7 z=true->QV (.str z) H9)->CB K (.ref nl) (.int (i % 5)) H9 QV:=λ{i H9 QV} e9 qv=>by
   obtain⟨j,ej,hj⟩:∃ j:Nat,i % 5=j/\j<5:=mn i 5 (by decide)
   have h5:j<zs.length:=hzl ▸ hj;rw[ej];refine D5 (n:=j) (v:=.str (zs[j]'h5)) (SqL.of e9) rfl ?_ (qv _ (hzn _ (wt h5)));rw[ρ,ζ h5]
   rfl
  obtain⟨kk,ek,hk⟩:∃ b:Nat,y % 9=b/\b<9:=mn y 9 (by decide)
  have hi61:i<=61:=by omega
  push_cast[↓zR_,↓zS_];refine⟨⟨by decide,by decide⟩,nm J.enl λz1 hz1=>⟨⟨by decide,by decide⟩,nm J.enl λz2 hz2=> ?_⟩⟩;rw[ek];clear ek;push_cast[↓zV_];split
  ·push_cast[↓zT_,↓zU_];obtain⟨b,eb,hb⟩:∃ b:Nat,y / 9 % ((n+r+c+r+c:Nat):Int)=b/\b<n+r+c+r+c:=mn _ _ (by omega);refine⟨⟨by decide,by decide⟩,y2 ⟨el',CC,x5 S.lp n r c w ⟨rfl,TL,L',?_⟩⟩⟩;refine⟨by omega,?_⟩
   show QW K a [.ref S.lp,.ref S.A.gp,.ref S.st,.ref rw,.ref gn,.ref sd,.int (y / 9 % ((n:Int)+r+c+r+c))] _ _ _;rw[show((n:Int)+r+c+r+c)=((n+r+c+r+c:Nat):Int) by exact rfl,eb];refine J.wr T4' (oA hi61 rfl) hb λH11 J11=> ?_;push_cast[];exact⟨J11,x7 _ _ _ _ _ _ _ rfl⟩
  ·push_cast[↓zW_];refine⟨⟨by decide,by decide⟩,J.deed T4' TDk hi61 (by omega) hz1 hz2 (λH11 J11=> ?_) λN l H11 M11=> ?_⟩
   ·push_cast[↓zY_,↓zX_];exact⟨J11.up,x7 _ _ _ _ _ _ _ rfl⟩
   ·push_cast[↓zY_,↓z6_];obtain⟨rs,ers,hrs⟩:=M11.len;refine⟨N,.inl ⟨_,SqL.of ers,by rw[ν,hrs]⟩,?_⟩
    have fin:∀ H12,A43 a H12 S n r c w nl rr hd la td rw gn sd hl zs ms i N l->AH (U0 K a (λ_=>E) (λ_=>E)) (AH (U1 K a (λ_=>E) (λ_=>E)) (U2 K a (λ_=>E) (λ_=>E))) { nx:=dF a S n r c w nl rr hd la td rw gn sd hl s zs ms (i+1),rt:=Q,bk:=cR K a (λ_=>E) (λ_=>E) (BC Q),ct:=dF a S n r c w nl rr hd la td rw gn sd hl s zs ms (i+1) } (VB S nl hd la td rw gn sd hl s (some (.int y)) (some (.int kk)) (some (.str z1)) (some (.str z2)) (some (.ref l)) (some (.int N)) y19) H12:=λH12 J12=>zot T4' J12 (hi61) λH13 y1 y14 y15 y16 y17 y18 y19 J13=>⟨J13,x7 _ _ _ _ _ _ _ rfl⟩
    push_cast[↓Ac_];split
    ·push_cast[↓z7_];exact M11.make TL hi61 (by omega) fin
    ·push_cast[↓Ab_];refine⟨by decide,λp hp=>zos AF ?_⟩;simp only[XM]
     have M12:=M11.same (AL (o:=.tup [.int 2,.int 3,.int 7]) hp);by_cases hk3:kk=2\/kk=3\/kk=7
     ·rw[if_pos (decide_eq_true hk3)];push_cast[↓z8_];exact M12.way TL hi61 hk3 fin
     ·rw[if_neg (by rw[decide_eq_true_eq];exact hk3)];push_cast[↓z9_];exact⟨⟨by decide,by decide⟩,M12.pieces TL hi61 (by omega) (by omega) fin⟩
 ·obtain⟨J,y1,y14,y15,y16,y17,y18,y19,es⟩:=hzz;subst es;push_cast[];push_cast[↓cR_];obtain⟨ps,eh,hps,hall⟩:=J.h;rw[ν]at hps;refine .inl ⟨⟨_,SqL.of eh⟩,lY (λ_=>false) (C4 _ (by rw[ν];omega)) (SqL.of eh) (λv hv QB qb=> ?_) λr1 hr1=>⟨by decide,λr2 OS=> ?_⟩⟩
  ·obtain⟨p,hp,rfl⟩:=cj.mp hv;refine u3 ?_ (hall p hp);rintro l1 l2 ks ⟨p1,p2,p3,_⟩;push_cast[D8];rw[Cb]at p2 p3;exact CU p1 (n:=0) rfl rfl (CU p1 (n:=1) rfl rfl (nC (MS (n:=2) (by decide) (Dat.lst (n:=1) (SqL.of p2) (JS _)) (Dat.lst (n:=1) (SqL.of p3) (JS _)) qb)))
  ·have e0:(ps.map V.ref).filter (λ_=>false)=[]:=by simp
   rw[e0]at OS ⊢;exact Vw (xs:=[]) (SqL.of (AL OS _ _ AF)) (SqL.of AF) (by simp) (q _)
end
end L2
namespace L2
def BK(i:Nat):Stmt:=PySem.Challenge.pw_holdback_k43_changes_told.main.body.getD i (.Pass ⟨0,0,0,0⟩)
structure Txt(K:η)(mg:Str->Option Value)(a:Ad):Prop where
 zsb:Cls K (a "Change")
 D6:Cls K (a "Hold")
 B9:Cls K (a "Layout")
 IJ:Cls K (a "Plank")
 C3:Cls K (a "Store")
 zsc:GV mg "MOST_LETTERS" (.int 8)
 zsd:GV mg "MOST_PIECE_SIGNS" (.int 40)
 iR:mg "NoBlock"=some (.ref (a "NoBlock"))
 zsn:GV mg "NoBlock" (.ref (a "NoBlock"))
 iU:Exc K (a "NoBlock")
 zsf:mg "NoChange"=some (.ref (a "NoChange"))
 zso:GV mg "NoChange" (.ref (a "NoChange"))
 zsg:Exc K (a "NoChange")
 iS:mg "NoName"=some (.ref (a "NoName"))
 zsp:GV mg "NoName" (.ref (a "NoName"))
 Fy:Exc K (a "NoName")
 iT:mg "NoPiece"=some (.ref (a "NoPiece"))
 zsq:GV mg "NoPiece" (.ref (a "NoPiece"))
 Fz:Exc K (a "NoPiece")
 Fw:mg "NoRoom"=some (.ref (a "NoRoom"))
 zsr:GV mg "NoRoom" (.ref (a "NoRoom"))
 zsh:Exc K (a "NoRoom")
 zse:GV mg "PERCENT" (.int 37)
 Fx:mg "Twice"=some (.ref (a "Twice"))
 zss:GV mg "Twice" (.ref (a "Twice"))
 zsi:Exc K (a "Twice")
 iO:mg "all"=none
 Fq:mg "bool"=none
 zr9:mg "dict"=none
 Fv:mg "enumerate"=none
 VP:mg "isinstance"=none
 FM:mg "len"=none
 OU:mg "list"=none
 zsa:mg "ord"=none
 F6:mg "range"=none
 iP:mg "set"=none
 iQ:mg "sorted"=none
 VQ:mg "tuple"=none
section
variable(P:au)(w:World){K:η}{mg:Str->Option Value}(base:Heap){a:Ad}{f:Addr}{fd:dr}
seal wpAny
abbrev dG:Stmt:=CD (BK 10) 0
def Cp:BJ ["self","place","value","needs"] 4 (A7 dG):=.go
def zov(T:Txt K mg a)(F:Fun K "__init__" "Change.__init__" dG f fd) :=
 F.oK P w mg base 0 (Y8 K a) Cp zlr λ_ _ _ _ _ E hr hx=>(AK (F1 (FY (AA 0) (AA 1) rfl)) (AK (F1 (FY (AA 0) (AA 2) rfl)) (AN (F1 (FY (AA 0) (AA 3) rfl)))))
abbrev dH:Stmt:=CD (BK 11) 10
def dJ:BJ ["self","numbers","number"] 2 (A7 dH):=.go
def zow(T:Txt K mg a)(F:Fun K "ask_for_changes" "Book.ask_for_changes" dH f fd) :=
 F.oK P w mg base 0 (Y9 K a) dJ zlw λ_ _ _ _ _ E hr hx=>(AN (FW hx.po rfl (HI (HD (AA 1))) (CT 2 dJ.nd) (AN (CA (GZ (P9 (O3 HC KO AR (AA 2) (DU FF rfl T.FM (by rfl) (AI (A9 (A8 (AA 0) rfl))))))) (AN (JQ hx T.zsg rfl T.zsf (AI FN))) CZ))))
abbrev dM:Stmt:=BK 12
def Cq:BJ ["needs","ahead"] 2 (A7 dM):=.go
def zox(T:Txt K mg a)(F:Fun K "needs_with" "needs_with" dM f fd) :=
 F.oK P w mg base 0 (US K a) Cq zlt λ_ _ _ _ _ E hr hx=>(AK (CA (CS (CQ N4 (AA 1) EN (CP _))) (AN (BF (JL XR rfl T.VQ (by rfl) (AI (W9 rfl rfl T.iQ rfl T.iP (AA 0)))))) CZ) (AN (BF (JL XR rfl T.VQ (by rfl) (AI (W9 rfl rfl T.iQ rfl T.iP (AZ CJ (JL QD rfl T.OU (by rfl) (AI (AA 0))) (BZ (AI (AA 1))))))))))
abbrev dN:Stmt:=CD (BK 14) 2
def dO:BJ ["self","number","gone","need"] 3 (A7 dN):=.go
def zoy(T:Txt K mg a)(F:Fun K "lack_of" "Hold.lack_of" dN f fd) :=
 F.oK P w mg base 0 (ZE K a) dO zl2 λ_ _ _ _ _ E hr hx=>(AK (FW hx.po rfl (HI (HD (A9 (A8 (BP BQ (A9 (A8 (AA 0) rfl)) (AA 1) (λ_ _=>rfl)) rfl)))) (CT 3 dO.nd) (AN (CA (PW.pt (NM (LR (LA (TK (SI (DB hr) (AA 3) (A9 (A8 (AA 0) rfl)))) (by with_unfolding_all rfl))) (NL (LR (LA (TK (SI (DB hr) (AA 3) (AA 2))) (by with_unfolding_all rfl)))))) (AN (BF (AA 3))) CZ))) (AN (BF EN)))
abbrev dP:Stmt:=CD (BK 14) 3
def VC:BJ ["self","values","block","laid","number"] 3 (A7 dP):=.go
def zoz(T:Txt K mg a)(F:Fun K "laid_over" "Hold.laid_over" dP f fd) :=
 F.oK P w mg base 0 (ZK K a) VC zl5 λ_ _ _ _ _ E hr hx=>(AK (A5 3 VC.nd (JL QD rfl T.OU (by rfl) (AI (AA 1)))) (AK (FW hx.po rfl (HI (HD (BP BQ (A9 (A8 (AA 0) rfl)) (AA 2) (λ_ _=>rfl)))) (CT 4 VC.nd) (AN (CA (LR (LA (TJ (SH (DB hr) (AA 4) (A9 (A8 (AA 0) rfl)))) (by with_unfolding_all rfl))) (AN (OZ (A9 (A8 (BP BQ (A9 (A8 (AA 0) rfl)) (AA 4) (λ_ _=>rfl)) rfl)) (VX (AA 3) (BP BQ (A9 (A8 (BP BQ (A9 (A8 (AA 0) rfl)) (AA 4) (λ_ _=>rfl)) rfl)) AR (λ_ _=>rfl)) WQ))) CZ))) (AN (BF (AA 3)))))
abbrev dQ:Stmt:=BK 17
def Cv:BJ ["sign"] 1 (A7 dQ):=.go
def zo0(T:Txt K mg a)(F:Fun K "is_sign" "is_sign" dQ f fd) :=
 F.oK P w mg base 0 (ZL K a) Cv zmy λ_ _ _ _ _ E hr hx=>(AN (BF (XO (VU (S8 (RZ HC HC FN (AA 0) FN)) (VT (jC (IX hr.units) (DU Vz rfl T.zsa (by rfl) (AI (AA 0))) (WK T.zse rfl) (CP _)))))))
abbrev dR:Stmt:=BK 21
def dU:BJ ["thing"] 1 (A7 dR):=.go
def Cw:(["sign"]:List Str).Nodup:=by decide +kernel
def zo1(T:Txt K mg a)(F:Fun K "is_name" "is_name" dR f fd) :=
 F.oK P w mg base 0 (ZM K a) dU zmz λ_ _ _ _ _ E hr hx=>(AN (BF (XO (VU (S8 (RZ HC HC AR (DU FF rfl T.FM (by rfl) (AI (AA 0))) (WK T.zsc rfl))) (VT (DU (WZ rfl) rfl T.iO (by rfl) (AI (JP (tn:=["sign"]) (cn:=[]) (cap:=[]) dU.cp rfl (lH (AA 0)) (λ_ _ _ _ _ _=>(CT 0 Cw)) (λ_ _ _ _ _ _=>GS) (λ_ _ _ _ _ _=>(S8 (RZ HC HC FN (AA 0) FN)))))))))))
abbrev dW:Stmt:=CD (BK 28) 12
def Cy:BJ ["self"] 1 (A7 dW):=.go
def zo2(T:Txt K mg a)(F:Fun K "hold" "Store.hold" dW f fd) :=
 F.oK P w mg base 0 (ZN K a) Cy zm5 λ_ _ _ _ _ E hr hx=>(AN (BF (A9 (A8 (AA 0) rfl))))
abbrev dX:Stmt:=CD (BK 30) 0
def dY:BJ ["self","blocks","cells"] 3 (A7 dX):=.go
def zo3:(["block","cells"]:List Str).Nodup:=by decide +kernel
def zo4(T:Txt K mg a)(F:Fun K "__init__" "Plank.__init__" dX f fd) :=
 F.oK P w mg base 0 (ZO K a) dY zlj λ_ _ _ _ _ E hr hx=>(AK (F1 (FY (AA 0) (JP (tn:=["block"]) (cn:=["cells"]) (cap:=[2]) dY.cp rfl (GO (GG rfl T.F6 (AI (AA 1)))) (λ_ _ _ _ _ _=>(CT 0 zo3)) (λ_ _ _ _ _ _=>GS) (λ_ _ _ _ _ _=>(AZ LO (DT (AI EN)) (AA 1)))) rfl)) (AK (F1 (FY (AA 0) (AA 2) rfl)) (AN (F1 (FY (AA 0) AR rfl)))))
abbrev dZ:Stmt:=CD (BK 30) 1
def Cz:BJ ["self"] 1 (A7 dZ):=.go
def zo5(T:Txt K mg a)(F:Fun K "blocks" "Plank.blocks" dZ f fd) :=
 F.oK P w mg base 0 (ZP K a) Cz zlk λ_ _ _ _ _ E hr hx=>(AN (BF (DU FF rfl T.FM (by rfl) (AI (A9 (A8 (AA 0) rfl))))))
abbrev d0:Stmt:=CD (BK 30) 2
def Db:BJ ["self"] 1 (A7 d0):=.go
def zo6(T:Txt K mg a)(F:Fun K "cells" "Plank.cells" d0 f fd) :=
 F.oK P w mg base 0 (ZQ K a) Db zll λ_ _ _ _ _ E hr hx=>(AN (BF (A9 (A8 (AA 0) rfl))))
abbrev d6:Stmt:=CD (BK 30) 3
def Dc:BJ ["self"] 1 (A7 d6):=.go
def zo7(T:Txt K mg a)(F:Fun K "writings" "Plank.writings" d6 f fd) :=
 F.oK P w mg base 0 (ZR K a) Dc zlq λ_ _ _ _ _ E hr hx=>(AN (BF (A9 (A8 (AA 0) rfl))))
abbrev d7:Stmt:=CD (BK 30) 6
def Dd:BJ ["self","block"] 2 (A7 d7):=.go
def zo8(T:Txt K mg a)(F:Fun K "ask_for_block" "Plank.ask_for_block" d7 f fd) :=
 F.oK P w mg base 0 (ZS K a) Dd zlm λ_ _ _ _ _ E hr hx=>(AN (CA (GZ (P9 (O3 HC KO AR (AA 1) (DU FF rfl T.FM (by rfl) (AI (A9 (A8 (AA 0) rfl))))))) (AN (JQ hx T.iU rfl T.iR (AI FN))) CZ))
abbrev d8:Stmt:=CD (BK 32) 0
def Dg:BJ ["self","names","records","pieces","cells"] 5 (A7 d8):=.go
def zo9(T:Txt K mg a)(F:Fun K "__init__" "Layout.__init__" d8 f fd) :=
 F.oK P w mg base 0 (ZT K a) Dg zl7 λ_ _ _ _ _ E hr hx=>(AK (F1 (FY (AA 0) (AA 1) rfl)) (AK (F1 (FY (AA 0) (AA 2) rfl)) (AK (F1 (FY (AA 0) (AA 3) rfl)) (AN (F1 (FY (AA 0) (AA 4) rfl))))))
abbrev d9:Stmt:=CD (BK 32) 6
def Dh:BJ ["self"] 1 (A7 d9):=.go
def zpa(T:Txt K mg a)(F:Fun K "counts" "Layout.counts" d9 f fd) :=
 F.oK P w mg base 0 (ZU K a) Dh zmg λ_ _ _ _ _ E hr hx=>(AN (BF (DT (DV (AZ LO (A9 (A8 (AA 0) rfl)) (A9 (A8 (AA 0) rfl))) (AZ LO (A9 (A8 (AA 0) rfl)) (A9 (A8 (AA 0) rfl))) (AZ LO (A9 (A8 (AA 0) rfl)) (A9 (A8 (AA 0) rfl)))))))
abbrev eA:Stmt:=CD (BK 32) 9
def Dj:BJ ["self"] 1 (A7 eA):=.go
def zpb(T:Txt K mg a)(F:Fun K "blocks_ahead_of_marks" "Layout.blocks_ahead_of_marks" eA f fd) :=
 F.oK P w mg base 0 (ZV K a) Dj zme λ_ _ _ _ _ E hr hx=>(AN (BF (AZ CJ (AZ CJ (A9 (A8 (AA 0) rfl)) (A9 (A8 (AA 0) rfl))) (A9 (A8 (AA 0) rfl)))))
abbrev eB:Stmt:=CD (BK 32) 10
def Dk:BJ ["self","block","k"] 3 (A7 eB):=.go
def zpc(T:Txt K mg a)(F:Fun K "place_from" "Layout.place_from" eB f fd) :=
 F.oK P w mg base 0 (ZW K a) Dk zl8 λ_ _ _ _ _ E hr hx=>(AN (BF (DT (BU (AZ CJ (AA 1) (AZ D9 (AA 2) (A9 (A8 (AA 0) rfl)))) (AZ D0 (AA 2) (A9 (A8 (AA 0) rfl)))))))
abbrev eC:Stmt:=BK 34
def Dl:BJ ["script","k"] 2 (A7 eC):=.go
def zpd(T:Txt K mg a)(F:Fun K "_law_cell_at" "_law_cell_at" eC f fd) :=
 F.oK P w mg base 0 (ZX K a) Dl zli λ_ _ _ _ _ E hr hx=>(AK (CA (CS (CQ KO (AA 1) (DU FF rfl T.FM (by rfl) (AI (AA 0))) (CP _))) (AN (BF (BP BQ (AA 0) (AA 1) (λ_ _=>rfl)))) CZ) (AN (BF AR)))
abbrev eE:Stmt:=BK 35
def IC:BJ ["cell","letters","base","rest","k","at","first","last","turned"] 1 (A7 eE):=.go
def zpe(T:Txt K mg a)(F:Fun K "_law_names" "_law_names" eE f fd) :=
 F.oK P w mg base 0 (ZY K a) IC zn0 λ_ _ _ _ _ E hr hx=>(AK (A5 1 IC.nd FN) (AK (A5 2 IC.nd FN) (AK (A5 3 IC.nd (AZ D9 (AA 0) AR)) (AK (FW hx.po rfl (GO (GG rfl T.F6 (AI (AZ CJ AR (AZ D0 (AA 0) AR))))) (CT 4 IC.nd) (AK (A5 2 IC.nd (AZ CJ (AA 2) (BP BQ (AA 1) (AZ D0 (AZ CJ (AA 3) (AZ LO (AZ LO AR (AA 4)) (AZ D0 (AZ D9 (AA 3) AR) AR))) AR) (λ_ _=>rfl)))) (AN (A5 3 IC.nd (AZ CJ (AZ D9 (AA 3) AR) (AZ LO AR (AA 4))))))) (AK (A5 5 IC.nd (AZ D0 (AZ D9 (AA 0) AR) (DU FF rfl T.FM (by rfl) (AI (AA 2))))) (AK (A5 6 IC.nd (BP BQ (AA 1) (AZ D0 (AZ D9 (AA 0) AR) AR) (λ_ _=>rfl))) (AK (A5 7 IC.nd (BP BQ (AA 1) (AZ D0 (AZ CJ (AZ CJ (AZ D9 (AA 0) AR) AR) (AZ D0 (AZ D9 (AA 0) AR) AR)) AR) (λ_ _=>rfl))) (AK (A5 8 IC.nd (BP BQ (AA 1) (AZ D0 (AZ CJ (AZ CJ (G0 PySem.F.plainAttrs_str PySem.F.slot_str_find PySem.F.type_str_find Yz (AA 1) (AI (BP BQ (AA 2) (AA 5) (λ_ _=>rfl)))) AR) (AZ D0 (AZ D9 (AA 0) AR) AR)) AR) (λ_ _=>rfl))) (AN (BF (BZ (BO (AA 2) (DL (AZ CJ (AA 2) (AA 7)) (AZ CJ (AA 6) (AA 2)) (AZ CJ (AZ CJ (LJ LP (AA 2) LH (LV (LI (AA 5)))) (AA 8)) (LJ LP (AA 2) (LV (LI (AZ CJ (AA 5) AR))) LH)) (AZ CJ (AZ CJ (AA 2) (AA 7)) (AA 6)))))))))))))))
abbrev eF:Stmt:=BK 36
def K6:BJ ["cell","signs","many","step","wide"] 1 (A7 eF):=.go
def zpf:(["j","signs","cell","step","wide"]:List Str).Nodup:=by decide +kernel
def zpg(T:Txt K mg a)(F:Fun K "_law_text" "_law_text" eF f fd) :=
 F.oK P w mg base 0 (Z2 K a) K6 zn5 λ_ _ _ _ _ E hr hx=>(AK (O0 (i:=1) K6.nd rfl (zg rfl) FN) (AK (O0 (i:=1) K6.nd rfl (zg rfl) (AZ CJ (AA 1) FN)) (AK (A5 2 K6.nd (AZ CJ AR (AZ D0 (AA 0) AR))) (AK (CA (CS (CQ (GL hr.units) (AZ D0 (AZ D9 (AA 0) AR) AR) AR (CP _))) (AN (A5 2 K6.nd (AZ QC AR (AZ D0 (AZ D9 (AA 0) AR) AR)))) CZ) (AK (O0 (i:=3) K6.nd rfl (zg rfl) (AZ CJ AR (AZ D0 (AZ D9 (AA 0) AR) AR))) (AK (O0 (i:=4) K6.nd rfl (zg rfl) (AZ CJ AR (AZ D0 (AZ D9 (AA 0) AR) AR))) (AN (BF (G0 PySem.F.plainAttrs_str PySem.F.slot_str_join PySem.F.type_str_join Yp FN (AI (JP (tn:=["j"]) (cn:=["signs","cell" ,"step" ,"wide" ]) (cap:=[1,0,3,4]) K6.cp rfl (GO (GG rfl T.F6 (AI (AA 2)))) (λ_ _ _ _ _ _=>(CT 0 zpf)) (λ_ _ _ _ _ _=>GS) (λ_ _ _ _ _ _=>(BP BQ (AA 1) (AZ D0 (AZ CJ (AZ D9 (AA 2) AR) (AZ LO (AA 3) (AZ D9 (AA 0) (AA 4)))) AR) (λ_ _=>rfl))))))))))))))
abbrev eG:Stmt:=BK 37
def Dm:BJ ["cell"] 1 (A7 eG):=.go
def zph(T:Txt K mg a)(F:Fun K "_law_at" "_law_at" eG f fd) :=
 F.oK P w mg base 0 (Z3 K a) Dm zn4 λ_ _ _ _ _ E hr hx=>(AK (CA (CS (CQ (GL hr.units) (AZ D0 (AZ D9 (AA 0) AR) AR) AR (CP _))) (AN (BF (AZ QC (AZ D0 (AA 0) AR) AR))) CZ) (AN (BF (AZ QC (AZ D0 (AA 0) AR) AR))))
abbrev eI:Stmt:=BK 40
def eJ:BJ ["many","hand","places","also","k"] 4 (A7 eI):=.go
def zpi(T:Txt K mg a)(F:Fun K "_law_free" "_law_free" eI f fd) :=
 F.oK P w mg base 0 (Z6 K a) eJ zod λ_ _ _ _ _ E hr hx=>(AK (FW hx.po rfl (GO (GG rfl T.F6 (AI (AA 0)))) (CT 4 eJ.nd) (AN (CA (PW.pt (KF (CS (CQ N4 (QE (O7 (DB hr) (AA 1) (BP BQ (AA 2) (AA 4) (λ_ _=>rfl)) ⟨rfl,rfl,rfl,rfl⟩)) EN (CP _))) (LC (PW.pt (NM (HW (HN (AA 3) (λ_=>rfl))) (NL (CS (CQ (GL hr.units) (QE (O7 (DB hr) (AA 1) (BP BQ (AA 2) (AA 4) (λ_ _=>rfl)) ⟨rfl,rfl,rfl,rfl⟩)) AR (CP _))))))))) (AN (BF (AA 4))) CZ))) (AN (BF (RY TF AR))))
abbrev eK:Stmt:=BK 41
def eL:BJ ["hand","last","rows","place","value","needs"] 6 (A7 eK):=.go
def zpj(T:Txt K mg a)(F:Fun K "_law_change" "_law_change" eK f fd) :=
 F.oK P w mg base 0 (aB K a) eL zoa λ_ _ _ _ _ E hr hx=>(AK (CA (LR (LA (TJ (SH (DB hr) (AA 3) (AA 1))) (by with_unfolding_all rfl))) (AN (A5 5 eL.nd (AZ CJ (AA 5) (BZ (AI (HG (G9 (DB hr) (AA 1) (AA 3) (λ_ _=>rfl)))))))) CZ) (AK (KY (KM (DB hr) (AA 1) (AA 3) (DU FF rfl T.FM (by rfl) (AI (AA 2))) rfl)) (AK (DO (G0 PySem.F.plainAttrs_list PySem.F.slot_list_append PySem.F.type_list_append HZ (AA 2) (AI (DT (DV (AA 3) (AA 4) (W9 rfl rfl T.iQ rfl T.iP (AA 5))))))) (AK (KY (KM (DB hr) (AA 0) (AA 3) (AA 4) rfl)) (AN (BF (HG (G9 (DB hr) (AA 1) (AA 3) (λ_ _=>rfl)))))))))
abbrev eO:Stmt:=CD (BK 11) 0
def eP:BJ ["self","plank"] 2 (A7 eO):=.go
variable(Fd:CM P w K mg base (a "Plank") 1 "blocks" Cz (TR K a))
def zpk:(["block"]:List Str).Nodup:=by decide +kernel
def zpl(T:Txt K mg a)(F:Fun K "__init__" "Book.__init__" eO f fd) :=
 F.oK P w mg base 1 (aC K a) eP zls λ_ _ _ _ _ E hr hx=>(AK (F1 (FY (AA 0) (AA 1) rfl)) (AK (F1 (FY (AA 0) (BZ D7) rfl)) (AK (F1 (FY (AA 0) (JP (tn:=["block"]) (cn:=[]) (cap:=[]) eP.cp rfl (GO (GG rfl T.F6 (AI (AV (ER (AA 1) T.IJ Fd hr hx))))) (λ_ _ _ _ _ _=>(CT 0 zpk)) (λ_ _ _ _ _ _=>GS) (λ_ _ _ _ _ _=>(BZ D7))) rfl)) (AK (F1 (FY (AA 0) SK rfl)) (AN (F1 (FY (AA 0) SJ rfl)))))))
abbrev eQ:Stmt:=CD (BK 11) 5
def Dp:BJ ["self","number"] 2 (A7 eQ):=.go
variable(Ez:CM P w K mg base (a "Hold") 1 "ask_for_changes" dJ (T7 K a))
def zpm(T:Txt K mg a)(F:Fun K "needed" "Book.needed" eQ f fd) :=
 F.oK P w mg base 1 (aD K a) Dp zl1 λ_ _ _ _ _ E hr hx=>(AK (DO (AV (BB (AA 0) T.D6 Ez hr hx (AI (BZ (AI (AA 1))))))) (AN (BF (JL QD rfl T.OU (by rfl) (AI (A9 (A8 (BP BQ (A9 (A8 (AA 0) rfl)) (AA 1) (λ_ _=>rfl)) rfl)))))))
abbrev eU:Stmt:=CD (BK 11) 9
def Dq:BJ ["self","place"] 2 (A7 eU):=.go
variable(zru:CM P w K mg base (a "Plank") 1 "cells" Db (XV K a))
def zpn(T:Txt K mg a)(F:Fun K "ask_for_place" "Book.ask_for_place" eU f fd) :=
 F.oK P w mg base 1 (aE K a) Dq zlu λ_ _ _ _ _ E hr hx=>(AN (CA (PW.pt (KF (GZ (P9 (O3 HC KO AR (FZ (AA 1)) (AV (ER (A9 (A8 (AA 0) rfl)) T.IJ Fd hr hx))))) (LC (GZ (P9 (O3 HC KO AR (FZ (AA 1)) (AV (ER (A9 (A8 (AA 0) rfl)) T.IJ zru hr hx)))))))) (AN (JQ hx T.iU rfl T.iR (AI FN))) CZ))
abbrev eV:Stmt:=CD (BK 14) 1
def NB:BJ ["self","block","taken","gone","out","held","number","lack"] 3 (A7 eV):=.go
variable(zro:CM P w K mg base (a "Hold") 1 "lack_of" dO (YL K a))
def zpo(T:Txt K mg a)(F:Fun K "outcome" "Hold.outcome" eV f fd) :=
 F.oK P w mg base 1 (aQ K a) NB zl4 λ_ _ _ _ _ E hr hx=>(AK (A5 3 NB.nd (JL Yd rfl T.zr9 (by rfl) (AI (AA 2)))) (AK (A5 4 NB.nd (BZ D7)) (AK (A5 5 NB.nd (BZ D7)) (AK (FW hx.po rfl (HI (HD (BP BQ (A9 (A8 (AA 0) rfl)) (AA 1) (λ_ _=>rfl)))) (CT 6 NB.nd) (AN (CA (PW.pt (NM (LR (LA (TK (SI (DB hr) (AA 6) (A9 (A8 (AA 0) rfl)))) (by with_unfolding_all rfl))) (NL (LR (LA (TK (SI (DB hr) (AA 6) (AA 3))) (by with_unfolding_all rfl)))))) (AK (A5 7 NB.nd (AV (BB (AA 0) T.D6 zro hr hx (BU (AA 6) (AA 3))))) (AN (CA (CS (CQ N4 (AA 7) EN (CP _))) (AK (KY (KM (DB hr) (AA 3) (AA 6) F7 rfl)) (AN (DO (G0 PySem.F.plainAttrs_list PySem.F.slot_list_append PySem.F.type_list_append HZ (AA 4) (AI (AA 6)))))) (AN (DO (G0 PySem.F.plainAttrs_list PySem.F.slot_list_append PySem.F.type_list_append HZ (AA 5) (AI (DT (BU (AA 6) (AA 7)))))))))) CZ))) (AN (BF (DT (BU (AA 4) (AA 5)))))))))
abbrev eY:Stmt:=BK 22
def eZ:BJ ["thing"] 1 (A7 eY):=.go
variable(zrb:EJ P w K mg base 1 "is_sign" Cv (YS K a))
def zpp(T:Txt K mg a)(F:Fun K "is_piece" "is_piece" eY f fd) :=
 F.oK P w mg base 1 (aR K a) eZ zm0 λ_ _ _ _ _ E hr hx=>(AN (BF (XO (VU (S8 (RZ HC HC AR (DU FF rfl T.FM (by rfl) (AI (AA 0))) (WK T.zsd rfl))) (VT (DU (WZ rfl) rfl T.iO (by rfl) (AI (JP (tn:=["sign"]) (cn:=[]) (cap:=[]) eZ.cp rfl (lH (AA 0)) (λ_ _ _ _ _ _=>(CT 0 Cw)) (λ_ _ _ _ _ _=>GS) (λ_ _ _ _ _ _=>(CF (O9 zrb hr.m IT rfl (AI (AA 0)))))))))))))
abbrev fA:Stmt:=CD (BK 30) 4
def Dv:BJ ["self","block"] 2 (A7 fA):=.go
variable(Fc:CM P w K mg base (a "Plank") 1 "ask_for_block" Dd (N7 K a))
def zpq(T:Txt K mg a)(F:Fun K "read" "Plank.read" fA f fd) :=
 F.oK P w mg base 1 (aS K a) Dv zln λ_ _ _ _ _ E hr hx=>(AK (DO (AV (BB (AA 0) T.IJ Fc hr hx (AI (AA 1))))) (AN (BF (JL QD rfl T.OU (by rfl) (AI (BP BQ (A9 (A8 (AA 0) rfl)) (AA 1) (λ_ _=>rfl)))))))
abbrev fB:Stmt:=CD (BK 30) 5
def Dw:BJ ["self","block","values"] 3 (A7 fB):=.go
def zpr(T:Txt K mg a)(F:Fun K "write" "Plank.write" fB f fd) :=
 F.oK P w mg base 1 (aT K a) Dw zlo λ_ _ _ _ _ E hr hx=>(AK (DO (AV (BB (AA 0) T.IJ Fc hr hx (AI (AA 1))))) (AK (CA (CS (CQ (IX hr.units) (DU FF rfl T.FM (by rfl) (AI (AA 2))) (A9 (A8 (AA 0) rfl)) (CP _))) (AN (JQ hx T.iU rfl T.iR (AI FN))) CZ) (AK (OZ (JL XR rfl T.VQ (by rfl) (AI (AA 2))) (VX (A9 (A8 (AA 0) rfl)) (AA 1) WQ)) (AN (Kz (AA 0) AR Lb)))))
abbrev fC:Stmt:=CD (BK 32) 1
def Dx:BJ ["self","k"] 2 (A7 fC):=.go
variable(Q8:CM P w K mg base (a "Layout") 1 "place_from" Dk (MZ K a))
def zps(T:Txt K mg a)(F:Fun K "name_at" "Layout.name_at" fC f fd) :=
 F.oK P w mg base 1 (aU K a) Dx zl9 λ_ _ _ _ _ E hr hx=>(AN (BF (AV (BB (AA 0) T.B9 Q8 hr hx (BU AR (AA 1))))))
abbrev fD:Stmt:=CD (BK 32) 2
def Dy:BJ ["self","k"] 2 (A7 fD):=.go
def zpt(T:Txt K mg a)(F:Fun K "record_at" "Layout.record_at" fD f fd) :=
 F.oK P w mg base 1 (aV K a) Dy zma λ_ _ _ _ _ E hr hx=>(AN (BF (AV (BB (AA 0) T.B9 Q8 hr hx (BU (A9 (A8 (AA 0) rfl)) (AA 1))))))
abbrev fE:Stmt:=CD (BK 32) 3
def Dz:BJ ["self","k"] 2 (A7 fE):=.go
def zpu(T:Txt K mg a)(F:Fun K "piece_at" "Layout.piece_at" fE f fd) :=
 F.oK P w mg base 1 (aW K a) Dz zmb λ_ _ _ _ _ E hr hx=>(AN (BF (AV (BB (AA 0) T.B9 Q8 hr hx (BU (AZ CJ (A9 (A8 (AA 0) rfl)) (A9 (A8 (AA 0) rfl))) (AA 1))))))
abbrev fF:Stmt:=CD (BK 32) 4
def Eb:BJ ["self","k"] 2 (A7 fF):=.go
variable(iF:CM P w K mg base (a "Layout") 1 "blocks_ahead_of_marks" Dj (QK K a))
def zpv(T:Txt K mg a)(F:Fun K "record_mark" "Layout.record_mark" fF f fd) :=
 F.oK P w mg base 1 (aX K a) Eb zmc λ_ _ _ _ _ E hr hx=>(AN (BF (AV (BB (AA 0) T.B9 Q8 hr hx (BU (AV (ER (AA 0) T.B9 iF hr hx)) (AA 1))))))
abbrev fG:Stmt:=CD (BK 32) 5
def Ec:BJ ["self","k"] 2 (A7 fG):=.go
def zpw(T:Txt K mg a)(F:Fun K "piece_mark" "Layout.piece_mark" fG f fd) :=
 F.oK P w mg base 1 (aY K a) Ec zmd λ_ _ _ _ _ E hr hx=>(AN (BF (AV (BB (AA 0) T.B9 Q8 hr hx (BU (AZ CJ (AV (ER (AA 0) T.B9 iF hr hx)) (A9 (A8 (AA 0) rfl))) (AA 1))))))
abbrev fH:Stmt:=CD (BK 32) 7
def Ed:BJ ["self"] 1 (A7 fH):=.go
def zpx(T:Txt K mg a)(F:Fun K "blocks" "Layout.blocks" fH f fd) :=
 F.oK P w mg base 1 (aZ K a) Ed zmf λ_ _ _ _ _ E hr hx=>(AN (BF (AZ CJ (AZ CJ (AV (ER (AA 0) T.B9 iF hr hx)) (A9 (A8 (AA 0) rfl))) (A9 (A8 (AA 0) rfl)))))
abbrev fI:Stmt:=CD (BK 11) 3
def Eg:BJ ["self","place"] 2 (A7 fI):=.go
variable(zrn:CM P w K mg base (a "Hold") 2 "ask_for_place" Dq (YI K a))
def zpy(T:Txt K mg a)(F:Fun K "newest" "Book.newest" fI f fd) :=
 F.oK P w mg base 2 (a0 K a) Eg zlv λ_ _ _ _ _ E hr hx=>(AK (DO (AV (BB (AA 0) T.D6 zrn hr hx (AI (AA 1))))) (AN (BF (QE (O7 (DB hr) (A9 (A8 (AA 0) rfl)) (AA 1) ⟨rfl,rfl,rfl,rfl⟩)))))
abbrev fJ:Stmt:=CD (BK 14) 0
def Q3:BJ ["self","block","values","told","number"] 2 (A7 fJ):=.go
variable(iG:CM P w K mg base (a "Plank") 2 "read" Dv (QF K a))(zrr:CM P w K mg base (a "Hold") 2 "outcome" NB (YM K a))(zrp:CM P w K mg base (a "Hold") 1 "laid_over" VC (YN K a))(zrv:CM P w K mg base (a "Plank") 2 "write" Dw (XW K a))
def zpz(T:Txt K mg a)(F:Fun K "write" "Hold.write" fJ f fd) :=
 F.oK P w mg base 2 (bA K a) Q3 zl6 λ_ _ _ _ _ E hr hx=>(AK (A5 2 Q3.nd (AV (BB (A9 (A8 (AA 0) rfl)) T.IJ iG hr hx (AI (AA 1))))) (AK (A5 3 Q3.nd (AV (BB (AA 0) T.D6 zrr hr hx (BU (AA 1) SJ)))) (AK (FW hx.po rfl (HI (HD (FZ (AA 3)))) (CT 4 Q3.nd) (AN (KY (KM (DB hr) (A9 (A8 (AA 0) rfl)) (AA 4) F7 rfl)))) (AK (DO (AV (BB (A9 (A8 (AA 0) rfl)) T.IJ zrv hr hx (BU (AA 1) (AV (BB (AA 0) T.D6 zrp hr hx (BU (AA 2) (AA 1)))))))) (AN (BF (AA 3)))))))
abbrev fK:Stmt:=CD (BK 32) 8
def Eh:BJ ["self"] 1 (A7 fK):=.go
variable(iE:CM P w K mg base (a "Layout") 2 "blocks" Ed (QL K a))(zr7:P0 P w K mg base (a "Plank") 1 "Plank" dY (XU K a))
def zp0(T:Txt K mg a)(F:Fun K "plank" "Layout.plank" fK f fd) :=
 F.oK P w mg base 2 (bB K a) Eh zmh λ_ _ _ _ _ E hr hx=>(AN (BF (P8 (PD zr7 hr.m hx.passes rfl (BU (AV (ER (AA 0) T.B9 iE hr hx)) (A9 (A8 (AA 0) rfl)))))))
abbrev fM:Stmt:=BK 39
def VD:BJ ["layout","hand","name","k","value"] 3 (A7 fM):=.go
variable(MB:CM P w K mg base (a "Layout") 1 "counts" Dh (JW K a))(MC:CM P w K mg base (a "Layout") 2 "name_at" Dx (IZ K a))
def zp1(T:Txt K mg a)(F:Fun K "_law_cell_of" "_law_cell_of" fM f fd) :=
 F.oK P w mg base 2 (bC K a) VD zoe λ_ _ _ _ _ E hr hx=>(AK (FW hx.po rfl (GO (GG rfl T.F6 (AI (BP BQ (AV (ER (AA 0) T.B9 MB hr hx)) AR (λ_ _=>rfl))))) (CT 3 VD.nd) (AK (A5 4 VD.nd (QE (O7 (DB hr) (AA 1) (AV (BB (AA 0) T.B9 MC hr hx (AI (AA 3)))) ⟨rfl,rfl,rfl,rfl⟩))) (AN (CA (PW.pt (NM (CS (CQ XQ (AA 4) EN (CP _))) (NL (CS (CQ (GL hr.units) (FZ (AA 4)) (AA 2) (CP _)))))) (AN (BF (AA 3))) CZ)))) (AN (BF (RY TF AR))))
abbrev fN:Stmt:=BK 42
def OM:BJ ["layout","hand","last","rows","taken","name","number","need","names","place","needs"] 8 (A7 fN):=.go
variable(hZ:EJ P w K mg base 1 "_law_free" eJ (QT K a))(GQ:EJ P w K mg base 1 "_law_change" eL (FS K a))
def ON:(["k","layout"]:List Str).Nodup:=by decide +kernel
def zp2(T:Txt K mg a)(F:Fun K "_law_lead" "_law_lead" fN f fd) :=
 F.oK P w mg base 2 (bE K a) OM zof λ_ _ _ _ _ E hr hx=>(AK (MM (i:=8) (tn:=["k"]) (cn:=["layout"]) (cap:=[0]) OM.cp rfl OM.nd rfl rfl (GO (GG rfl T.F6 (AI (BP BQ (AV (ER (AA 0) T.B9 MB hr hx)) AR (λ_ _=>rfl))))) (λ_ _ _ _ _ _=>(CT 0 ON)) (λ_ _ _ _ _ _=>GS) (λ_ _ _ _ _ _=>(AV (GJ (AA 1) T.B9 MC hr.m IT (AI (AA 0)))))) (AK (A5 9 OM.nd (BP BQ (AA 8) (CF (CL hZ hr hx (DL (DU FF rfl T.FM (by rfl) (AI (AA 8))) (AA 1) (AA 8) F7))) (λ_ _=>rfl))) (AK (A5 10 OM.nd (BZ (AI (AA 7)))) (AK (CA (LR (LA (TJ (SH (DB hr) (AA 5) (AA 4))) (by with_unfolding_all rfl))) (AN (DO (G0 PySem.F.plainAttrs_list PySem.F.slot_list_append PySem.F.type_list_append HZ (AA 10) (AI (HG (G9 (DB hr) (AA 4) (AA 5) (λ_ _=>rfl))))))) CZ) (AN (BF (CF (CL GQ hr hx (BO (AA 1) (BO (AA 2) (DL (AA 3) (AA 9) (DT (BU (AA 5) (AA 6))) (AA 10))))))))))))
abbrev fP:Stmt:=BK 46
def VE:BJ ["hold","told","rows","start","k"] 4 (A7 fP):=.go
variable(zrq:CM P w K mg base (a "Hold") 2 "needed" Dp (YJ K a))
def zp3:(["k"]:List Str).Nodup:=by decide +kernel
def zp4(T:Txt K mg a)(F:Fun K "_law_told_right" "_law_told_right" fP f fd) :=
 F.oK P w mg base 2 (bF K a) VE zoj λ_ _ _ _ _ E hr hx=>(AK (CA (PW.pt (KF (GZ (HW (HN (DU SU rfl T.VP (by rfl) (BU (AA 1) (RK rfl T.OU (by rfl) rfl))) (λ_=>rfl)))) (LC (CS (CQ (IX hr.units) (AA 1) (JP (tn:=["k"]) (cn:=[]) (cap:=[]) VE.cp rfl (i5 rfl T.F6 (BU (AA 3) (DU FF rfl T.FM (by rfl) (AI (AA 2))))) (λ_ _ _ _ _ _=>(CT 0 zp3)) (λ_ _ _ _ _ _=>GS) (λ_ _ _ _ _ _=>(AA 0))) (CP _)))))) (AN (BF F7)) CZ) (AK (FW hx.po rfl (i5 rfl T.F6 (BU (AA 3) (DU FF rfl T.FM (by rfl) (AI (AA 2))))) (CT 4 VE.nd) (AN (CA (PW.pt (KF (HW (HN (DU SU rfl T.VP (by rfl) (BU (BP BQ (AA 1) (AZ QC (AA 4) (AA 3)) (λ_ _=>rfl)) (RK rfl T.Fq (by rfl) rfl))) (λ_=>rfl))) (LC (CS (CQ (IX hr.units) (AV (BB (AA 0) T.D6 zrq hr hx (AI (AA 4)))) (BP BQ (BP BQ (AA 2) (AA 4) (λ_ _=>rfl)) AR (λ_ _=>rfl)) (CP _)))))) (AN (BF F7)) CZ))) (AN (BF F7))))
abbrev fQ:Stmt:=BK 48
def Q4:BJ ["layout","plank","shown","block","values","k"] 3 (A7 fQ):=.go
def zp5(T:Txt K mg a)(F:Fun K "_law_shown" "_law_shown" fQ f fd) :=
 F.oK P w mg base 2 (bG K a) Q4 zon λ_ _ _ _ _ E hr hx=>(AK (FW hx.po rfl (GO (GG rfl T.F6 (AI (AV (ER (AA 0) T.B9 iE hr hx))))) (CT 3 Q4.nd) (AK (A5 4 Q4.nd (AV (BB (AA 1) T.IJ iG hr hx (AI (AA 3))))) (AN (FW hx.po rfl (GO (GG rfl T.F6 (AI (DU FF rfl T.FM (by rfl) (AI (AA 4)))))) (CT 5 Q4.nd) (AN (CA (PW.pt (KF (CS (CQ (IX hr.units) (BP BQ (AA 4) (AA 5) (λ_ _=>rfl)) (QE (O7 (DB hr) (AA 2) (DT (BU (AA 3) (AA 5))) ⟨rfl,rfl,rfl,rfl⟩)) (CP _))) (LC (HW (HN (DU SU rfl T.VP (by rfl) (BU (BP BQ (AA 4) (AA 5) (λ_ _=>rfl)) (RK rfl T.Fq (by rfl) rfl))) (λ_=>rfl)))))) (AN (BF F7)) CZ)))))) (AN (BF F7)))
abbrev fR:Stmt:=CD (BK 11) 1
def VF:BJ ["self","place","value","needs","ahead","number"] 4 (A7 fR):=.go
variable(iD:CM P w K mg base (a "Hold") 3 "newest" Eg (QN K a))(zrm:EJ P w K mg base 1 "needs_with" Cq (YH K a))(zr4:P0 P w K mg base (a "Change") 1 "Change" Cp (YG K a))
def zp6(T:Txt K mg a)(F:Fun K "change" "Book.change" fR f fd) :=
 F.oK P w mg base 3 (bH K a) VF zlx λ_ _ _ _ _ E hr hx=>(AK (A5 4 VF.nd (AV (BB (AA 0) T.D6 iD hr hx (AI (AA 1))))) (AK (DO (AV (BB (AA 0) T.D6 Ez hr hx (AI (AA 3))))) (AK (A5 5 VF.nd (DU FF rfl T.FM (by rfl) (AI (A9 (A8 (AA 0) rfl))))) (AK (DO (G0 PySem.F.plainAttrs_list PySem.F.slot_list_append PySem.F.type_list_append HZ (A9 (A8 (AA 0) rfl)) (AI (P8 (PD zr4 hr.m hx.passes rfl (DV (AA 1) (AA 2) (CF (CL zrm hr hx (BU (AA 3) (AA 4)))))))))) (AK (DO (G0 PySem.F.plainAttrs_list PySem.F.slot_list_append PySem.F.type_list_append HZ (BP BQ (A9 (A8 (AA 0) rfl)) (FZ (AA 1)) (λ_ _=>rfl)) (AI (AA 5)))) (AK (KY (KM (DB hr) (A9 (A8 (AA 0) rfl)) (AA 1) (AA 5) rfl)) (AN (BF (AA 5)))))))))
abbrev fS:Stmt:=CD (BK 11) 2
def fT:BJ ["self","place","number"] 2 (A7 fS):=.go
def zp7(T:Txt K mg a)(F:Fun K "in_hand" "Book.in_hand" fS f fd) :=
 F.oK P w mg base 3 (bI K a) fT zl0 λ_ _ _ _ _ E hr hx=>(AK (A5 2 fT.nd (AV (BB (AA 0) T.D6 iD hr hx (AI (AA 1))))) (AK (CA (CS (CQ N4 (AA 2) EN (CP _))) (AN (BF (BP BQ (AV (BB (A9 (A8 (AA 0) rfl)) T.IJ iG hr hx (AI (FZ (AA 1))))) (FZ (AA 1)) (λ_ _=>rfl)))) CZ) (AN (BF (A9 (A8 (BP BQ (A9 (A8 (AA 0) rfl)) (AA 2) (λ_ _=>rfl)) rfl))))))
abbrev fU:Stmt:=CD (BK 28) 0
def Ej:BJ ["self","layout","plank"] 3 (A7 fU):=.go
variable(zr5:P0 P w K mg base (a "Hold") 2 "Hold" eP (T6 K a))
def zp8(T:Txt K mg a)(F:Fun K "__init__" "Store.__init__" fU f fd) :=
 F.oK P w mg base 3 (bJ K a) Ej zm6 λ_ _ _ _ _ E hr hx=>(AK (F1 (FY (AA 0) (AA 1) rfl)) (AK (F1 (FY (AA 0) (P8 (PD zr5 hr.m hx.passes rfl (AI (AA 2)))) rfl)) (AN (F1 (FY (AA 0) SJ rfl)))))
abbrev fV:Stmt:=CD (BK 28) 10
def Ek:BJ ["self","block"] 2 (A7 fV):=.go
variable(zrs:CM P w K mg base (a "Hold") 3 "write" Q3 (YO K a))
def zp9(T:Txt K mg a)(F:Fun K "write" "Store.write" fV f fd) :=
 F.oK P w mg base 3 (bK K a) Ek zn9 λ_ _ _ _ _ E hr hx=>(AN (BF (AV (BB (A9 (A8 (AA 0) rfl)) T.D6 zrs hr hx (AI (AA 1))))))
abbrev fW:Stmt:=BK 43
def NC:BJ ["layout","hand","last","rows","taken","name","marks","number","mark","record"] 6 (A7 fW):=.go
variable(Q9:CM P w K mg base (a "Layout") 2 "record_mark" Eb (L4 K a))(MD:CM P w K mg base (a "Layout") 2 "record_at" Dy (JA K a))(Ex:EJ P w K mg base 3 "_law_lead" OM (QU K a))
def zqa(T:Txt K mg a)(F:Fun K "_law_make" "_law_make" fW f fd) :=
 F.oK P w mg base 3 (bL K a) NC zog λ_ _ _ _ _ E hr hx=>(AK (MM (i:=6) (tn:=["k"]) (cn:=["layout"]) (cap:=[0]) NC.cp rfl NC.nd rfl rfl (GO (GG rfl T.F6 (AI (BP BQ (AV (ER (AA 0) T.B9 MB hr hx)) AR (λ_ _=>rfl))))) (λ_ _ _ _ _ _=>(CT 0 ON)) (λ_ _ _ _ _ _=>GS) (λ_ _ _ _ _ _=>(AV (GJ (AA 1) T.B9 Q9 hr.m IT (AI (AA 0)))))) (AK (A5 7 NC.nd (CF (CL hZ hr hx (DL (DU FF rfl T.FM (by rfl) (AI (AA 6))) (AA 1) (AA 6) F7)))) (AK (A5 8 NC.nd (CF (CL GQ hr hx (BO (AA 1) (BO (AA 2) (DL (AA 3) (BP BQ (AA 6) (AA 7) (λ_ _=>rfl)) AR (BZ D7))))))) (AK (A5 9 NC.nd (CF (CL GQ hr hx (BO (AA 1) (BO (AA 2) (DL (AA 3) (AV (BB (AA 0) T.B9 MD hr hx (AI (AA 7)))) (DT (BU AR (DT D7))) (BZ (AI (AA 8))))))))) (AN (DO (CF (CL Ex hr hx (BO (AA 0) (BO (AA 1) (BO (AA 2) (BO (AA 3) (DL (AA 4) (AA 5) (AA 7) (AA 9))))))))))))))
abbrev fX:Stmt:=BK 44
def JH:BJ ["layout","hand","last","rows","taken","kind","one","other","place","number","record","count","pieces","more","led","gone","p"] 8 (A7 fX):=.go
variable(Ew:EJ P w K mg base 3 "_law_cell_of" VD (UM K a))(NE:CM P w K mg base (a "Layout") 2 "piece_mark" Ec (JV K a))
def zqb(T:Txt K mg a)(F:Fun K "_law_way" "_law_way" fX f fd) :=
 F.oK P w mg base 3 (bN K a) JH zoh λ_ _ _ _ _ E hr hx=>(AK (A5 8 JH.nd (AV (BB (AA 0) T.B9 MC hr hx (AI (CF (CL Ew hr hx (DV (AA 0) (AA 1) (AA 6)))))))) (AK (A5 9 JH.nd (BP BQ (HG (G9 (DB hr) (AA 1) (AA 8) (λ_ _=>rfl))) AR (λ_ _=>rfl))) (AK (A5 10 JH.nd (AV (BB (AA 0) T.B9 MD hr hx (AI (AA 9))))) (AK (OZ (HG (G9 (DB hr) (AA 1) (AA 10) (λ_ _=>rfl))) (TM (RS rfl (LY (LE (CT 11 JH.nd) (LY (LE (CT 12 JH.nd) (TN RQ)))))))) (AK (CA (CS (CQ (IX hr.units) (AA 5) AR (CP _))) (AK (A5 13 JH.nd (CF (CL GQ hr hx (BO (AA 1) (BO (AA 2) (DL (AA 3) (AA 10) (DT (BU (AZ CJ (AA 11) AR) (AA 12))) (BZ D7))))))) (AK (A5 14 JH.nd (CF (CL Ex hr hx (BO (AA 0) (BO (AA 1) (BO (AA 2) (BO (AA 3) (DL (AA 4) (AA 7) (AA 9) (AA 13))))))))) (AK (CA (CS (CQ (GL hr.units) (AA 5) AR (CP _))) (AK (KY (KM (DB hr) (AA 4) (AA 6) (CF (CL GQ hr hx (BO (AA 1) (BO (AA 2) (DL (AA 3) (AA 8) EN (BZ (AI (AA 14)))))))) rfl)) (AN (DO (CF (CL GQ hr hx (BO (AA 1) (BO (AA 2) (DL (AA 3) (AA 10) (DT (BU (AA 11) (AA 12))) (BZ (AI (HG (G9 (DB hr) (AA 4) (AA 6) (λ_ _=>rfl))))))))))))) CZ) (AN VV)))) CZ) (AK (KY (KM (DB hr) (AA 4) (AA 6) (CF (CL GQ hr hx (BO (AA 1) (BO (AA 2) (DL (AA 3) (AA 8) EN (BZ D7)))))) rfl)) (AK (CA (CS (CQ kS (AA 11) AR (CP _))) (AK (DO (CF (CL GQ hr hx (BO (AA 1) (BO (AA 2) (DL (AA 3) (AA 10) (DT (BU (AZ QC (AA 11) AR) (AA 12))) (BZ (AI (HG (G9 (DB hr) (AA 4) (AA 6) (λ_ _=>rfl))))))))))) (AN VV)) CZ) (AK (A5 15 JH.nd (CF (CL GQ hr hx (BO (AA 1) (BO (AA 2) (DL (AA 3) (AA 10) EN (BZ (AI (HG (G9 (DB hr) (AA 4) (AA 6) (λ_ _=>rfl))))))))))) (AK (FW hx.po rfl (HI (HD (AA 12))) (CT 16 JH.nd) (AN (DO (CF (CL GQ hr hx (BO (AA 1) (BO (AA 2) (DL (AA 3) (AV (BB (AA 0) T.B9 NE hr hx (AI (AA 16)))) AR (BZ (AI (AA 15))))))))))) (AN (DO (CF (CL GQ hr hx (BO (AA 1) (BO (AA 2) (DL (AA 3) (AV (BB (AA 0) T.B9 Q9 hr hx (AI (AA 9)))) AR (BZ (AI (AA 15)))))))))))))))))))
abbrev fY:Stmt:=BK 45
def ID:BJ ["layout","hand","last","rows","kind","one","cell","record","count","pieces","at","gone","marks","p","mark","piece"] 7 (A7 fY):=.go
variable(Ev:EJ P w K mg base 1 "_law_at" Dm (UK K a))(Ey:EJ P w K mg base 1 "_law_text" K6 (UJ K a))(Fb:CM P w K mg base (a "Layout") 2 "piece_at" Dz (QJ K a))
def zqc(T:Txt K mg a)(F:Fun K "_law_pieces" "_law_pieces" fY f fd) :=
 F.oK P w mg base 3 (bO K a) ID zoi λ_ _ _ _ _ E hr hx=>(AK (A5 7 ID.nd (AV (BB (AA 0) T.B9 MD hr hx (AI (BP BQ (HG (G9 (DB hr) (AA 1) (AV (BB (AA 0) T.B9 MC hr hx (AI (CF (CL Ew hr hx (DV (AA 0) (AA 1) (AA 5))))))) (λ_ _=>rfl))) AR (λ_ _=>rfl)))))) (AK (OZ (HG (G9 (DB hr) (AA 1) (AA 7) (λ_ _=>rfl))) (TM (RS rfl (LY (LE (CT 8 ID.nd) (LY (LE (CT 9 ID.nd) (TN RQ)))))))) (AK (CA (CS (CQ (GL hr.units) (AA 4) AR (CP _))) (AK (A5 10 ID.nd (CF (CL Ev hr hx (AI (AA 6))))) (AK (A5 11 ID.nd (CF (CL GQ hr hx (BO (AA 1) (BO (AA 2) (DL (AA 3) (AA 7) (DT (BU (AA 8) (AZ CJ (LJ LP (AA 9) LH (LV (LI (AA 10)))) (LJ LP (AA 9) (LV (LI (AZ CJ (AA 10) AR))) LH)))) (BZ D7))))))) (AK (DO (CF (CL GQ hr hx (BO (AA 1) (BO (AA 2) (DL (AA 3) (AV (BB (AA 0) T.B9 NE hr hx (AI (BP BQ (AA 9) (AA 10) (λ_ _=>rfl))))) AR (BZ (AI (AA 11))))))))) (AN VV)))) CZ) (AK (MM (i:=12) (tn:=["k"]) (cn:=["layout"]) (cap:=[0]) ID.cp rfl ID.nd rfl rfl (GO (GG rfl T.F6 (AI (BP BQ (AV (ER (AA 0) T.B9 MB hr hx)) AR (λ_ _=>rfl))))) (λ_ _ _ _ _ _=>(CT 0 ON)) (λ_ _ _ _ _ _=>GS) (λ_ _ _ _ _ _=>(AV (GJ (AA 1) T.B9 NE hr.m IT (AI (AA 0)))))) (AK (A5 13 ID.nd (CF (CL hZ hr hx (DL (DU FF rfl T.FM (by rfl) (AI (AA 12))) (AA 1) (AA 12) F7)))) (AK (A5 14 ID.nd (CF (CL GQ hr hx (BO (AA 1) (BO (AA 2) (DL (AA 3) (BP BQ (AA 12) (AA 13) (λ_ _=>rfl)) AR (BZ D7))))))) (AK (A5 15 ID.nd (CF (CL GQ hr hx (BO (AA 1) (BO (AA 2) (DL (AA 3) (AV (BB (AA 0) T.B9 Fb hr hx (AI (AA 13)))) (CF (CL Ey hr hx (AI (AA 6)))) (BZ (AI (AA 14))))))))) (AN (DO (CF (CL GQ hr hx (BO (AA 1) (BO (AA 2) (DL (AA 3) (AA 7) (DT (BU (AA 8) (AZ CJ (AA 9) (DT (AI (AA 13)))))) (BZ (AI (AA 15)))))))))))))))))
abbrev fZ:Stmt:=BK 26
def VG:BJ ["hold","places","values","k","place"] 3 (A7 fZ):=.go
variable(VN:CM P w K mg base (a "Hold") 4 "in_hand" fT (OE K a))
def zqd(T:Txt K mg a)(F:Fun K "lowest_with" "lowest_with" fZ f fd) :=
 F.oK P w mg base 4 (bP K a) VG zmm λ_ _ _ _ _ E hr hx=>(AK (FW hx.po rfl (mP (mC rfl T.Fv (AI (AA 1)))) (TM (RS rfl (LY (LE (CT 3 VG.nd) (LY (LE (CT 4 VG.nd) (TN RQ))))))) (AN (CA (CS (CQ (Yy hr.units) (AV (BB (AA 0) T.D6 VN hr hx (AI (AA 4)))) (AA 2) (by with_unfolding_all rfl))) (AN (BF (AA 3))) CZ))) (AN (JQ hx T.zsh rfl T.Fw (AI FN))))
abbrev gA:Stmt:=CD (BK 28) 16
def gB:BJ ["self"] 1 (A7 gA):=.go
def zqe:(["k","self"]:List Str).Nodup:=by decide +kernel
def zqf(T:Txt K mg a)(F:Fun K "name_cells" "Store.name_cells" gA f fd) :=
 F.oK P w mg base 4 (bQ K a) gB zm7 λ_ _ _ _ _ E hr hx=>(AN (BF (JP (tn:=["k"]) (cn:=["self"]) (cap:=[0]) gB.cp rfl (GO (GG rfl T.F6 (AI (BP BQ (AV (ER (A9 (A8 (AA 0) rfl)) T.B9 MB hr hx)) AR (λ_ _=>rfl))))) (λ_ _ _ _ _ _=>(CT 0 zqe)) (λ_ _ _ _ _ _=>GS) (λ_ _ _ _ _ _=>(AV (GJ (A9 (A8 (AA 1) rfl)) T.D6 VN hr.m IT (AI (AV (GJ (A9 (A8 (AA 1) rfl)) T.B9 MC hr.m IT (AI (AA 0)))))))))))
abbrev gC:Stmt:=CD (BK 28) 17
def El:BJ ["self","record"] 2 (A7 gC):=.go
def zqg(T:Txt K mg a)(F:Fun K "standing" "Store.standing" gC f fd) :=
 F.oK P w mg base 4 (bR K a) El znb λ_ _ _ _ _ E hr hx=>(AN (BF (AV (BB (A9 (A8 (AA 0) rfl)) T.D6 VN hr hx (AI (AV (BB (A9 (A8 (AA 0) rfl)) T.B9 MD hr hx (AI (AA 1)))))))))
abbrev gD:Stmt:=CD (BK 28) 18
def gE:BJ ["self","cell","name","record","need","needs"] 5 (A7 gD):=.go
variable(JJ:CM P w K mg base (a "Hold") 4 "change" VF (G5 K a))
def zqh(T:Txt K mg a)(F:Fun K "fill_cell" "Store.fill_cell" gD f fd) :=
 F.oK P w mg base 4 (bT K a) gE znd λ_ _ _ _ _ E hr hx=>(AK (A5 5 gE.nd (BZ (AI (AA 4)))) (AK (CA (LR (LA (TJ (SH (DB hr) (AA 2) (A9 (A8 (AA 0) rfl)))) (by with_unfolding_all rfl))) (AN (DO (G0 PySem.F.plainAttrs_list PySem.F.slot_list_append PySem.F.type_list_append HZ (AA 5) (AI (HG (G9 (DB hr) (A9 (A8 (AA 0) rfl)) (AA 2) (λ_ _=>rfl))))))) CZ) (AN (BF (AV (BB (A9 (A8 (AA 0) rfl)) T.D6 JJ hr hx (DV (AV (BB (A9 (A8 (AA 0) rfl)) T.B9 MC hr hx (AI (AA 1)))) (DT (BU (AA 2) (AA 3))) (AA 5))))))))
abbrev gF:Stmt:=BK 47
def gG:BJ ["hold","hand","last","rows","start","row"] 5 (A7 gF):=.go
def zqi(T:Txt K mg a)(F:Fun K "_law_hand_right" "_law_hand_right" gF f fd) :=
 F.oK P w mg base 4 (bU K a) gG zok λ_ _ _ _ _ E hr hx=>(AK (FW hx.po rfl (HI (HD (LJ LP (AA 3) (LV (LI (AA 4))) LH))) (CT 5 gG.nd) (AN (CA (PW.pt (KF (CS (CQ (IX hr.units) (AV (BB (AA 0) T.D6 VN hr hx (AI (FZ (AA 5))))) (HG (G9 (DB hr) (AA 1) (FZ (AA 5)) (λ_ _=>rfl))) (CP _))) (LC (CS (CQ (IX hr.units) (AV (BB (AA 0) T.D6 iD hr hx (AI (FZ (AA 5))))) (HG (G9 (DB hr) (AA 2) (FZ (AA 5)) (λ_ _=>rfl))) (CP _)))))) (AN (BF F7)) CZ))) (AN (BF F7)))
abbrev gH:Stmt:=BK 49
def K7:BJ ["layout","plank","store","rows","gone","shown","block","out","held","k","lacking","before","told"] 7 (A7 gH):=.go
variable(Fg:CM P w K mg base (a "Plank") 1 "writings" Dc (TU K a))(zr3:CM P w K mg base (a "Store") 4 "write" Ek (Y3 K a))(zri:EJ P w K mg base 3 "_law_shown" Q4 (Y5 K a))
def zqj:(["need","gone"]:List Str).Nodup:=by decide +kernel
def zqk(T:Txt K mg a)(F:Fun K "_law_written" "_law_written" gH f fd) :=
 F.oK P w mg base 4 (bW K a) K7 zoq λ_ _ _ _ _ E hr hx=>(AK (A5 7 K7.nd (BZ D7)) (AK (A5 8 K7.nd (BZ D7)) (AK (FW hx.po rfl (GO (GG rfl T.F6 (AI (DU FF rfl T.FM (by rfl) (AI (AA 3)))))) (CT 9 K7.nd) (AK (CA (CS (CQ (GL hr.units) (AA 9) (DU FF rfl T.FM (by rfl) (AI (AA 4))) (CP _))) (AN (DO (G0 PySem.F.plainAttrs_list PySem.F.slot_list_append PySem.F.type_list_append HZ (AA 4) (AI F7)))) CZ) (AN (CA (PW.pt (NM (GZ (HW (HN (BP BQ (AA 4) (AA 9) (λ_ _=>rfl)) (λ_=>rfl)))) (NL (CS (CQ (GL hr.units) (BP BQ (BP BQ (BP BQ (AA 3) (AA 9) (λ_ _=>rfl)) AR (λ_ _=>rfl)) AR (λ_ _=>rfl)) (AA 6) (CP _)))))) (AK (MM (i:=10) (tn:=["need"]) (cn:=["gone"]) (cap:=[4]) K7.cp rfl K7.nd rfl rfl (HI (HD (BP BQ (BP BQ (AA 3) (AA 9) (λ_ _=>rfl)) AR (λ_ _=>rfl)))) (λ_ _ _ _ _ _=>(CT 0 zqj)) (λ_ _ _ _ _ _=>(kK (GZ (HW (HN (BP BQ (AA 1) (AA 0) (λ_ _=>rfl)) (λ_=>rfl)))))) (λ_ _ _ _ _ _=>(AA 0))) (AN (CA (CS (CQ (GL hr.units) (AA 10) (BZ D7) (CP _))) (AK (OZ F7 (VX (AA 4) (AA 9) WQ)) (AK (DO (G0 PySem.F.plainAttrs_list PySem.F.slot_list_append PySem.F.type_list_append HZ (AA 7) (AI (AA 9)))) (AN (KY (KM (DB hr) (AA 5) (BP BQ (BP BQ (AA 3) (AA 9) (λ_ _=>rfl)) AR (λ_ _=>rfl)) (BP BQ (BP BQ (AA 3) (AA 9) (λ_ _=>rfl)) AR (λ_ _=>rfl)) rfl))))) (AN (DO (G0 PySem.F.plainAttrs_list PySem.F.slot_list_append PySem.F.type_list_append HZ (AA 8) (AI (DT (BU (AA 9) (FZ (AA 10))))))))))) CZ)))) (AK (A5 11 K7.nd (AV (ER (AA 1) T.IJ Fg hr hx))) (AK (A5 12 K7.nd (AV (BB (AA 2) T.C3 zr3 hr hx (AI (AA 6))))) (AK (CA (PW.pt (KF (GZ (HW (HN (DU SU rfl T.VP (by rfl) (BU (AA 12) (RK rfl T.VQ (by rfl) rfl))) (λ_=>rfl)))) (KF (CS (CQ (IX hr.units) (AA 12) (DT (BU (AA 7) (AA 8))) (CP _))) (LC (CS (CQ (IX hr.units) (AV (ER (AA 1) T.IJ Fg hr hx)) (AZ CJ (AA 11) AR) (CP _))))))) (AN (BF F7)) CZ) (AN (BF (CF (CL zri hr hx (DV (AA 0) (AA 1) (AA 5))))))))))))
abbrev gI:Stmt:=BK 23
def VH:BJ ["layout","hold","places"] 2 (A7 gI):=.go
variable(iC:EJ P w K mg base 5 "lowest_with" VG (OF K a))
def zql(T:Txt K mg a)(F:Fun K "free_name" "free_name" gI f fd) :=
 F.oK P w mg base 5 (bX K a) VH zmp λ_ _ _ _ _ E hr hx=>(AK (MM (i:=2) (tn:=["k"]) (cn:=["layout"]) (cap:=[0]) VH.cp rfl VH.nd rfl rfl (GO (GG rfl T.F6 (AI (BP BQ (AV (ER (AA 0) T.B9 MB hr hx)) AR (λ_ _=>rfl))))) (λ_ _ _ _ _ _=>(CT 0 ON)) (λ_ _ _ _ _ _=>GS) (λ_ _ _ _ _ _=>(AV (GJ (AA 1) T.B9 MC hr.m IT (AI (AA 0)))))) (AN (BF (CF (CL iC hr hx (DV (AA 1) (AA 2) (DT (AI EN))))))))
abbrev gJ:Stmt:=BK 24
def VI:BJ ["layout","hold","marks"] 2 (A7 gJ):=.go
def zqm(T:Txt K mg a)(F:Fun K "free_record" "free_record" gJ f fd) :=
 F.oK P w mg base 5 (bY K a) VI zmq λ_ _ _ _ _ E hr hx=>(AK (MM (i:=2) (tn:=["k"]) (cn:=["layout"]) (cap:=[0]) VI.cp rfl VI.nd rfl rfl (GO (GG rfl T.F6 (AI (BP BQ (AV (ER (AA 0) T.B9 MB hr hx)) AR (λ_ _=>rfl))))) (λ_ _ _ _ _ _=>(CT 0 ON)) (λ_ _ _ _ _ _=>GS) (λ_ _ _ _ _ _=>(AV (GJ (AA 1) T.B9 Q9 hr.m IT (AI (AA 0)))))) (AN (BF (CF (CL iC hr hx (DV (AA 1) (AA 2) (DT (BU EN AR))))))))
abbrev gK:Stmt:=BK 25
def VJ:BJ ["layout","hold","marks"] 2 (A7 gK):=.go
def zqn(T:Txt K mg a)(F:Fun K "free_piece" "free_piece" gK f fd) :=
 F.oK P w mg base 5 (bZ K a) VJ zmr λ_ _ _ _ _ E hr hx=>(AK (MM (i:=2) (tn:=["k"]) (cn:=["layout"]) (cap:=[0]) VJ.cp rfl VJ.nd rfl rfl (GO (GG rfl T.F6 (AI (BP BQ (AV (ER (AA 0) T.B9 MB hr hx)) AR (λ_ _=>rfl))))) (λ_ _ _ _ _ _=>(CT 0 ON)) (λ_ _ _ _ _ _=>GS) (λ_ _ _ _ _ _=>(AV (GJ (AA 1) T.B9 NE hr.m IT (AI (AA 0)))))) (AN (BF (CF (CL iC hr hx (DV (AA 1) (AA 2) (DT (BU EN AR))))))))
abbrev gL:Stmt:=CD (BK 28) 15
def VL:BJ ["self","name","cell","value"] 2 (A7 gL):=.go
variable(Fm:CM P w K mg base (a "Store") 5 "name_cells" gB (UB K a))
def zqo(T:Txt K mg a)(F:Fun K "cell_of" "Store.cell_of" gL f fd) :=
 F.oK P w mg base 5 (cA K a) VL zm8 λ_ _ _ _ _ E hr hx=>(AK (FW hx.po rfl (mP (mC rfl T.Fv (AI (AV (ER (AA 0) T.C3 Fm hr hx))))) (TM (RS rfl (LY (LE (CT 2 VL.nd) (LY (LE (CT 3 VL.nd) (TN RQ))))))) (AN (CA (PW.pt (NM (CS (CQ XQ (AA 3) EN (CP _))) (NL (CS (CQ (GL hr.units) (FZ (AA 3)) (AA 1) (CP _)))))) (AN (BF (AA 2))) CZ))) (AN (BF EN)))
abbrev gM:Stmt:=CD (BK 28) 20
def gO:BJ ["self","record","more","needs","value"] 4 (A7 gM):=.go
variable(OQ:CM P w K mg base (a "Store") 5 "standing" El (L7 K a))
def zqp(T:Txt K mg a)(F:Fun K "recount" "Store.recount" gM f fd) :=
 F.oK P w mg base 5 (cB K a) gO znf λ_ _ _ _ _ E hr hx=>(AK (A5 4 gO.nd (AV (BB (AA 0) T.C3 OQ hr hx (AI (AA 1))))) (AN (BF (AV (BB (A9 (A8 (AA 0) rfl)) T.D6 JJ hr hx (DV (AV (BB (A9 (A8 (AA 0) rfl)) T.B9 MD hr hx (AI (AA 1)))) (DT (BU (AZ CJ (FZ (AA 4)) (AA 2)) (FZ (AA 4)))) (AA 3)))))))
abbrev gP:Stmt:=CD (BK 28) 21
def Em:BJ ["self","record","pieces","needs"] 4 (A7 gP):=.go
def zqq(T:Txt K mg a)(F:Fun K "regroup" "Store.regroup" gP f fd) :=
 F.oK P w mg base 5 (cC K a) Em zng λ_ _ _ _ _ E hr hx=>(AN (BF (AV (BB (A9 (A8 (AA 0) rfl)) T.D6 JJ hr hx (DV (AV (BB (A9 (A8 (AA 0) rfl)) T.B9 MD hr hx (AI (AA 1)))) (DT (BU (BP BQ (AV (BB (AA 0) T.C3 OQ hr hx (AI (AA 1)))) AR (λ_ _=>rfl)) (AA 2))) (AA 3))))))
abbrev gQ:Stmt:=CD (BK 28) 22
def ND:BJ ["self","record","gone","pieces","dropped","made","mark"] 3 (A7 gQ):=.go
def zqr:(["piece","self"]:List Str).Nodup:=by decide +kernel
def zqs(T:Txt K mg a)(F:Fun K "drop_record" "Store.drop_record" gQ f fd) :=
 F.oK P w mg base 5 (cD K a) ND znk λ_ _ _ _ _ E hr hx=>(AK (A5 3 ND.nd (BP BQ (AV (BB (AA 0) T.C3 OQ hr hx (AI (AA 1)))) AR (λ_ _=>rfl))) (AK (A5 4 ND.nd (AV (BB (A9 (A8 (AA 0) rfl)) T.D6 JJ hr hx (DV (AV (BB (A9 (A8 (AA 0) rfl)) T.B9 MD hr hx (AI (AA 1)))) EN (BZ (AI (AA 2))))))) (AK (A5 5 ND.nd (BZ (AI (AA 4)))) (AK (FW hx.po rfl (HI (HD (AZ CJ (JP (tn:=["piece"]) (cn:=["self"]) (cap:=[0]) ND.cp rfl (HI (HD (AA 3))) (λ_ _ _ _ _ _=>(CT 0 zqr)) (λ_ _ _ _ _ _=>GS) (λ_ _ _ _ _ _=>(AV (GJ (A9 (A8 (AA 1) rfl)) T.B9 NE hr.m IT (AI (AA 0)))))) (BZ (AI (AV (BB (A9 (A8 (AA 0) rfl)) T.B9 Q9 hr hx (AI (AA 1))))))))) (CT 6 ND.nd) (AN (DO (G0 PySem.F.plainAttrs_list PySem.F.slot_list_append PySem.F.type_list_append HZ (AA 5) (AI (AV (BB (A9 (A8 (AA 0) rfl)) T.D6 JJ hr hx (DV (AA 6) AR (BZ (AI (AA 4))))))))))) (AN (BF (AA 5)))))))
abbrev gR:Stmt:=CD (BK 28) 13
def gS:BJ ["self","new","given"] 3 (A7 gR):=.go
variable(zq9:EJ P w K mg base 1 "is_name" dU (YT K a))(iH:CM P w K mg base (a "Store") 6 "cell_of" VL (QR K a))
def zqt:(["text"]:List Str).Nodup:=by decide +kernel
def zqu(T:Txt K mg a)(F:Fun K "ask_for_new_name" "Store.ask_for_new_name" gR f fd) :=
 F.oK P w mg base 6 (cE K a) gS zm9 λ_ _ _ _ _ E hr hx=>(AK (CA (GZ (HW (HN (DU (WZ rfl) rfl T.iO (by rfl) (AI (JP (tn:=["text"]) (cn:=[]) (cap:=[]) gS.cp rfl (HI (HD (AA 2))) (λ_ _ _ _ _ _=>(CT 0 zqt)) (λ_ _ _ _ _ _=>GS) (λ_ _ _ _ _ _=>(CF (O9 zq9 hr.m IT rfl (AI (AA 0)))))))) (λ_=>rfl)))) (AN (JQ hx T.Fy rfl T.iS (AI FN))) CZ) (AN (CA (CS (CQ XQ (AV (BB (AA 0) T.C3 iH hr hx (AI (AA 1)))) EN (CP _))) (AN (JQ hx T.zsi rfl T.Fx (AI FN))) CZ)))
abbrev gT:Stmt:=CD (BK 28) 14
def gU:BJ ["self","name","cell"] 2 (A7 gT):=.go
def zqv(T:Txt K mg a)(F:Fun K "record_of" "Store.record_of" gT f fd) :=
 F.oK P w mg base 6 (cF K a) gU znc λ_ _ _ _ _ E hr hx=>(AK (A5 2 gU.nd (AV (BB (AA 0) T.C3 iH hr hx (AI (AA 1))))) (AK (CA (CS (CQ N4 (AA 2) EN (CP _))) (AN (JQ hx T.Fy rfl T.iS (AI FN))) CZ) (AN (BF (BP BQ (BP BQ (AV (ER (AA 0) T.C3 Fm hr hx)) (AA 2) (λ_ _=>rfl)) AR (λ_ _=>rfl))))))
abbrev gW:Stmt:=CD (BK 28) 19
def gX:BJ ["self","name","needs","gone"] 3 (A7 gW):=.go
def zqw(T:Txt K mg a)(F:Fun K "empty_cell" "Store.empty_cell" gW f fd) :=
 F.oK P w mg base 6 (cG K a) gX zni λ_ _ _ _ _ E hr hx=>(AK (A5 3 gX.nd (AV (BB (A9 (A8 (AA 0) rfl)) T.D6 JJ hr hx (DV (AV (BB (A9 (A8 (AA 0) rfl)) T.B9 MC hr hx (AI (AV (BB (AA 0) T.C3 iH hr hx (AI (AA 1))))))) EN (AA 2))))) (AK (KY (KM (DB hr) (A9 (A8 (AA 0) rfl)) (AA 1) (AA 3) rfl)) (AN (BF (AA 3)))))
abbrev gY:Stmt:=CD (BK 28) 1
def OO:BJ ["self","name","record","cell","mark","stands"] 2 (A7 gY):=.go
variable(Fh:CM P w K mg base (a "Store") 7 "ask_for_new_name" gS (UC K a))(zq8:EJ P w K mg base 6 "free_record" VI (YQ K a))(Ep:EJ P w K mg base 6 "free_name" VH (UA K a))(Fk:CM P w K mg base (a "Store") 5 "fill_cell" gE (UE K a))
def zqx(T:Txt K mg a)(F:Fun K "make" "Store.make" gY f fd) :=
 F.oK P w mg base 7 (cH K a) OO znl λ_ _ _ _ _ E hr hx=>(AK (DO (AV (BB (AA 0) T.C3 Fh hr hx (BU (AA 1) (BZ (AI (AA 1))))))) (AK (A5 2 OO.nd (CF (CL zq8 hr hx (BU (A9 (A8 (AA 0) rfl)) (A9 (A8 (AA 0) rfl)))))) (AK (A5 3 OO.nd (CF (CL Ep hr hx (BU (A9 (A8 (AA 0) rfl)) (A9 (A8 (AA 0) rfl)))))) (AK (A5 4 OO.nd (AV (BB (A9 (A8 (AA 0) rfl)) T.D6 JJ hr hx (DV (AV (BB (A9 (A8 (AA 0) rfl)) T.B9 Q9 hr hx (AI (AA 2)))) AR (BZ D7))))) (AK (A5 5 OO.nd (AV (BB (A9 (A8 (AA 0) rfl)) T.D6 JJ hr hx (DV (AV (BB (A9 (A8 (AA 0) rfl)) T.B9 MD hr hx (AI (AA 2)))) (DT (BU AR (DT D7))) (BZ (AI (AA 4))))))) (AN (BF (BZ (DV (AA 4) (AA 5) (AV (BB (AA 0) T.C3 Fk hr hx (DL (AA 3) (AA 1) (AA 2) (AA 5)))))))))))))
abbrev gZ:Stmt:=CD (BK 28) 2
def Q5:BJ ["self","old","new","record","cell","more"] 3 (A7 gZ):=.go
variable(RA:CM P w K mg base (a "Store") 7 "record_of" gU (M5 K a))(iI:CM P w K mg base (a "Store") 6 "recount" gO (QS K a))
def zqy(T:Txt K mg a)(F:Fun K "link" "Store.link" gZ f fd) :=
 F.oK P w mg base 7 (cI K a) Q5 znm λ_ _ _ _ _ E hr hx=>(AK (DO (AV (BB (AA 0) T.C3 Fh hr hx (BU (AA 2) (BZ (BU (AA 1) (AA 2))))))) (AK (A5 3 Q5.nd (AV (BB (AA 0) T.C3 RA hr hx (AI (AA 1))))) (AK (A5 4 Q5.nd (CF (CL Ep hr hx (BU (A9 (A8 (AA 0) rfl)) (A9 (A8 (AA 0) rfl)))))) (AK (A5 5 Q5.nd (AV (BB (AA 0) T.C3 iI hr hx (DV (AA 3) AR (BZ D7))))) (AN (BF (BZ (BU (AA 5) (AV (BB (AA 0) T.C3 Fk hr hx (DL (AA 4) (AA 2) (AA 3) (AA 5))))))))))))
abbrev hE:Stmt:=CD (BK 28) 3
def VM:BJ ["self","name","record","gone"] 2 (A7 hE):=.go
variable(Fj:CM P w K mg base (a "Store") 7 "empty_cell" gX (UG K a))(zrx:CM P w K mg base (a "Store") 6 "drop_record" ND (YX K a))
def zqz(T:Txt K mg a)(F:Fun K "cut" "Store.cut" hE f fd) :=
 F.oK P w mg base 7 (cJ K a) VM zno λ_ _ _ _ _ E hr hx=>(AK (A5 2 VM.nd (AV (BB (AA 0) T.C3 RA hr hx (AI (AA 1))))) (AK (A5 3 VM.nd (AV (BB (AA 0) T.C3 Fj hr hx (BU (AA 1) (BZ D7))))) (AK (CA (CS (CQ kS (BP BQ (AV (BB (AA 0) T.C3 OQ hr hx (AI (AA 2)))) AR (λ_ _=>rfl)) AR (CP _))) (AN (BF (BZ (BU (AA 3) (AV (BB (AA 0) T.C3 iI hr hx (DV (AA 2) (RY TF AR) (BZ (AI (AA 3)))))))))) CZ) (AN (BF (AZ CJ (BZ (AI (AA 3))) (AV (BB (AA 0) T.C3 zrx hr hx (BU (AA 2) (AA 3))))))))))
abbrev hG:Stmt:=CD (BK 28) 4
def OP:BJ ["self","name","text","record","piece","mark","filled"] 3 (A7 hG):=.go
variable(zra:EJ P w K mg base 2 "is_piece" eZ (YU K a))(zq7:EJ P w K mg base 6 "free_piece" VJ (YR K a))(Fp:CM P w K mg base (a "Store") 6 "regroup" Em (UF K a))
def zq0(T:Txt K mg a)(F:Fun K "put" "Store.put" hG f fd) :=
 F.oK P w mg base 7 (cK K a) OP znp λ_ _ _ _ _ E hr hx=>(AK (A5 3 OP.nd (AV (BB (AA 0) T.C3 RA hr hx (AI (AA 1))))) (AK (CA (GZ (HW (HN (CF (CL zra hr hx (AI (AA 2)))) (λ_=>rfl)))) (AN (JQ hx T.Fz rfl T.iT (AI FN))) CZ) (AK (A5 4 OP.nd (CF (CL zq7 hr hx (BU (A9 (A8 (AA 0) rfl)) (A9 (A8 (AA 0) rfl)))))) (AK (A5 5 OP.nd (AV (BB (A9 (A8 (AA 0) rfl)) T.D6 JJ hr hx (DV (AV (BB (A9 (A8 (AA 0) rfl)) T.B9 NE hr hx (AI (AA 4)))) AR (BZ D7))))) (AK (A5 6 OP.nd (AV (BB (A9 (A8 (AA 0) rfl)) T.D6 JJ hr hx (DV (AV (BB (A9 (A8 (AA 0) rfl)) T.B9 Fb hr hx (AI (AA 4)))) (AA 2) (BZ (AI (AA 5))))))) (AN (BF (BZ (DV (AA 5) (AA 6) (AV (BB (AA 0) T.C3 Fp hr hx (DV (AA 3) (AZ CJ (BP BQ (AV (BB (AA 0) T.C3 OQ hr hx (AI (AA 3)))) AR (λ_ _=>rfl)) (DT (AI (AA 4)))) (BZ (AI (AA 6)))))))))))))))
abbrev hR:Stmt:=CD (BK 28) 5
def Q6:BJ ["self","name","at","record","pieces","without"] 3 (A7 hR):=.go
def zq1(T:Txt K mg a)(F:Fun K "take" "Store.take" hR f fd) :=
 F.oK P w mg base 7 (cM K a) Q6 znq λ_ _ _ _ _ E hr hx=>(AK (A5 3 Q6.nd (AV (BB (AA 0) T.C3 RA hr hx (AI (AA 1))))) (AK (A5 4 Q6.nd (BP BQ (AV (BB (AA 0) T.C3 OQ hr hx (AI (AA 3)))) AR (λ_ _=>rfl))) (AK (CA (GZ (P9 (O3 HC KO AR (AA 2) (DU FF rfl T.FM (by rfl) (AI (AA 4)))))) (AN (JQ hx T.Fz rfl T.iT (AI FN))) CZ) (AK (A5 5 Q6.nd (AV (BB (AA 0) T.C3 Fp hr hx (DV (AA 3) (AZ CJ (LJ LP (AA 4) LH (LV (LI (AA 2)))) (LJ LP (AA 4) (LV (LI (AZ CJ (AA 2) AR))) LH)) (BZ D7))))) (AN (BF (BZ (BU (AA 5) (AV (BB (A9 (A8 (AA 0) rfl)) T.D6 JJ hr hx (DV (AV (BB (A9 (A8 (AA 0) rfl)) T.B9 NE hr hx (AI (BP BQ (AA 4) (AA 2) (λ_ _=>rfl))))) AR (BZ (AI (AA 5))))))))))))))
abbrev hU:Stmt:=CD (BK 28) 6
def Q7:BJ ["self","old","new","linked","record","gone"] 3 (A7 hU):=.go
variable(Fl:CM P w K mg base (a "Store") 8 "link" Q5 (UH K a))
def zq2(T:Txt K mg a)(F:Fun K "move" "Store.move" hU f fd) :=
 F.oK P w mg base 8 (cN K a) Q7 zns λ_ _ _ _ _ E hr hx=>(AK (A5 3 Q7.nd (AV (BB (AA 0) T.C3 Fl hr hx (BU (AA 1) (AA 2))))) (AK (A5 4 Q7.nd (AV (BB (AA 0) T.C3 RA hr hx (AI (AA 1))))) (AK (A5 5 Q7.nd (AV (BB (AA 0) T.C3 Fj hr hx (BU (AA 1) (BZ (AI (FZ (AA 3)))))))) (AN (BF (AZ CJ (AA 3) (BZ (BU (AA 5) (AV (BB (AA 0) T.C3 iI hr hx (DV (AA 4) (RY TF AR) (BZ (AI (AA 5))))))))))))))
abbrev hV:Stmt:=BK 38
def JI:BJ ["store","kind","one","other","cell","told"] 5 (A7 hV):=.go
variable(zrz:CM P w K mg base (a "Store") 8 "make" OO (YY K a))(zrw:CM P w K mg base (a "Store") 8 "cut" VM (YZ K a))(zr1:CM P w K mg base (a "Store") 8 "put" OP (Y0 K a))(zr2:CM P w K mg base (a "Store") 8 "take" Q6 (Y1 K a))(zr0:CM P w K mg base (a "Store") 9 "move" Q7 (Y2 K a))
def zq3(T:Txt K mg a)(F:Fun K "_law_done" "_law_done" hV f fd) :=
 F.oK P w mg base 9 (cQ K a) JI zn6 λ_ _ _ _ _ E hr hx=>(AK (A5 5 JI.nd EN) (AK (Qg rfl rfl rfl rfl (λE1 _ _ hx1=>(AN (CA (CS (CQ KO (AA 1) AR (CP _))) (AN (A5 5 JI.nd (AV (GJ (AA 0) T.C3 zrz hr.m hx1.passes (AI (AA 2)))))) (AN (CA (CS (CQ (GL hr.units) (AA 1) AR (CP _))) (AN (A5 5 JI.nd (AV (GJ (AA 0) T.C3 Fl hr.m hx1.passes (BU (AA 2) (AA 3)))))) (AN (CA (CS (CQ (GL hr.units) (AA 1) AR (CP _))) (AN (A5 5 JI.nd (AV (GJ (AA 0) T.C3 zrw hr.m hx1.passes (AI (AA 2)))))) (AN (CA (CS (CQ KO (AA 1) AR (CP _))) (AN (A5 5 JI.nd (AV (GJ (AA 0) T.C3 zr1 hr.m hx1.passes (BU (AA 2) (CF (O9 Ey hr.m hx1.passes rfl (AI (AA 4))))))))) (AN (CA (CS (CQ (GL hr.units) (AA 1) AR (CP _))) (AN (A5 5 JI.nd (AV (GJ (AA 0) T.C3 zr2 hr.m hx1.passes (BU (AA 2) (CF (O9 Ev hr.m hx1.passes rfl (AI (AA 4))))))))) (AN (A5 5 JI.nd (AV (GJ (AA 0) T.C3 zr0 hr.m hx1.passes (BU (AA 2) (AA 3))))))))))))))))) (kR (mG rfl T.iS rfl T.Fx) (λ_=>(AN (A5 5 JI.nd EN))) (kR (mG rfl T.iT rfl T.Fw) (λ_=>(AN (A5 5 JI.nd EN))) Qb))) (AN (BF (AA 5)))))
abbrev hW:Stmt:=BK 50
def FE:BJ ["script","cell","layout","plank","store","names","hand","last","taken","hold","rows","gone","shown","held","kind","one","other","told","start","right"] 1 (A7 hW):=.go
variable(zrc:EJ P w K mg base 1 "_law_cell_at" Dl (QM K a))(zr6:P0 P w K mg base (a "Layout") 1 "Layout" Dg (YC K a))(zrt:CM P w K mg base (a "Layout") 3 "plank" Eh (YD K a))(zr8:P0 P w K mg base (a "Store") 4 "Store" Ej (YV K a))(zrg:EJ P w K mg base 1 "_law_names" IC (Y4 K a))(zry:CM P w K mg base (a "Store") 1 "hold" Cy (YW K a))(zrl:EJ P w K mg base 5 "_law_written" K7 (QW K a))(zrd:EJ P w K mg base 10 "_law_done" JI (UL K a))(zrf:EJ P w K mg base 4 "_law_make" NC (UN K a))(zrk:EJ P w K mg base 4 "_law_way" JH (UO K a))(zrh:EJ P w K mg base 4 "_law_pieces" ID (UP K a))(zrj:EJ P w K mg base 3 "_law_told_right" VE (UQ K a))(zre:EJ P w K mg base 5 "_law_hand_right" gG (UR K a))
def zq4:(["pair"]:List Str).Nodup:=by decide +kernel
def zq5(T:Txt K mg a)(F:Fun K "law" "law" hW f fd) :=
 F.oK P w mg base 10 (cS K a) FE zou λ_ _ _ _ _ E hr hx=>(AK (A5 1 FE.nd (CF (CL zrc hr hx (BU (AA 0) AR)))) (AK (A5 2 FE.nd (P8 (PD zr6 hr.m hx.passes rfl (DL (AZ CJ AR (AZ D0 (AA 1) AR)) (AZ CJ AR (AZ D0 (AZ D9 (AA 1) AR) AR)) (AZ CJ AR (AZ D0 (AZ D9 (AA 1) AR) AR)) (AZ CJ AR (AZ D0 (AZ D9 (AA 1) AR) AR)))))) (AK (A5 3 FE.nd (AV (ER (AA 2) T.B9 zrt hr hx))) (AK (A5 4 FE.nd (P8 (PD zr8 hr.m hx.passes rfl (BU (AA 2) (AA 3))))) (AK (A5 5 FE.nd (CF (CL zrg hr hx (AI (AZ D9 (AA 1) AR))))) (AK (A5 6 FE.nd SK) (AK (A5 7 FE.nd SK) (AK (A5 8 FE.nd SJ) (AK (A5 9 FE.nd (AV (ER (AA 4) T.C3 zry hr hx))) (AK (A5 10 FE.nd (BZ D7)) (AK (A5 11 FE.nd (BZ D7)) (AK (A5 12 FE.nd SK) (AK (A5 13 FE.nd (BZ D7)) (AK (FW hx.po rfl (HI (HD (LJ LP (AA 0) (LV (LI AR)) LH))) (CT 1 FE.nd) (AK (A5 14 FE.nd (AZ D0 (AA 1) AR)) (AK (Hl (i:=15) (j:=16) rfl FE.nd rfl rfl (by decide) rfl rfl (BU (BP BQ (AA 5) (AZ D0 (AZ D9 (AA 1) AR) AR) (λ_ _=>rfl)) (BP BQ (AA 5) (AZ D0 (AZ D9 (AA 1) AR) AR) (λ_ _=>rfl))) (by rfl)) (AK (CA (CS (CQ (GL hr.units) (AA 14) AR (CP _))) (AK (CA (GZ (HW (HN (CF (CL zrl hr hx (BO (AA 2) (BO (AA 3) (BO (AA 4) (DL (AA 10) (AA 11) (AA 12) (AZ D0 (AZ D9 (AA 1) AR) (AV (ER (AA 2) T.B9 iE hr hx))))))))) (λ_=>rfl)))) (AN (BF F7)) CZ) (AN iX)) CZ) (AK (A5 17 FE.nd (CF (CL zrd hr hx (BO (AA 4) (DL (AA 14) (AA 15) (AA 16) (AZ D9 (AA 1) AR)))))) (AK (CA (CS (CQ N4 (AA 17) EN (CP _))) (AN iX) CZ) (AK (A5 18 FE.nd (DU FF rfl T.FM (by rfl) (AI (AA 10)))) (AK (CA (CS (CQ KO (AA 14) AR (CP _))) (AN (DO (CF (CL zrf hr hx (BO (AA 2) (BO (AA 6) (DL (AA 7) (AA 10) (AA 8) (AA 15)))))))) (AN (CA (CS (CQ (lZ hr.units) (AA 14) (DT (DV AR AR AR)) (by with_unfolding_all rfl))) (AN (DO (CF (CL zrk hr hx (BO (AA 2) (BO (AA 6) (BO (AA 7) (BO (AA 10) (DL (AA 8) (AA 14) (AA 15) (AA 16)))))))))) (AN (DO (CF (CL zrh hr hx (BO (AA 2) (BO (AA 6) (BO (AA 7) (DL (AA 10) (AA 14) (AA 15) (AZ D9 (AA 1) AR)))))))))))) (AK (A5 19 FE.nd (CF (CL zrj hr hx (DL (AA 9) (AA 17) (AA 10) (AA 18))))) (AK (CA (PW.pt (KF (GZ (HW (HN (AA 19) (λ_=>rfl)))) (LC (GZ (HW (HN (CF (CL zre hr hx (BO (AA 9) (DL (AA 6) (AA 7) (AA 10) (AA 18))))) (λ_=>rfl))))))) (AN (BF F7)) CZ) (AN (CA (CS (CQ (GL hr.units) (AZ D0 (AZ D9 (AA 1) AR) AR) AR (CP _))) (AN (DO (G0 PySem.F.plainAttrs_list PySem.F.slot_list_append PySem.F.type_list_append HZ (AA 13) (AI (DT (BU (AA 17) (JL QD rfl T.OU (by rfl) (AI (AA 17))))))))) (AN (DO (Nd PySem.F.plainAttrs_list PySem.F.slot_list_clear PySem.F.type_list_clear Nj (AA 17)))))))))))))))) (AN (BF (jC (GL hr.units) (JP (tn:=["pair"]) (cn:=[]) (cap:=[]) FE.cp rfl (HI (HD (AA 13))) (λ_ _ _ _ _ _=>(CT 0 zq4)) (λ_ _ _ _ _ _=>(kK (CS (CQ (IX hr.units) (FZ (AA 0)) (FZ (AA 0)) (CP _))))) (λ_ _ _ _ _ _=>(AA 0))) (BZ D7) (CP _))))))))))))))))))
end
end L2
namespace L2
def zq6(q3g q3h q3i q3j q3k q3l q3m q3n q3o q3p q3q:Addr):∃ a:Ad,a "NoBlock"=q3g/\a "NoChange"=q3h/\a "NoRoom"=q3i/\a "NoName"=q3j/\a "Twice"=q3k/\a "NoPiece"=q3l/\a "Change"=q3m/\a "Hold"=q3n/\a "Store"=q3o/\a "Plank"=q3p/\a "Layout"=q3q :=
 ⟨λs=>if s="NoBlock" then q3g else if s="NoChange" then q3h else if s="NoRoom" then q3i else if s="NoName" then q3j else if s="Twice" then q3k else if s="NoPiece" then q3l else if s="Change" then q3m else if s="Hold" then q3n else if s="Store" then q3o else if s="Plank" then q3p else if s="Layout" then q3q else 0,by simp⟩
def hX(K:η):Sp:=λvs H Q _=>∃ (s:Addr) (ns:List Int),vs=[.ref s]/\SqL K H s (ns.map V.int)/\ns.length<=63/\∀ H',Q (.bl true) H'
def all_mk{l:Ir}{w:World}{K:η}{h:Heap}{mg:Str->Option Value}{fa:Addr}{q3g q3h q3i q3j q3k q3l q3m q3n q3o q3p q3q:Addr}{tk_MOST_LETTERS:Tok}{tk_MOST_PIECE_SIGNS:Tok}{tk_PERCENT:Tok}(X:K.In h)(G:h.Ns az mg)(hfa:mg "law"=some (.ref fa))
  (q0:GX K q3g "NoBlock")
  (q1:GX K q3h "NoChange")
  (q2:GX K q3i "NoRoom")
  (q3:GX K q3j "NoName")
  (q4:GX K q3k "Twice")
  (q5:GX K q3l "NoPiece")
  (q6:GC K q3m "Change")
  (q7:GC K q3n "Hold")
  (q8:GC K q3o "Store")
  (q9:GC K q3p "Plank")
  (qa:GC K q3q "Layout")
  (qb:jv K az "MOST_LETTERS"=some (some (.int 8 tk_MOST_LETTERS)))
  (qc:jv K az "MOST_PIECE_SIGNS"=some (some (.int 40 tk_MOST_PIECE_SIGNS)))
  (qd:jv K az "PERCENT"=some (some (.int 37 tk_PERCENT)))
  (qe:jv K az "all"=some none)
  (qf:jv K az "bool"=some none)
  (qg:jv K az "dict"=some none)
  (qh:jv K az "enumerate"=some none)
  (qi:jv K az "isinstance"=some none)
  (qj:jv K az "len"=some none)
  (qk:jv K az "list"=some none)
  (ql:jv K az "ord"=some none)
  (qm:jv K az "range"=some none)
  (qn:jv K az "set"=some none)
  (qo:jv K az "sorted"=some none)
  (qp:jv K az "tuple"=some none)
  (qq:GF K "law" hW)
  (qr:GM K q3p "blocks" "Plank.blocks" dZ)
  (qs:GM K q3n "ask_for_changes" "Book.ask_for_changes" dH)
  (qt:GM K q3p "cells" "Plank.cells" d0)
  (qu:GM K q3n "lack_of" "Hold.lack_of" dN)
  (qv:GF K "is_sign" dQ)
  (qw:GM K q3p "ask_for_block" "Plank.ask_for_block" d7)
  (qx:GM K q3q "place_from" "Layout.place_from" eB)
  (qy:GM K q3q "blocks_ahead_of_marks" "Layout.blocks_ahead_of_marks" eA)
  (qz:GM K q3n "ask_for_place" "Book.ask_for_place" eU)
  (q10:GM K q3p "read" "Plank.read" fA)
  (q11:GM K q3n "outcome" "Hold.outcome" eV)
  (q12:GM K q3n "laid_over" "Hold.laid_over" dP)
  (q13:GM K q3p "write" "Plank.write" fB)
  (q14:GM K q3q "blocks" "Layout.blocks" fH)
  (q15:GN K q3p "Plank" "Plank.__init__" dX)
  (q16:GM K q3q "counts" "Layout.counts" d9)
  (q17:GM K q3q "name_at" "Layout.name_at" fC)
  (q18:GF K "_law_free" eI)
  (q19:GF K "_law_change" eK)
  (q1a:GM K q3n "needed" "Book.needed" eQ)
  (q1b:GM K q3n "newest" "Book.newest" fI)
  (q1c:GF K "needs_with" dM)
  (q1d:GN K q3m "Change" "Change.__init__" dG)
  (q1e:GN K q3n "Hold" "Book.__init__" eO)
  (q1f:GM K q3n "write" "Hold.write" fJ)
  (q1g:GM K q3q "record_mark" "Layout.record_mark" fF)
  (q1h:GM K q3q "record_at" "Layout.record_at" fD)
  (q1i:GF K "_law_lead" fN)
  (q1j:GF K "_law_cell_of" fM)
  (q1k:GM K q3q "piece_mark" "Layout.piece_mark" fG)
  (q1l:GF K "_law_at" eG)
  (q1m:GF K "_law_text" eF)
  (q1n:GM K q3q "piece_at" "Layout.piece_at" fE)
  (q1o:GM K q3n "in_hand" "Book.in_hand" fS)
  (q1p:GM K q3n "change" "Book.change" fR)
  (q1q:GM K q3p "writings" "Plank.writings" d6)
  (q1r:GM K q3o "write" "Store.write" fV)
  (q1s:GF K "_law_shown" fQ)
  (q1t:GF K "lowest_with" fZ)
  (q1u:GM K q3o "name_cells" "Store.name_cells" gA)
  (q1v:GM K q3o "standing" "Store.standing" gC)
  (q1w:GF K "is_name" dR)
  (q1x:GM K q3o "cell_of" "Store.cell_of" gL)
  (q1y:GM K q3o "ask_for_new_name" "Store.ask_for_new_name" gR)
  (q1z:GF K "free_record" gJ)
  (q20:GF K "free_name" gI)
  (q21:GM K q3o "fill_cell" "Store.fill_cell" gD)
  (q22:GM K q3o "record_of" "Store.record_of" gT)
  (q23:GM K q3o "recount" "Store.recount" gM)
  (q24:GM K q3o "empty_cell" "Store.empty_cell" gW)
  (q25:GM K q3o "drop_record" "Store.drop_record" gQ)
  (q26:GF K "is_piece" eY)
  (q27:GF K "free_piece" gK)
  (q28:GM K q3o "regroup" "Store.regroup" gP)
  (q29:GM K q3o "link" "Store.link" gZ)
  (q2a:GM K q3o "make" "Store.make" gY)
  (q2b:GM K q3o "cut" "Store.cut" hE)
  (q2c:GM K q3o "put" "Store.put" hG)
  (q2d:GM K q3o "take" "Store.take" hR)
  (q2e:GM K q3o "move" "Store.move" hU)
  (q2f:GF K "_law_cell_at" eC)
  (q2g:GN K q3q "Layout" "Layout.__init__" d8)
  (q2h:GM K q3q "plank" "Layout.plank" fK)
  (q2i:GN K q3o "Store" "Store.__init__" fU)
  (q2j:GF K "_law_names" eE)
  (q2k:GM K q3o "hold" "Store.hold" dW)
  (q2l:GF K "_law_written" gH)
  (q2m:GF K "_law_done" hV)
  (q2n:GF K "_law_make" fW)
  (q2o:GF K "_law_way" fX)
  (q2p:GF K "_law_pieces" fY)
  (q2q:GF K "_law_told_right" fP)
  (q2r:GF K "_law_hand_right" gF)
  (q2s:b_ K (.ref q3p) "contents"=some none)
  (q2t:b_ K (.ref q3p) "width"=some none)
  (q2u:b_ K (.ref q3p) "written"=some none)
  (q2v:b_ K (.ref q3n) "ground"=some none)
  (q2w:b_ K (.ref q3n) "made"=some none)
  (q2x:b_ K (.ref q3n) "made_in"=some none)
  (q2y:b_ K (.ref q3n) "latest"=some none)
  (q2z:b_ K (.ref q3n) "outs"=some none)
  (q30:b_ K (.ref q3m) "place"=some none)
  (q31:b_ K (.ref q3m) "value"=some none)
  (q32:b_ K (.ref q3m) "needs"=some none)
  (q33:b_ K (.ref q3q) "name_blocks"=some none)
  (q34:b_ K (.ref q3q) "record_blocks"=some none)
  (q35:b_ K (.ref q3q) "piece_blocks"=some none)
  (q36:b_ K (.ref q3q) "width"=some none)
  (q37:b_ K (.ref q3o) "plan"=some none)
  (q38:b_ K (.ref q3o) "book"=some none)
  (q39:b_ K (.ref q3o) "taken_out"=some none)
  (q3a:ij K (.ref q3j) [.ref q3j,.ref q3k]=some true)
  (q3b:ij K (.ref q3k) [.ref q3j,.ref q3k]=some true)
  (q3c:ij K (.ref q3l) [.ref q3j,.ref q3k]=some false)
  (q3d:ij K (.ref q3l) [.ref q3l,.ref q3i]=some true)
  (q3e:ij K (.ref q3i) [.ref q3j,.ref q3k]=some false)
  (q3f:ij K (.ref q3i) [.ref q3l,.ref q3i]=some true) :
  ∃ fd:dr,(∀ (s:ε) (v:Value),vi s fd ⟨[v],[]⟩ [("script",v)])/\∀ base:Heap,K.In base->base.Ns az mg->FnOk l.prog w K mg base (E9 l.prog w) 11 fa fd ["script"] (hX K):=by
 obtain⟨a,rfl,rfl,rfl,rfl,rfl,rfl,rfl,rfl,rfl,rfl,rfl⟩:=zq6 q3g q3h q3i q3j q3k q3l q3m q3n q3o q3p q3q
 have T:Txt K mg a:=⟨q6.c,q7.c,qa.c,q9.c,q8.c,⟨_,jo X G qb,_,rfl⟩,⟨_,jo X G qc,_,rfl⟩,jo X G q0.ac,⟨_,jo X G q0.ac,rfl⟩,⟨q0.ex⟩,jo X G q1.ac,⟨_,jo X G q1.ac,rfl⟩,⟨q1.ex⟩,jo X G q3.ac,⟨_,jo X G q3.ac,rfl⟩,⟨q3.ex⟩,jo X G q5.ac,⟨_,jo X G q5.ac,rfl⟩,⟨q5.ex⟩,jo X G q2.ac,⟨_,jo X G q2.ac,rfl⟩,⟨q2.ex⟩,⟨_,jo X G qd,_,rfl⟩,jo X G q4.ac,⟨_,jo X G q4.ac,rfl⟩,⟨q4.ex⟩,fm X G qe,fm X G qf,fm X G qg,fm X G qh,fm X G qi,fm X G qj,fm X G qk,fm X G ql,fm X G qm,fm X G qn,fm X G qo,fm X G qp⟩
 have TPk:FG K a:=⟨T.IJ,q2s,q2t,q2u⟩
 have TBk:m4 K (a "Hold") (a "Change"):=⟨T.D6,q2v,q2w,q2x,q2y,q2z,T.zsb,q30,q31,q32⟩
 have TLy:D1 K a:=⟨T.B9,q33,q34,q35,q36⟩
 have TSt:QQ K a:=⟨T.C3,q37,q38,q39⟩
 have TRm:TD K a:=⟨q3a,q3b,q3c,q3d,q3e,q3f⟩
 obtain⟨fd,hb,F⟩:=qq.law X G hfa (λ_ _ _ _ _ _ _ _=>.of_eq rfl);refine⟨fd,hb,λbase _ _=> ?_⟩
 have q4d:=q1d.cal X G (zov l.prog w base T)
 have q3s:=qs.cal (zow l.prog w base T)
 have q4c:=q1c.cal X G (zox l.prog w base T)
 have q3u:=qu.cal (zoy l.prog w base T)
 have q42:=q12.cal (zoz l.prog w base T)
 have q3v:=qv.cal X G (zo0 l.prog w base T)
 have q4w:=q1w.cal X G (zo1 l.prog w base T)
 have q5k:=q2k.cal (zo2 l.prog w base T)
 have q45:=q15.cal X G (zo4 l.prog w base T)
 have q3r:=qr.cal (zo5 l.prog w base T)
 have q3t:=qt.cal (zo6 l.prog w base T)
 have q4q:=q1q.cal (zo7 l.prog w base T)
 have q3w:=qw.cal (zo8 l.prog w base T)
 have q5g:=q2g.cal X G (zo9 l.prog w base T)
 have q46:=q16.cal (zpa l.prog w base T)
 have q3y:=qy.cal (zpb l.prog w base T)
 have q3x:=qx.cal (zpc l.prog w base T)
 have q5f:=q2f.cal X G (zpd l.prog w base T)
 have q5j:=q2j.cal X G (zpe l.prog w base T)
 have q4m:=q1m.cal X G (zpg l.prog w base T)
 have q4l:=q1l.cal X G (zph l.prog w base T)
 have q48:=q18.cal X G (zpi l.prog w base T)
 have q49:=q19.cal X G (zpj l.prog w base T)
 have q4e:=q1e.cal X G (zpl l.prog w base q3r T)
 have q4a:=q1a.cal (zpm l.prog w base q3s T)
 have q3z:=qz.cal (zpn l.prog w base q3r q3t T)
 have q41:=q11.cal (zpo l.prog w base q3u T)
 have q56:=q26.cal X G (zpp l.prog w base q3v T)
 have q40:=q10.cal (zpq l.prog w base q3w T)
 have q43:=q13.cal (zpr l.prog w base q3w T)
 have q47:=q17.cal (zps l.prog w base q3x T)
 have q4h:=q1h.cal (zpt l.prog w base q3x T)
 have q4n:=q1n.cal (zpu l.prog w base q3x T)
 have q4g:=q1g.cal (zpv l.prog w base q3x q3y T)
 have q4k:=q1k.cal (zpw l.prog w base q3x q3y T)
 have q44:=q14.cal (zpx l.prog w base q3y T)
 have q4b:=q1b.cal (zpy l.prog w base q3z T)
 have q4f:=q1f.cal (zpz l.prog w base q40 q41 q42 q43 T)
 have q5h:=q2h.cal (zp0 l.prog w base q44 q45 T)
 have q4j:=q1j.cal X G (zp1 l.prog w base q46 q47 T)
 have q4i:=q1i.cal X G (zp2 l.prog w base q46 q47 q48 q49 T) (b:=λ_ _ _ _ _ _=>mH λ_ _ _ _ _ _ _ _=>rfl)
 have q5q:=q2q.cal X G (zp4 l.prog w base q4a T)
 have q4s:=q1s.cal X G (zp5 l.prog w base q40 q44 T)
 have q4p:=q1p.cal (zp6 l.prog w base q3s q4b q4c q4d T)
 have q4o:=q1o.cal (zp7 l.prog w base q40 q4b T)
 have q5i:=q2i.cal X G (zp8 l.prog w base q4e T)
 have q4r:=q1r.cal (zp9 l.prog w base q4f T)
 have q5n:=q2n.cal X G (zqa l.prog w base q46 q48 q49 q4g q4h q4i T)
 have q5o:=q2o.cal X G (zqb l.prog w base q47 q49 q4g q4h q4i q4j q4k T) (b:=λ_ _ _ _ _ _=>mH λ_ _ _ _ _ _ _ _=>rfl)
 have q5p:=q2p.cal X G (zqc l.prog w base q46 q47 q48 q49 q4h q4j q4k q4l q4m q4n T)
 have q4t:=q1t.cal X G (zqd l.prog w base q4o T)
 have q4u:=q1u.cal (zqf l.prog w base q46 q47 q4o T)
 have q4v:=q1v.cal (zqg l.prog w base q4h q4o T)
 have q51:=q21.cal (zqh l.prog w base q47 q4p T)
 have q5r:=q2r.cal X G (zqi l.prog w base q4b q4o T)
 have q5l:=q2l.cal X G (zqk l.prog w base q4q q4r q4s T)
 have q50:=q20.cal X G (zql l.prog w base q46 q47 q4t T)
 have q4z:=q1z.cal X G (zqm l.prog w base q46 q4g q4t T)
 have q57:=q27.cal X G (zqn l.prog w base q46 q4k q4t T)
 have q4x:=q1x.cal (zqo l.prog w base q4u T)
 have q53:=q23.cal (zqp l.prog w base q4h q4p q4v T)
 have q58:=q28.cal (zqq l.prog w base q4h q4p q4v T)
 have q55:=q25.cal (zqs l.prog w base q4g q4h q4k q4p q4v T)
 have q4y:=q1y.cal (zqu l.prog w base q4w q4x T)
 have q52:=q22.cal (zqv l.prog w base q4u q4x T)
 have q54:=q24.cal (zqw l.prog w base q47 q4p q4x T)
 have q5a:=q2a.cal (zqx l.prog w base q4g q4h q4p q4y q4z q50 q51 T)
 have q59:=q29.cal (zqy l.prog w base q4y q50 q51 q52 q53 T)
 have q5b:=q2b.cal (zqz l.prog w base q4v q52 q53 q54 q55 T)
 have q5c:=q2c.cal (zq0 l.prog w base q4k q4n q4p q4v q52 q56 q57 q58 T)
 have q5d:=q2d.cal (zq1 l.prog w base q4k q4p q4v q52 q58 T)
 have q5e:=q2e.cal (zq2 l.prog w base q52 q53 q54 q59 T)
 have q5m:=q2m.cal X G (zq3 l.prog w base q4l q4m q59 q5a q5b q5c q5d q5e T);exact(zq5 l.prog w base q44 q5f q5g q5h q5i q5j q5k q5l q5m q5n q5o q5p q5q q5r T F).imp (λvs H Q E ⟨s,ns,e,hs,hn,q⟩=>⟨s,ns,e,⟨TBk,TPk,TLy,TSt⟩,TRm,hs,hn,q⟩)
def walk{l:Ir}{q:au}{loose:List Str}{XP:(Str->Option Value)->Heap->Prop}{YP:World->Heap->Prop}{d:DefRec}{K:Params->η}(hn:l.most=some 63)(hdf:d.params.defaults=[])
  (hY:∀ (w:World) (h:Heap),YP w h->(K w.params).In h)
  (F:∀ (w:World) (mg:Str->Option Value) (fa:Addr) (h:Heap),(K w.params).In h->h.Ns az mg->mg d.name=some (.ref fa) ->
   ∃ fd:dr,(∀ (s:ε) (u:Value),vi s fd ⟨[u],[]⟩ [("script",u)])/\∀ base:Heap,(K w.params).In base->base.Ns az mg->FnOk l.prog w (K w.params) mg base (E9 l.prog w) 11 fa fd ["script"] (hX (K w.params))) :
  W.WalkO q loose XP YP l.row.toRowW d [] (λf vs=>PySem.call f vs) :=
 L2.walk_of (n:=63) (k:=11) (x:="script") (CX:=λw=>E9 l.prog w) (sp:=λw=>hX (K w.params)) hn (by decide) hdf ⟨rfl,by decide,by decide⟩ hY F (λ_ _ a ns hl _ hS=>⟨a,ns,rfl,hS,hl,λ_=>rfl⟩) λ_ _ _ _ _ z=>kQ z
end L2
namespace PySem.W.Fast
def tw10761718965407535473:=()
def tw12746535202975760586:=()
def tw7608274443940769625:=()
def tw13835544743805776724:=()
def tw10357015880967958460:=()
def tw7525305151483517341:=()
def tw13064251316134646423:=()
def tw6835072221705753816:=()
def tw9684045805717242745:=()
def tw14278164503742696215:=()
def tw7220787035322373444:=()
def tw17896358689042811353:=()
def tw1180411144659238027:=()
def tw13364398324156592229:=()
def tw10824716636777133269:=()
def tw7404390870710437024:=()
def tw15616965146110234839:=()
def tw6354369877805231319:=()
def tw7842091663771611720:=()
def tw8996263186841769978:=()
def tw6659148684839994878:=()
def tw2430793136938234068:=()
def tw13755165483289225316:=()
def tw8003908461777765509:=()
def tw13191797340306930889:=()
def tw16164633768326975024:=()
def tw12430962668240594425:=()
def tw9512285648012325041:=()
def tw3449843610968966888:=()
def tw11401626816841581760:=()
def tw7247647905498629787:=()
def tw8313204733405767908:=()
def tw16032450899874099403:=()
def tw6989555680055062397:=()
def tw15261633485645628896:=()
def tw8675312719661953797:=()
def tw12950140856557749885:=()
def tw12961835126034281753:=()
def tw16541926806428443881:=()
def tw17013440270315501534:=()
def tw10878115095520122107:=()
def tw11778973162453996448:=()
def tw18323325692257732754:=()
def tw4599069572609498297:=()
def tw9629719080645760694:=()
def tw8746862026602846205:=()
def tw6482221855915257275:=()
def tw6674861557231191203:=()
def tw15961132634174102544:=()
def tw16903159522961023474:=()
def tw8799268538056174635:=()
def tw11697262134851210410:=()
def tw9217966566562993417:=()
def tw12181091005407907778:=()
def tw14882049582836394704:=()
def tw12193613178021919443:=()
def tw2897356509294109350:=()
def tw16402013172185721294:=()
def tw5229004093937833760:=()
def tw12732340721033823662:=()
def tw4317974211668578625:=()
def tw8508407091850068943:=()
def tw12506967153992971916:=()
def tw9619497495946680634:=()
def tw11355483076058499019:=()
def tw7699956810980431423:=()
def tw7998858655743103099:=()
def tw143734977941883909:=()
def tw11829194069964622225:=()
def tw1209225754421590155:=()
def tw9927665445390141714:=()
def tw8655432030158381172:=()
def tw17587416043023151280:=()
def tw5152530176345203000:=()
def tw10141808151847392770:=()
def tw1890228479536718674:=()
def tw4861359035058216119:=()
def tw7579438279713164802:=()
def tw9286053566512618345:=()
def tw15062503401056359747:=()
def tw6228850995531209177:=()
def tw7246422596398456727:=()
def tw17559955602599729369:=()
def tw17963994129661656816:=()
def tw15877093765698469561:=()
def tw16673612988601013918:=()
def tw7069010772062958565:=()
def tw487233376073816153:=()
def tw17444150904918147650:=()
def tw1678169726609780287:=()
def tw4259902628055441967:=()
def tw13639555717487578573:=()
def tw12025538734564292620:=()
def tw12384999363298021940:=()
def tw8559636732899968891:=()
def tw16528503491909583952:=()
def tw3965889154933968266:=()
def tw18445864550135830000:=()
def tw2110744079252121:=()
def tw14289954547461775776:=()
def tw17172688582316766064:=()
def tw11558492830129803137:=()
def tw14261168872879866032:=()
def tw18377350561456009910:=()
def tw5771258797997464636:=()
def tw6509220732759301484:=()
def tw15345783878825042677:=()
def tw11909890471454729992:=()
def tw15195468499464028698:=()
def tw18406253211076982278:=()
def tw9696204160240907320:=()
def tw12017433804613033908:=()
def tw11294263435179611263:=()
def tw17117352438024168107:=()
def tw7246174414986785762:=()
def tw4580928508303535902:=()
def tw3593202411995301023:=()
def tw8903848644079089692:=()
def tw2790690579123622981:=()
def tw9678376059833568084:=()
def tw16492966013536330480:=()
def tw13086284966303435301:=()
def tw471950550644513985:=()
def tw9860970027541308218:=()
def tw4360125921509668261:=()
def tw5337789390805838276:=()
def tw13982029565576272741:=()
def tw15165096966392901680:=()
def tw8780260257244470403:=()
def tw18217272355689304551:=()
def tw11010600911274596839:=()
def tw17975314966268424365:=()
def tw7389305843679992744:=()
def tw13463930026847967748:=()
def tw6894701767969962759:=()
def tw16038762373239772838:=()
def tw15887214358897302323:=()
def tw12330968644999129541:=()
def tw17122175868892050635:=()
def tw9688452703550051296:=()
def tw13654462762731691329:=()
def tw15605832524301134102:=()
def tw2868427312752755852:=()
def tw14486291377139744656:=()
def tw7062468615746847103:=()
def tw13822062401877776386:=()
def tw1520609618323268429:=()
def tw4498316419302532198:=()
def tw11274156006076531188:=()
def tw7530901914085399796:=()
def tw1550217639539830724:=()
def tw8774579868457154078:=()
def tw8476938030270954551:=()
def tw3706239656705331925:=()
def tw1011276966882100839:=()
def tw18427080336898095451:=()
def tw16780768477153950149:=()
def tw9225844925565846617:=()
def tw12410927873953764924:=()
def tw13145052757246579640:=()
def tw1987459694750348997:=()
def tw13242277390990195822:=()
def tw4517088372132453948:=()
def tw7974529956737482244:=()
def tw1706062910985006533:=()
def tw12435464950305933893:=()
def tw13155107026872107530:=()
def tw5447258698540129372:=()
def tw14307644837934035112:=()
def tw2014178120509158580:=()
def tw5971137914199438004:=()
def tw2453198750425991777:=()
def tw382980432667808292:=()
def tw9166014440172417407:=()
def tw17449367270434893408:=()
def tw1828849127101378652:=()
def tw14612279052932364813:=()
def tw4534726456957867294:=()
def tw7195047881028222233:=()
def tw15564742308795933612:=()
def tw14871308217563452608:=()
def tw14824695776607770068:=()
def tw7699882911316434434:=()
def tw6921540496510911754:=()
def tw6820604790466639701:=()
def tw14980350383860199538:=()
def tw15250281417124090169:=()
def tw9348612664017623061:=()
def tw13123986704455176460:=()
def tw8864376758831344777:=()
def tw5167518076460310511:=()
def tw1860671248692512490:=()
def tw12675864360829901516:=()
def tw15977926924804635869:=()
def tw13398379376964505636:=()
def tw12391110557917879450:=()
def tw10672883778014343493:=()
def tw18445999594936200671:=()
def tw13050443876489288941:=()
def tw3917413647425270159:=()
def tw3873536200560814251:=()
def tw4817790084371640341:=()
def tw7825572301679761944:=()
def tw13938871648664793561:=()
def tw13521599618266221775:=()
def tw1848726778448903104:=()
def tw5496640626184893551:=()
def tw10114703169920856580:=()
def tw3137638844613352579:=()
def tw3324123715959882437:=()
def tw5478139807494710719:=()
def tw16692538312505365202:=()
def tw7227726343596555614:=()
def tw9410923601567229700:=()
def tw13487952656006735185:=()
def tw6417528960603137596:=()
def tw1697799759136740095:=()
def tw9929054512065606267:=()
def tw1491910062561254708:=()
def tw5779240646800922562:=()
def tw5772727321361054360:=()
def tw5086939824902367205:=()
def tw6145685712397769454:=()
def tw17865109250588822782:=()
def tw12608249290213084147:=()
def tw6805697609192782439:=()
def tw3061043369666150083:=()
def tw4057965557194076120:=()
def tw11851238492210239413:=()
def tw1719130552167087451:=()
def tw16323275662611430250:=()
def tw13305252012465786446:=()
def tw3439802452822151939:=()
def tw10165886271286919689:=()
def tw17763791671448927632:=()
def tw17087329438843302601:=()
def tw3423652769956707260:=()
def tw8247553728456957283:=()
def tw11802321016076061100:=()
def tw17799702644462511418:=()
def tw7008571845812180388:=()
def tw13131007676651358852:=()
def tw10614572437357767649:=()
def tw6830022322461432895:=()
def tw15756838201929696766:=()
def tw2022044545991619874:=()
def tw16543744948863487454:=()
def tw538816871718306916:=()
def tw2169106915397534551:=()
def tw14766904337503541774:=()
def tw3439440309194335861:=()
def tw5442651035486609711:=()
def tw9864833468559369196:=()
def tw17134652151819076537:=()
def tw10367959360128659669:=()
def tw7057297282784981659:=()
def tw6248250402444592552:=()
def tw11755184260367183477:=()
def tw15336839396854111840:=()
def tw1781988149016136734:=()
def tw3452158776317308709:=()
def tw9165647008879456546:=()
def tw3714085967460692099:=()
def tw7984678475156680237:=()
def tw10076286424989706348:=()
end PySem.W.Fast
open PySem PySem.W PyProof.Rows
set_option Elab.async false
set_option maxRecDepth 100000 in
set_option maxHeartbeats 0 in
theorem PySem.Challenge.cw_holdback_k43_changes_told_holds : PySem.Challenge.rw_holdback_k43_changes_told.Holds := by
 w_on;o_law;k_head;(case hw=>w_witness2)
 k_fill
 refine L2.walk (l:=PySem.Challenge.rw_holdback_k43_changes_told) rfl rfl (λw h Y=>PySem.W.kIn_of Y) ?F
 case F =>
  intro w mg fa h KX G hmg
  refine' L2.all_mk KX G hmg ?q0 ?q1 ?q2 ?q3 ?q4 ?q5 ?q6 ?q7 ?q8 ?q9 ?qa ?qb ?qc ?qd ?qe ?qf ?qg ?qh ?qi ?qj ?qk ?ql ?qm ?qn ?qo ?qp ?qq ?qr ?qs ?qt ?qu ?qv ?qw ?qx ?qy ?qz ?q10 ?q11 ?q12 ?q13 ?q14 ?q15 ?q16 ?q17 ?q18 ?q19 ?q1a ?q1b ?q1c ?q1d ?q1e ?q1f ?q1g ?q1h ?q1i ?q1j ?q1k ?q1l ?q1m ?q1n ?q1o ?q1p ?q1q ?q1r ?q1s ?q1t ?q1u ?q1v ?q1w ?q1x ?q1y ?q1z ?q20 ?q21 ?q22 ?q23 ?q24 ?q25 ?q26 ?q27 ?q28 ?q29 ?q2a ?q2b ?q2c ?q2d ?q2e ?q2f ?q2g ?q2h ?q2i ?q2j ?q2k ?q2l ?q2m ?q2n ?q2o ?q2p ?q2q ?q2r ?q2s ?q2t ?q2u ?q2v ?q2w ?q2x ?q2y ?q2z ?q30 ?q31 ?q32 ?q33 ?q34 ?q35 ?q36 ?q37 ?q38 ?q39 ?q3a ?q3b ?q3c ?q3d ?q3e ?q3f
  case q6 | q7 | q8 | q9 | qa=>(apply L2.gc;(case a=>k_is);(case l=>k_is);(case c=>k_is);(case k=>k_is);(case i=>k_is))
  case q0 | q1 | q2 | q3 | q4 | q5=>(apply L2.GX.mk;(case ac=>k_is);(case ex=>k_exc))
  case qb | qc | qd | qe | qf | qg | qh | qi | qj | qk | ql | qm | qn | qo | qp | q2s | q2t | q2u | q2v | q2w | q2x | q2y | q2z | q30 | q31 | q32 | q33 | q34 | q35 | q36 | q37 | q38 | q39=>k_is
  case qq | qv | q18 | q19 | q1c | q1i | q1j | q1l | q1m | q1s | q1t | q1w | q1z | q20 | q26 | q27 | q2f | q2j | q2l | q2m | q2n | q2o | q2p | q2q | q2r=>(apply L2.gf;(case a=>k_is);(case l=>k_is);(case c=>k_is);(case k=>k_is))
  case qr | qs | qt | qu | qw | qx | qy | qz | q10 | q11 | q12 | q13 | q14 | q16 | q17 | q1a | q1b | q1f | q1g | q1h | q1k | q1n | q1o | q1p | q1q | q1r | q1u | q1v | q1x | q1y | q21 | q22 | q23 | q24 | q25 | q28 | q29 | q2a | q2b | q2c | q2d | q2e | q2h | q2k=>(apply L2.gm;(case a=>k_is);(case l=>k_is);(case c=>k_is);(case k=>k_is);(case i=>k_is))
  case q15 | q1d | q1e | q2g | q2i=>(apply L2.gn;(case a=>k_is);(case l=>k_is);(case c=>k_is);(case k=>k_is);(case i=>k_is);(case m=>k_is);(case n=>k_is);(case s=>k_is))
  case q3a | q3b | q3c | q3d | q3e | q3f=>kts_exm
