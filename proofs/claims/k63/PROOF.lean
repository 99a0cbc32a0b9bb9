import PyProof.Rows.All
import Wide.All
import OpenK.AllK
import Wide.FinOn
import Lean
import PyProof.EqAt
import PyProof.EqKinds
import PyProof.TupleCall
import PyProof.SetScanFacts
import PyProof.Rows.SetFrom
import PyProof.Rows.SortWalk
import PyProof.CollectWalk
import PyProof.DictWalks
import PySem.Challenge.RW_holdback_k63_whole_come_up_and_go_on
set_option linter.all false
set_option maxRecDepth 100000
set_option maxHeartbeats 8000000
set_option tactic.hygienic false
set_option compiler.extract_closed false
open PySem PySem.Spec PyProof.Rows
local macro_rules|`({$xs:term,*})=>`(⟨$xs,*⟩)
open _root_.Array renaming length_toList->cz,getElem?_eq_getElem->eq,getElem?_toList->gq,getElem?_eq_some_iff->ja,getElem?_eq_none->ve,all_toList->we,append_assoc->Fo,size_append->Ic,toList_push->Il,isEmpty_iff->Iv,toList_inj->Ko,all_append->Ln,toList->Pu
open _root_.Bool renaming false_ne_true->bc,and_eq_true->cb,eq_false_iff->lj,eq_iff_iff->oa,or_false->oq,or_eq_false_iff->rf,false_eq_true->uq,not_eq_true'->vd,true_or->xc,and_false->xy,or_assoc->zh,or_eq_true->At,true_and->Ff,not_eq_true->K_,false_and->Op,false_or->Ot
open _root_.Decidable renaming not_not->I_
open _root_.False renaming elim->jk
open _root_.ForInStep renaming yield->jv
open _root_.Function renaming comp->o_,comp_def->Iy
open _root_.Iff renaming rfl->Re
open _root_.Int renaming toNat_natCast->az,ofNat_lt->d_,toNat_of_nonneg->ic,natCast_nonneg->m_,natCast_mul->ud,emod_lt_of_pos->uk,zero_add->vh,emod_nonneg->wt,ofNat_le->xi,eq_ofNat_of_zero_le->zj,lt_succ->Dn,ne_of_lt->Iz,natCast_ediv->Lf,natCast_emod->Li,natCast_add->Na,not_lt->Oh,ofNat_inj->Ov,toNat->Pn,le_of_lt->Qe
open _root_.Int.ofNat renaming inj->cw
open _root_.List renaming getElem?_eq_some_iff->ε,length_map->ζ,mem_of_getElem?->η,getElem?_eq_getElem->θ,range->ο,mem_singleton->ρ,getElem?_map->τ,map_append->χ,mem_cons_of_mem->ω,length_append->ae,mem_map->af,mem_cons_self->ai,mem_range->ak,mem_append->ao,lookup_cons->aw,mem_cons->ax,size_toArray->ay,getElem?_append_left->ba,replicate->bg,mem_append_right->bh,getElem?_eq_none->bq,range_succ->bz,not_mem_nil->b_,map_cons->ca,take_length->ce,mem_append_left->cf,getElem?_append_right->ci,mem_filter->cj,length_take->de,length_cons->dv,length_range->dw,take_add_one->dz,any_eq_true->e_,map_map->ff,length_filter_le->fm,nodup_cons->fq,length_eq_zero_iff->fz,append_assoc->gg,nodup_append->gi,pairwise_map->gj,getElem?_set_self->gz,length_reverse->ie,lookup->ig,length_filterMap_le->ik,getElem?_set_ne->ir,all_eq_true->iu,flatten_cons->i_,take_of_length_le->jd,map_congr_left->jf,length_singleton->ji,mem_filterMap->jj,filter_append->jn,mem_flatMap->jo,foldl_cons->ju,getElem_of_mem->jy,append_eq_nil_iff->ka,length_drop->ke,pairwise_cons->ki,find?_eq_none->ko,count_pos_iff->kq,take_append_drop->ku,append_nil->kx,length_set->ky,length->lb,eraseIdx_eq_take_drop_succ->ma,replicate_succ->mf,nodup_nil->mj,find?_eq_some_iff_append->mz,pairwise_lt_range->nj,cons_lt_cons_iff->ph,foldl_append->py,reverse_cons->pz,Perm->rq,getElem_mem->r_,drop_eq_getElem_cons->sr,mem_or_eq_of_mem_set->ss,mem_map_of_mem->sx,filter_sublist->sy,any_cons->tf,eq_of_mem_replicate->tq,nil_append->t_,length_nil->uh,countP_append->ut,any_eq_false->uy,filter_eq_nil_iff->vj,length_replicate->vk,mem_iff_getElem?->vo,cons_append->vy,perm_middle->wa,countP_cons->wc,all_cons->wj,reverse_reverse->wo,mem_of_mem_take->wp,countP_eq_length_filter->ww,filterMap_cons->wx,map_eq_nil_iff->wz,countP_pos_iff->w_,getElem?_range->xa,map_nil->xg,getD_eq_getElem?_getD->xr,length_eraseIdx_of_lt->xt,range_add->xz,perm_ext_iff_of_nodup->x_,pairwise_iff_getElem->yd,mem_of_find?_eq_some->yg,getElem?_eq_none_iff->yh,ext_getElem?->yw,not_lt->yx,countP_congr->yy,count_append->yz,take_append_getElem->zg,getElem?_replicate->zl,range_succ_eq_map->Ae,of_mem_zip->Ar,forIn_cons->As,filter_map->Au,count_cons->A_,getElem?_toArray->Be,filterMap_append->Bn,pairwise_flatMap->Bo,nodup_iff_count->Df,length_eraseIdx->Do,drop_left->Dr,countP_eq_zero->Ei,flatten_append->En,length_take_le->Eo,map_take->E_,map_drop->Fa,sum_cons->Fe,foldl->Ft,map_replicate->F5,getElem?_drop->Ga,getElem?_take->Gf,append_of_mem->Gi,count_eq_zero->Gn,take_sublist->Ha,all_map->Ie,getElem_take->Ii,filter_congr->Iw,getElem?_set->Ix,getElem_inj->Ja,filter_cons->J_,range'_succ->Kt,mem_reverse->La,nodup_range->Lo,countP_map->Mr,countP_nil->Ms,find?_cons->Mu,find?_some->M_,sum_append->Nf,drop_zero->Om,count->On,take_left->Oo,range'->Qs,map->Qt
open _root_.List.Nodup renaming length_le_of_subset->mv
open _root_.List.Pairwise renaming imp_of_mem->l_,nil->Hr,filterMap->Po
open _root_.Nat renaming le_refl->υ,le_trans->ψ,lt_of_lt_of_le->aa,ne_of_lt->bd,le_of_eq->bt,zero_le->bu,lt_of_le_of_lt->cr,le_of_not_lt->cu,le_succ_of_le->da,mul_comm->di,add_mul->dq,lt_or_ge->fe,add_assoc->fh,lt_succ_self->fu,le_of_lt_succ->f_,ne_of_gt->g_,mul_le_mul->ii,exists_eq_add_of_le->iw,lt_succ_of_lt->jb,le_of_ble_eq_true->jg,le_succ->jq,le_of_lt->jz,lt_irrefl->kd,reduceEqDiff->kg,div_lt_of_lt_mul->li,lt_of_le_of_ne->ni,pos_of_ne_zero->nq,eq_zero_or_pos->nr,not_lt_zero->nv,le_antisymm->n_,mul_add_mod->og,mul_add_div->om,add_le_add->rg,succ_lt_succ->si,min_eq_left->ui,div_add_mod->uj,mod_lt->uo,succ_mul->va,add_comm->vb,zero_add->vg,div_lt_iff_lt_mul->vn,mul_le_mul_right->wq,sub_self->xj,zero_mul->xk,lt_succ_of_le->yj,reduceAdd->zi,succ_le_succ->zn,min_le_right->zt,lt_trans->Aa,le_of_succ_le_succ->An,add_right_cancel->Ds,ble->Go,le_add_right->Ki,min_eq_right->Ku,div_add_mod'->Le
open _root_.Nat.succ renaming inj->Qn
open _root_.Ne renaming symm->fj
open _root_.Option renaming map_eq_some_iff->au,isSome_iff_exists->fg,join_eq_some_iff->mw,map_some->ua,isNone_iff_eq_none->yf,isSome_map->yn,none->yp,bind_eq_some_iff->zo,map_map->Cs,filter->Eu,getD_none->Jr
open _root_.Option.some renaming inj->ι,injEq->yr
open _root_.Or renaming inr->Cn,inl->Ke
open _root_.PyProof.Rows renaming slot_tuple_getitem->jx,callWith_type1->pi,size_push'->qz,IntsAre->uc,AllBare->uw,step_dedup->xu,firstMet->xv,firstMet_length_le->xw,envOfC->zb,subscriptTail_builtinR->zx,entry_proto_collect'->Cu,sortedS->D_,entry_list_iadd'->Kn,Subscript_->Oe,StrsAre->Qi
open _root_.PyProof.Rows.F renaming entry_set_update_loop->sv,plain_set_update_loop->Ef
open _root_.PyProof.Rows.IntsAre renaming length->C_
open _root_.PyProof.Rows.IsTup renaming new->Pe
open _root_.PySem renaming wpAny_bind->δ,wpAny_pure->ν,Shared->π,starEach->a_,Program->bv,mainGlobals->bx,wpAny_callSpecial?_slot->df,wpAny_call_entry->dg,wpAny_newObj_type->dh,Around->dk,compareOp->dt,wpAny_holding->gb,FuncData->h_,sysModules->ia,wpAny_passesOwn->il,wpAny_truthy_bool->iy,foldedSetIterable->iz,wpAny_dictEntries->jc,binaryOp->jh,tupleKind_room_in1->jm,backTo->jp,wpAny_field->jr,wpAny_typeNameOfWhole_keyiter->js,codeAny_builtin->jw,wpAny_isInstance->kf,wpAny_setField_rec->kj,codeAny_mono->k_,wpAny_setState_of->lh,behindInMarks->lm,wpAny_attempt->lu,wpAny_typeNameOf_keyiter->lx,intKind->me,wpAny_setEntries_of->mh,rawInt->mn,wpAny_setField->mo,wpAny_askSetting->mq,keywordEach->mx,wpAny_mono->p_,sizeLine_eq->qt,call_meets->qv,wpAny_rule->qw,wpAny_fieldsOf->qy,tupleKind->rj,wpAny_comprehension_free->tj,plainId_quiet->tm,wpAny_execs_nil->t9,wpAny_specialOf->ub,wpAny_ite_false->ue,wpAny_updateSeq->uf,wpAny_dictEpoch->ug,assignEach->ul,wpAny_Call_Name_kw->um,sliceBounds->uu,holding->ux,wpAny_typeOf->u_,call_meetsIn->vc,getMethod->vx,PyData->vz,codeAny->wf,attributeBase->wg,backToKw->wm,wpAny_ite_split->wv,bootBuiltins->xb,Builtin->xf,swapsWith->xl,scanBound->xm,DictEntry->xn,entryOfKey->xo,isSubtype_stop->xx,wpAny_binaryOp_repeat_ref->yb,BindsTo->yl,storedH->ym,wpAny_Call_method->yo,wpAny_pyIter_list->yq,fits_of_scanBound->yt,wpAny_pyIter_slot->yv,wpAny_standAt->y_,pyNext->za,ExceptHandler->ze,NameKind->zk,noFill_tuple_add->zm,standAt->zu,getItem->zw,typeIs_int->z_,letOwnedTupleGo->Ao,wpAny_isTrue_Compare1->Ba,wpAny_notOrdered_dict->Bf,wpAny_isOneOf_keyiter->Bi,pyIter->Bs,callWith->B_,IsPart->Ce,subscripted->Cf,wpAny_seqItems->Co,wpAny_of_eq->Cr,wpAny_runValue->Ct,codeAny_extend_loopS->De,Keyword->Dt,ElemsOf->Du,codeAny_forLoop_any->Ea,seq_tuple_add->Es,wpAny_handled->Et,GenState->Gs,wpAny_assign_Name->Gu,concat_meets->He,seqIndex_neg->Hf,slot_list_getitem->Hi,valueAt->Ho,relayAll->Ij,wpAny_storeSet_of->Im,setNext->Io,wpAny_setEpoch_of->Ip,wpAny_pyIter_enum->Ir,wpAny_execs_cons->Je,seqIndex?->Jo,wpAny_Dict_empty->Ka,setFlight->Kf,wpAny_forIn_list->Ks,seqIndex_of->Ma,wpAny_throw->Me,callerA->Ni,builtinsNs->No,wpAny_Name->Nr,wpAny_load->Nt,wpAny_call->Oa,typeLookup->Od,typeIs_str->Of,intKind_is->Oj,PassesOwn->Oy,cellsFrom->Pa,noteFrame->Pf,pickOrder->Pi,isTrue->Ps,assign->P_,setItem->Qa
open _root_.PySem.AutoSeq1 renaming wpAny_loadPart'->zf
open _root_.PySem.Builtin.Dict renaming showsAll->vm,mergeDict->Ai
open _root_.PySem.Builtin.Frozenset renaming updateFrom->Mo
open _root_.PySem.Builtin.List renaming listTooLong->lq,listSameRef->lw,listExtendWith->pq,listLengthHint->xh
open _root_.PySem.Builtin.Range renaming rangeSize->Ox
open _root_.PySem.Builtin.Slice renaming slicePlaces->sj,sliceAdjust->ya,slicePartIndex->Mi,sliceApplied->Ob
open _root_.PySem.Builtin.SmallTypes renaming nextOf->yc
open _root_.PySem.Builtin.Tuple renaming tupleItemsOf->Oc,tupleTooMany->Og,tupleHashOf->Oq
open _root_.PySem.Calls renaming evalArgs_plain->lg,spliced_cons->na,callWith_builtin->nc,spliced_nil->uz,Name_function_global->xp,call_function_entry->ye
open _root_.PySem.CmpOp renaming NotIn->Qo
open _root_.PySem.F renaming slot_dict_keyiterator_next->io,slot_enumerate_next->pe,slot_tuple_mul->v_,args_dict_keyiterator_next_1->wb,entry_dict_keyiterator_next->wn,slot_int_rmul->wu,slot_tuple_iterator_next->xq,slot_dict_iter->zp,args_enumerate_next_1->zr,entry_enumerate_next->Af,args_list_append_2->Ci,entry_list_append->Ee,slot_list_append->Fu,args_tuple_mul_2->F_,args_int_rmul_2->Hn,slot_tuple_rmul->Hu,entry_tuple_mul->H_,slot_int_index->Jt,entry_int_rmul->Ju,fills_int_mul->Mn
open _root_.PySem.Heap renaming get?_push_of_some->ξ,get?_push_size->aj,lt_size->av,get?_update_other->ck,get?_update_self->c_,SameBut->gy,ExtBut->my,size_push->Bu
open _root_.PySem.Heap.IsSliceOf renaming new->Qu
open _root_.PySem.Heap.SameBut renaming update->eh,refl->yu
open _root_.PySem.ItemsOf renaming nil->Qr
open _root_.PySem.NameKind renaming free->gu,cell->gx
open _root_.PySem.Obj renaming mapSeq->gr,data_mapFields->ip,isFreed_of_fields->pd,data_mapDictKeys->q_,mapFields->wk,isFreed_of_dict->wy,cls_mapFields->Ht,data_mapDict->Kr,putSet->Ol
open _root_.PySem.PyData renaming strOk->cy,eqv->iq,eqvAll->tz,int->Ge,canLayAll0->Iq,depth->Qf
open _root_.PySem.SeqAt renaming in_tupleAt->Js,EqAt->Q_
open _root_.PySem.SeqAt.EqAt renaming int_str->Fi,str_int->Fn
open _root_.PySem.SetTable renaming below->kh,grown->qx,Probe->Oi,slot->Ou
open _root_.PySem.SetTable.below renaming go->Ig
open _root_.PySem.SetTable.probe renaming go->Ih
open _root_.PySem.Str renaming ofString->bw,length->Fs,empty->O_
open _root_.PySem.Value renaming ref->gk,none->ix,type->jt,isInt_shape->uv,int->vq,isInt->Lr,bool->Nn,isStrOf->Os,str->Ow
open _root_.PySem.W renaming Frag->μ,findIn->cm,exmOne->fk,mg_none_of->je,mg_of->j_,nsIn->l8,keepIn->s_,instObj->vt,emptyDict->yk,fnOf->zd,plainGet->zv,hasDictIn->Bt,codeIn->Ca,plainGet_of->Er,callWith_K->G_,makesIn->Jf,cellsFrom_some->Ji,plainOver->Lu,specialIn->L_,methodCall_KW->Mf,lookIn->Nu,isFn->N_,takerIn->Oz
open _root_.PySem.Walks renaming list->Ra
open _root_.PySem.pickOrder renaming go->Ik
open _root_.Std.Legacy.Range renaming forIn_eq_forIn_range'->Di
open _root_.Sum renaming inr->yi,inl->Gr
open _root_.Sum.inl renaming inj->Br
open _root_.Sum.inr renaming inj->Ls
open _root_.True renaming intro->qu
namespace L2
def md(y:Int)(k:Nat)(h:0<k):∃ n:Nat,1+y%(k:Int)=n/\1<=n/\n<=k:=by
 obtain⟨b,e⟩:=zj (wt y (show(k:Int)≠0 by omega))
 have:=uk y (show 0<(k:Int) by omega);exact{1+b,by omega,by omega,by omega}
section
variable{a b c k:Nat}{z:Int}
def c3(h:a<3):a=0\/a=1\/a=2:=by omega
def c5(h:a<5):a=0\/a=1\/a=2\/a=3\/a=4:=by omega
def cq{n i:Nat}(h:i<n):n-(i+1)<n-i:=Nat.sub_lt_sub_left h<|fu i
def oA(h:a<=b)(d:Go b c=true):a<=c:=ψ h<|jg d
def oB(h:a<b)(d:Go b (c+1)=true):a<=c:=f_<|aa h<|jg d
def oC(h:a<=b)(d:Go (b+1) c=true):a<c:=cr h<|jg d
def oD(h:a<b)(d:Go b c=true):a<c:=aa h<|jg d
def oG(h:a<=b)(d:Go (b+k+1) c=true):a+k<c:=cr (Nat.add_le_add_right h k) (jg d)
def oH(h:a<b)(d:Go (b+k) c=true):a+k<c:=aa (Nat.add_lt_add_right h k) (jg d)
def iM(d:decide (z<=0)=true):z<=(a:Int):=Int.le_trans (of_decide_eq_true d) (m_ a)
def i0:(0:Int)<=(a:Int):=m_ a
def nE{P:Prop}(d:Nat.beq a b=false):¬(a=b/\P):=λh=>by rw[h.1,Nat.beq_refl]at d;cases d
def nL{α :Prop}(h:a<b)(g:b<=a): α :=absurd h<|Nat.not_lt.mpr g
def nZ{α :Prop}(h:a<0): α :=absurd h<|nv a
end
def x2{p:A->B->Prop}(a b)(h:p a b):∃ a b,p a b:=⟨_,_,h⟩
def x3{p:A->B->C->Prop}(a b c)(h:p a b c):∃ a b c,p a b c:=⟨_,_,_,h⟩
def x4{p:A->B->C->D->Prop}(a b c d)(h:p a b c d):∃ a b c d,p a b c d:=⟨_,_,_,_,h⟩
def x5{p:A->B->C->D->F->Prop}(a b c d e)(h:p a b c d e):∃ a b c d e,p a b c d e:=⟨_,_,_,_,_,h⟩
def x6{p:A->B->C->D->F->G->Prop}(a b c d e f)(h:p a b c d e f):∃ a b c d e f,p a b c d e f:=⟨_,_,_,_,_,_,h⟩
def x7{p:A->B->C->D->F->G->I->Prop}(a b c d e f g)(h:p a b c d e f g):∃ a b c d e f g,p a b c d e f g:=⟨_,_,_,_,_,_,_,h⟩
def x8{p:A->B->C->D->F->G->I->J->Prop}(a b c d e f g i)(h:p a b c d e f g i):∃ a b c d e f g i,p a b c d e f g i:=⟨_,_,_,_,_,_,_,_,h⟩
def x9{p:A->B->C->D->F->G->I->J->L->Prop}(a b c d e f g i j)(h:p a b c d e f g i j):∃ a b c d e f g i j,p a b c d e f g i j:=⟨_,_,_,_,_,_,_,_,_,h⟩
def R9{p:A->B->C->D->F->G->I->J->L->M->Prop}(a b c d e f g i j l)(h:p a b c d e f g i j l):∃ a b c d e f g i j l,p a b c d e f g i j l:=⟨_,_,_,_,_,_,_,_,_,_,h⟩
def OQ{p:A->B->C->D->F->G->I->J->L->M->N->Prop}(a b c d e f g i j l m)(h:p a b c d e f g i j l m):∃ a b c d e f g i j l m,p a b c d e f g i j l m:=⟨_,_,_,_,_,_,_,_,_,_,_,h⟩
def OR{p:A->B->C->D->F->G->I->J->L->M->N->O->Prop}(a b c d e f g i j l m n)(h:p a b c d e f g i j l m n):∃ a b c d e f g i j l m n,p a b c d e f g i j l m n:=⟨_,_,_,_,_,_,_,_,_,_,_,_,h⟩
def Gv{p:A->B->C->D->F->G->I->J->L->M->N->O->P->Prop}(a b c d e f g i j l m n o)(h:p a b c d e f g i j l m n o):∃ a b c d e f g i j l m n o,p a b c d e f g i j l m n o:=⟨_,_,_,_,_,_,_,_,_,_,_,_,_,h⟩
def OS{p:A->B->C->D->F->G->I->J->L->M->N->O->P->R->Prop}(a b c d e f g i j l m n o q)(h:p a b c d e f g i j l m n o q):∃ a b c d e f g i j l m n o q,p a b c d e f g i j l m n o q:=⟨_,_,_,_,_,_,_,_,_,_,_,_,_,_,h⟩
def y2{p:A->B->Prop}(h:p a b):∃ a b,p a b:=⟨_,_,h⟩
def y3{p:A->B->C->Prop}(h:p a b c):∃ a b c,p a b c:=⟨_,_,_,h⟩
def y4{p:A->B->C->D->Prop}(h:p a b c d):∃ a b c d,p a b c d:=⟨_,_,_,_,h⟩
def y5{p:A->B->C->D->F->Prop}(h:p a b c d e):∃ a b c d e,p a b c d e:=⟨_,_,_,_,_,h⟩
def u2{p:A->B->Prop}{z:Prop}(k:∀ a b,p a b->z):(∃ a b,p a b)->z:=λh=>by obtain⟨y,y,h⟩:=h;exact k _ _ h
def u3{p:A->B->C->Prop}{z:Prop}(k:∀ a b c,p a b c->z):(∃ a b c,p a b c)->z:=λh=>by obtain⟨y,y,y,h⟩:=h;exact k _ _ _ h
def u4{p:A->B->C->D->Prop}{z:Prop}(k:∀ a b c d,p a b c d->z):(∃ a b c d,p a b c d)->z:=λh=>by obtain⟨y,y,y,y,h⟩:=h;exact k _ _ _ _ h
def u5{p:A->B->C->D->F->Prop}{z:Prop}(k:∀ a b c d e,p a b c d e->z):(∃ a b c d e,p a b c d e)->z:=λh=>by obtain⟨y,y,y,y,y,h⟩:=h;exact k _ _ _ _ _ h
def u6{p:A->B->C->D->F->G->Prop}{z:Prop}(k:∀ a b c d e f,p a b c d e f->z):(∃ a b c d e f,p a b c d e f)->z:=λh=>by obtain⟨y,y,y,y,y,y,h⟩:=h;exact k _ _ _ _ _ _ h
def u7{p:A->B->C->D->F->G->I->Prop}{z:Prop}(k:∀ a b c d e f g,p a b c d e f g->z):(∃ a b c d e f g,p a b c d e f g)->z:=λh=>by obtain⟨y,y,y,y,y,y,y,h⟩:=h;exact k _ _ _ _ _ _ _ h
def u8{p:A->B->C->D->F->G->I->J->Prop}{z:Prop}(k:∀ a b c d e f g i,p a b c d e f g i->z):(∃ a b c d e f g i,p a b c d e f g i)->z:=λh=>by obtain⟨y,y,y,y,y,y,y,y,h⟩:=h;exact k _ _ _ _ _ _ _ _ h
def u9{p:A->B->C->D->F->G->I->J->L->Prop}{z:Prop}(k:∀ a b c d e f g i j,p a b c d e f g i j->z):(∃ a b c d e f g i j,p a b c d e f g i j)->z:=λh=>by obtain⟨y,y,y,y,y,y,y,y,y,h⟩:=h;exact k _ _ _ _ _ _ _ _ _ h
def OT{p:A->B->C->D->F->G->I->J->L->M->Prop}{z:Prop}(k:∀ a b c d e f g i j l,p a b c d e f g i j l->z):(∃ a b c d e f g i j l,p a b c d e f g i j l)->z:=λh=>by obtain⟨y,y,y,y,y,y,y,y,y,y,h⟩:=h;exact k _ _ _ _ _ _ _ _ _ _ h
def SB{p:A->B->C->D->F->G->I->J->L->M->N->Prop}{z:Prop}(k:∀ a b c d e f g i j l m,p a b c d e f g i j l m->z):(∃ a b c d e f g i j l m,p a b c d e f g i j l m)->z:=λh=>by obtain⟨y,y,y,y,y,y,y,y,y,y,y,h⟩:=h;exact k _ _ _ _ _ _ _ _ _ _ _ h
def KS{p:A->B->C->D->F->G->I->J->L->M->N->O->Prop}{z:Prop}(k:∀ a b c d e f g i j l m n,p a b c d e f g i j l m n->z):(∃ a b c d e f g i j l m n,p a b c d e f g i j l m n)->z:=λh=>by obtain⟨y,y,y,y,y,y,y,y,y,y,y,y,h⟩:=h;exact k _ _ _ _ _ _ _ _ _ _ _ _ h
def Gw{p:A->B->C->D->F->G->I->J->L->M->N->O->P->Prop}{z:Prop}(k:∀ a b c d e f g i j l m n o,p a b c d e f g i j l m n o->z):(∃ a b c d e f g i j l m n o,p a b c d e f g i j l m n o)->z:=λh=>by obtain⟨y,y,y,y,y,y,y,y,y,y,y,y,y,h⟩:=h;exact k _ _ _ _ _ _ _ _ _ _ _ _ _ h
def OU{p:A->B->C->D->F->G->I->J->L->M->N->O->P->R->Prop}{z:Prop}(k:∀ a b c d e f g i j l m n o q,p a b c d e f g i j l m n o q->z):(∃ a b c d e f g i j l m n o q,p a b c d e f g i j l m n o q)->z:=λh=>by obtain⟨y,y,y,y,y,y,y,y,y,y,y,y,y,y,h⟩:=h;exact k _ _ _ _ _ _ _ _ _ _ _ _ _ _ h
end L2
set_option Elab.async false
namespace L2
abbrev AM:=Sum Int Str
def KU:AM->Value->Bool
 |.inl k,v=>Lr k v
 |.inr x,v=>Os x v
def Gx(w:World):AM->Int
 |.inl k=>hashInt k
 |.inr x=>hashStr w x
def HQ:∀ {k:AM} {v:Value},KU k v=true->(∃ i t,k=Gr i/\v=vq i t)\/(∃ x t,k=yi x/\v=Ow x t)
 |.inl i,v,h=>by
  obtain⟨t,e⟩:=uv   h;exact .inl<|x2 i t ⟨rfl,e⟩
 |.inr x,v,h=>by
  obtain⟨t,e⟩:=Value.isStrOf_shape   h;exact .inr<|x2 x t ⟨rfl,e⟩
def Gy(i:Int)(t:Tok):KU (.inl i) (.int i t)=true:=by simp[KU,Lr]
def Gz(x:Str)(t:Tok):KU (.inr x) (.str x t)=true:=by simp[KU,Os]
def Hb(a b:Int):decide ((Gr a:AM)=Gr b)=(a==b):=by
 by_cases e:a=b;subst e;simp;rw[decide_eq_false (λq=>e<|Br q)];exact(beq_eq_false_iff_ne.mpr e).symm
def Hc(a b:Str):decide ((yi a:AM)=yi b)=decide (a=b):=by
 by_cases e:a=b;simp;rw[decide_eq_false (λq=>e<|Ls q),decide_eq_false e]
def Hd(a:Int)(b:Str):decide ((Gr a:AM)=yi b)=false:=decide_eq_false (λq=>nomatch q)
def Hg(a:Str)(b:Int):decide ((yi a:AM)=Gr b)=false:=decide_eq_false (λq=>nomatch q)
def DE(prog:bv)(w:World):PySem.KeyKind prog w AM where
 is:=KU
 hash:=Gx w
 inj:=λv a b ha hb=>by
  rcases HQ ha with⟨i,t,rfl,rfl⟩|⟨x,t,rfl,rfl⟩
  ·rcases HQ hb with⟨j,u,rfl,e⟩|⟨y,u,rfl,e⟩
   ·injection e with e1 _;rw[e1]
   ·exact nomatch e
  ·rcases HQ hb with⟨j,u,rfl,e⟩|⟨y,u,rfl,e⟩
   ·exact nomatch e
   ·injection e with e1 _;rw[e1]
 byValue:=λk v h=>by
  rcases HQ h with⟨i,t,rfl,rfl⟩|⟨x,t,rfl,rfl⟩<;>rfl
 pyHash:=λhv h=>by
  rcases HQ hv with⟨i,t,rfl,rfl⟩|⟨x,t,rfl,rfl⟩
  ·exact wpAny_pyHash_int h
  ·exact wpAny_pyHash_str h
 eqBool:=λhu hv h=>by
  rcases HQ hu with⟨i,t,rfl,rfl⟩|⟨x,t,rfl,rfl⟩
  ·rcases HQ hv with⟨j,u,rfl,rfl⟩|⟨y,u,rfl,rfl⟩
   ·rw[Hb]at h;exact wpAny_eqBool_int h
   ·rw[Hd]at h;exact Fi i t y u _ _ _ _ h
  ·rcases HQ hv with⟨j,u,rfl,rfl⟩|⟨y,u,rfl,rfl⟩
   ·rw[Hg]at h;exact Fn x t j u _ _ _ _ h
   ·rw[Hc]at h;exact wpAny_eqBool_str h
 «strs» :=λk x t v h=>by
  rcases HQ h with⟨i,u,rfl,e⟩|⟨y,u,rfl,e⟩
  ·exact nomatch e
  ·injection e with e1 _
   subst e1;cases v<;>rfl
def Hh(prog:bv)(w:World)(i:Int)(t:Tok):(DE prog w).is (.inl i) (.int i t)=true:=Gy i t
def Hj(prog:bv)(w:World)(x:Str)(t:Tok):(DE prog w).is (.inr x) (.str x t)=true:=Gz x t
inductive V where
 |non|bl (b:Bool)|int (i:Int)|str (x:Str)|byt (b:Array UInt8)|flt (b:UInt64)|ref (a:Addr)|ty (n:String)
 deriving DecidableEq
def RelV:V->Value->Prop
 |.non,u=>u=ix
 |.bl b,u=>u=Nn b
 |.int i,u=>∃ t,u=vq i t
 |.str x,u=>∃ t,u=Ow x t
 |.byt b,u=>∃ t,u=Value.bytes b t
 |.flt b,u=>∃ t,u=Value.float b t
 |.ref a,u=>u=gk a
 |.ty n,u=>u=jt n
abbrev _root_.Tr:=List V
abbrev _root_.Su:=List Value
abbrev Vals:Tr->Su->Prop:=Paired RelV
def Vals.length{xs:Tr}{us:Su}(r:Vals xs us):xs.length=us.length:=Paired.length r
def Vals.get:∀ {xs:Tr} {us:Su} {i:Nat} {x:V},Vals xs us->xs[i]? =some x->∃ u,us[i]? =some u/\RelV x u
 |_,_,_,_,.nil,e=>by simp at e
 |_,_,0,_,.cons r _,e=>by simp at e;subst e;exact⟨_,rfl,r⟩
 |_,_,i+1,x,.cons _ t,e=>by
  obtain⟨u,h1,h2⟩:=Vals.get   t (e);exact⟨u,h1,h2⟩
def Vals.set{x:V}{u:Value}(r:RelV x u):∀ {xs:Tr} {us:Su} (i:Nat),Vals xs us->Vals (xs.set i x) (us.set i u)
 |_,_,_,.nil=>.nil
 |_,_,0,.cons _ t=>.cons r t
 |_,_,i+1,.cons q t=>.cons q<|Vals.set r i t
def Vals.append:∀ {xs ys:Tr} {us ws:Su},Vals xs us->Vals ys ws->Vals (xs++ys) (us++ws)
 |_,_,_,_,.nil,s=>s
 |_,_,_,_,.cons r t,s=>.cons r<|Vals.append t s
def Vals.take:∀ {xs:Tr} {us:Su} (n:Nat),Vals xs us->Vals (xs.take n) (us.take n)
 |_,_,0,_=>.nil
 |_,_,_+1,.nil=>.nil
 |_,_,n+1,.cons r t=>.cons r<|Vals.take n t
def Vals.drop:∀ {xs:Tr} {us:Su} (n:Nat),Vals xs us->Vals (xs.drop n) (us.drop n)
 |_,_,0,r=>r
 |_,_,_+1,.nil=>.nil
 |_,_,n+1,.cons _ t=>Vals.drop n t
def RelO:Option V->Option Value->Prop
 |some v,some u=>RelV v u
 |none,none=>True
 |_,_=>False
def KV{κ :Type}:List (κ × V)->List (κ × Value)->Prop:=Paired λ(p: κ × V) (q: κ × Value)=>p.1=q.1/\RelV p.2 q.2
def kV:AM->V
 |.inl i=>.int i
 |.inr x=>.str x
abbrev _root_.tZ:=List (AM × V)
abbrev _root_.RJ:=List (List AM × V)
abbrev _root_.Tu:=Int->Bool
abbrev _root_.tT:=List (Str × V)
inductive HO where
 /-- a list -/
 |lst (xs:Tr)
 /-- a tuple (never changes) -/
 |tup (xs:Tr)
 /-- a dict whose keys are ints and texts;one whose keys are tuples of ints and texts (the empty one is both) -/
 |dK (kvs:tZ)|dT (kvs:RJ)
 /-- a set of ints: AJ members,AJ size -/
 |set (S:Tu) (n:Nat)
 /-- an instance of the class at C,AJ dict at dx,AJ attributes -/
 |ins (C dx:Addr) (fs:tT)
 /-- the dict of the instance at x -/
 |own (x:Addr)
 /-- the dict of an exception -/
 |xd (fs:tT)
 /-- a bound method,f of x -/
 |met (f x:Addr)
 /-- a range object lo,lo+1,.. below hi -/
 |rng (lo hi:Int)
 /-- a thing that is known to the object (the script;a dict while a loop walks it): read,never written while it is so -/
 |frz (o:Obj) (u:HO)
 /-- a code object's table -/
 |tbl (ps:Array Value)
 /-- any other thing,by what is true of AJ one object (a def of one's own: SetO a S n:=HO.ext λh=>..) -/
 |ext (φ :Heap->Prop)
abbrev Hp:=Addr->Option HO
def upd(H:Hp)(a:Addr)(o:HO):Hp:=λb=>if b=a then some o else H b
def AE{H:Hp}{a:Addr}{o:HO}:upd H a o a=some o:=by unfold upd;rw[if_pos rfl]
def AG{H:Hp}{a b:Addr}{o:HO}(h:b≠a):upd H a o b=H b:=by unfold upd;rw[if_neg h]
def HR:upd (upd H a o) a u=upd H a u:=by
 funext b;unfold upd;split<;>rfl
def BD{H:Hp}{a b:Addr}{o u:HO}(h:H a=some o)(h':H b=some u)(d:o≠u):a≠b:=by
 rintro rfl;rw[h]at h';exact d<|ι h'
def BE{H:Hp}{a b:Addr}{o:HO}(h:H a=some o)(h':H b=none):a≠b:=by
 rintro rfl;rw[h]at h';cases h'
section
variable(P:bv)(w:World)
abbrev _root_.vD:=List (List AM × Addr × Value)
def ObjOk(H:Hp)(h:Heap)(a:Addr):HO->Prop
 |.lst xs=>xs.length<=sizeLine/\∃ (AJ:Su) (n:Nat),Vals xs AJ/\h.get? a=some { cls:=.type "list",data:=.seq AJ.toArray n }
 |.tup xs=>xs.length<=sizeLine/\∃ AJ:Su,Vals xs AJ/\IsTup h a AJ.toArray
 |.dK kvs=>kvs.length<=sizeLine/\(a==ia)=false/\∃ vs,KV kvs vs/\h.DictOf (DE P w) a vs
 |.dT kvs=>kvs.length<=sizeLine/\(a==ia)=false/\∃ xs:vD,
   Paired (λ(p:List AM × V) (q:List AM × Addr × Value)=>p.1=q.1/\H q.2.1=some (.tup<|p.1.map kV)/\RelV p.2 q.2.2) kvs xs /\
   ∃ o es ep,h.get? a=some o/\o.ExactDict/\o.data=.dict es ep/\es.toList=xs.map (xo<|rj<|DE P w)/\(xs.map (·.1)).Nodup
 |.set S n=>h.SetOf (me P w) a S n
 |.ins C dx fs=>H dx=some (.own a)/\fs.length<=1000/\dx≠a/\h.get? a=some (vt C dx) /\
   ∃ mA,h.Ns1 dx mA/\(∀ f,RelO (fs.lookup f) (mA f))/\PySem.Within mA (fs.map (·.1))
 |.own _=>∃ o,h.get? a=some o
 |.xd fs=>∃ mA,h.Ns1 a mA/\∀ f,RelO (fs.lookup f) (mA f)
 |.rng lo hi=>∃ t u v,h.get? a=some { cls:=.type "range",data:=.fields #[.int lo t,.int hi u,.int 1 v] }
 |.frz o u=>h.get? a=some o/\ObjOk H h a u
 |.tbl ps=>h.get? a=some { cls:=.none,data:=.fields ps }
 |.met f x=>h.get? a=some (W.methodObj (.ref f) (.ref x))
 |.ext φ => φ h/\(∃ o,h.get? a=some o)/\∀ h1 h2:Heap,φ h1->(∀ o,h1.get? a=some o->h2.get? a=some o)-> φ h2
def HOk(H:Hp)(h:Heap):Prop:=∀ a o,H a=some o->ObjOk P w H h a o
end
section
variable{P:bv}{w:World}{H H':Hp}{h h':Heap}{a:Addr}{o:HO}
def ObjOk.lt(x:ObjOk P w H h a o):a<h.objs.size:=by
 cases o with
 |lst xs=>obtain⟨z,z,z,z,e⟩:=x;exact av e
 |tup xs=>obtain⟨z,z,z,p⟩:=x;exact p.lt
 |dK kvs=>obtain⟨z,z,z,z,o,z,z,e,z⟩:=x;exact av e
 |dT kvs=>obtain⟨z,z,z,z,o,z,z,e,z⟩:=x;exact av e
 |set S n=>revert x;apply u4;rintro o z z z ⟨e,z⟩;exact av e
 |ins C dx fs=>obtain⟨z,z,z,e,z⟩:=x;exact av e
 |own y=>obtain⟨z,e⟩:=x;exact av e
 |xd fs=>obtain⟨z,⟨z,z,z,e,z⟩,z⟩:=x;exact av e
 |rng lo hi=>revert x;apply u3;rintro z z z e;exact av e
 |frz ob u=>obtain⟨e,z⟩:=x;exact av e
 |tbl ps=>exact av<|x
 |met f y=>exact av<|x
 |ext φ =>obtain⟨z,⟨z,e⟩,z⟩:=x;exact av e
def Paired.mapP{α β :Type}{F G: α -> β ->Prop}:∀ {l₁:List α} {l₂:List β},Paired F l₁ l₂->(∀ a b,F a b->G a b)->Paired G l₁ l₂
 |_,_,.nil,_=>.nil
 |_,_,.cons r t,f=>.cons (f _ _ r) (Paired.mapP t f)
def ObjOk.stay(x:ObjOk P w H h a o)(k:∀ b u,(b=a\/H b=some (.own a))->h.get? b=some u->h'.get? b=some u)
  (ho:∀ b,H b=some (.own a)->H' b=some (.own a)) (ht:∀ b xs,H b=some (.tup xs)->H' b=some (.tup xs)):ObjOk P w H' h' a o:=by
 induction o with
 |lst xs=>obtain⟨z,AJ,n,r,e⟩:=x;exact{z,x2 _ n {r,k _ _ (.inl rfl) e}}
 |tup xs=>obtain⟨z,AJ,r,ob,e,c⟩:=x;exact{z,_,r,ob,k _ _ (.inl rfl) e,c}
 |dK kvs=>obtain⟨z,y,vs,r,ob,es,ep,e,c⟩:=x;exact{z,y,vs,r,x3 ob es ep {k _ _ (.inl rfl) e,c}}
 |dT kvs =>
  obtain⟨z,y,xs,r,ob,es,ep,e,c⟩:=x;exact{z,y,xs,Paired.mapP r λp q z=>{z.1,ht _ _ z.2.1,z.2.2},x3 ob es ep {k _ _ (.inl rfl) e,c}}
 |set S n=>revert x;apply u4;rintro ob es ep t ⟨e,c⟩;exact x4 ob es ep t {k _ _ (.inl rfl) e,c}
 |ins C dx fs =>
  obtain⟨d,z,ne,e,mA,⟨od,es,ep,e2,c⟩,r⟩:=x;exact{ho _ d,z,ne,k _ _ (.inl rfl) e,mA,x3 od es ep {k _ _ (.inr d) e2,c},r}
 |own y=>obtain⟨ob,e⟩:=x;exact{ob,k _ _ (.inl rfl) e}
 |xd fs=>obtain⟨mA,⟨od,es,ep,e,c⟩,r⟩:=x;exact{mA,x3 od es ep {k _ _ (.inl rfl) e,c},r}
 |rng lo hi=>revert x;apply u3;rintro t u v e;exact x3 t u v<|k _ _ (.inl rfl) e
 |frz ob u ih=>obtain⟨e,q⟩:=x;exact{k _ _ (.inl rfl) e,ih q}
 |tbl ps =>
  have e:h.get? a=some _:=x;exact k a _ (.inl rfl) e
 |met f y =>
  exact k a _ (.inl rfl) x
 |ext φ =>obtain⟨p,⟨o,e⟩,st⟩:=x;exact{st _ _ p λo q=>k _ _ (.inl rfl) q,{o,k _ _ (.inl rfl) e},st}
def HOk.lt(x:HOk P w H h)(e:H a=some o):a<h.objs.size:=(x a o e).lt
def HOk.fresh(x:HOk P w H h)(e:h.objs.size<=a):H a=none:=by
 cases q:H a with
 |none=>rfl
 |some u=>exact absurd (aa (x.lt q) e) (kd _)
def HOk.kept(x:HOk P w H h)(k:∀ b u,h.get? b=some u->h'.get? b=some u):HOk P w H h':=λa o e =>
 (x a o e).stay (λb u z q=>k b u q) (λz q=>q) λz z q=>q
def HOk.laid(x:HOk P w H h)(k:∀ b u,h.get? b=some u->h'.get? b=some u)(hp:h.objs.size<=a)(new:ObjOk P w (upd H a o) h' a o):HOk P w (upd H a o) h':=λb u e=>by
 have hn:=x.fresh hp;by_cases hb:b=a;subst hb;rw[AE]at e;obtain rfl:=ι e;exact new;rw[AG hb]at e;exact(x b u e).stay (λc v z q=>k c v q) (λc q=>by rw[AG (BE q hn)];exact q) λc xs q=>by rw[AG (BE q hn)];exact q
end
def Rd(H:Hp)(a:Addr)(u:HO):Prop:=H a=some u\/∃ o,H a=some (.frz o u)
def Rd.ok(r:Rd H a u)(x:HOk P w H h):ObjOk P w H h a u:=by
 rcases r with r|⟨o,r⟩
 exact x a u r;obtain⟨z,q⟩:=x a _ r;exact q
def OV:Option HO->Prop
 |some (.lst _)=>True
 |some (.dK _)=>True
 |some (.dT _)=>True
 |some (.set _ _)=>True
 |some (.ins _ _ _)=>True
 |some (.ext _)=>True
 |_=>False
section
variable{P:bv}{w:World}{H:Hp}{h h':Heap}{x e:Addr}{o':HO}
def HOk.write(ok:HOk P w H h)(mu:OV (H x))(he:e=x\/H e=some (.own x))(k:∀ b u,b≠e->h.get? b=some u->h'.get? b=some u)(heo:∃ u,h'.get? e=some u)
  (new:ObjOk P w (upd H x o') h' x o'):HOk P w (upd H x o') h':=λb u q=>by
 have nown:∀ c y,H c=some (.own y)->c≠x:=λc y r z=>by subst z;rw[r]at mu;exact mu
 by_cases hb:b=x;subst hb;rw[AE]at q;obtain rfl:=ι q;exact new;rw[AG hb]at q;by_cases hbe:b=e
 have q':H b=some (.own x):=by
  rcases he with z|z
  exact absurd (hbe.trans z) hb;rw[hbe];exact z
 rw[q]at q';obtain⟨v,hv⟩:=heo;obtain rfl:=ι q';exact{v,by rw[hbe];exact hv};refine(ok b u q).stay (λc v hc r=>k c v ?_ r) (λc r=>by rw[AG (nown c b r)];exact r) λc xs r=>by rw[AG ((λc xs r z=>by subst z;rw[r]at mu;exact mu) c xs r)];exact r
 rcases hc with rfl|hc
 exact hbe;rintro rfl;rcases he with z|z
 exact nown c b hc z;rw[hc]at z;cases z;exact hb rfl
end
abbrev _root_.Uu:=List Addr
structure Un(fs ex:Uu)(H H':Hp)(h h':Heap):Prop where
 keep:∀ b o,h.get? b=some o->H b=none->b∉fs->b∉ex->h'.get? b=some o
 slot:∀ b o,h.get? b=some o->H b=none->b∈fs->b∉ex->∃ sl,h'.get? b=some { o with slots:=sl }
 free:∀ b o,h.get? b=some o->H b=none->b∉ex->H' b=none
 there:∀ b o,h.get? b=some o->b∉ex->∃ o',h'.get? b=some o'
 tups:∀ b xs,H b=some (.tup xs)->H' b=some (.tup xs)
 frzs:∀ b o u,H b=some (.frz o u)->H' b=some (.frz o u)
 tbls:∀ b ps,H b=some (.tbl ps)->∃ more,H' b=some (.tbl<|ps++more)
section
variable{fs fs' ex kD:Uu}{H H1 H2:Hp}{h h1 h2 h':Heap}{a x e:Addr}{o:HO}
def Un.any(u:Un fs ex H H1 h h1)(q:h.get? b=some ob)(n:H b=none)(hx:b∉ex):∃ sl,h1.get? b=some { ob with slots:=sl }:=by
 by_cases hb:b∈fs;exact u.slot b ob q n hb hx;exact{_,u.keep b ob q n hb hx}
def Un.kept(k:∀ b u,h.get? b=some u->h'.get? b=some u):Un fs ex H H h h' :=
 {λb ob q z z z=>k b ob q,λb ob q z z z=>{_,k b ob q},λz z z n z=>n,λb ob q z=>{ob,k b ob q},λz z q=>q,λz z z q=>q,λz ps q=>{#[],by rw[q];simp}}
def Un.refl:Un fs ex H H h h:=Un.kept λz z q=>q
def Un.laid(k:∀ b u,h.get? b=some u->h'.get? b=some u)(hp:h.objs.size<=a)(hn:H a=none):Un fs ex H (upd H a o) h h' where
 keep:=λb u q z z z=>k b u q
 slot:=λb u q z z z=>{_,k b u q}
 free:=λb u q n z=>by rw[AG (bd<|aa (av q) hp)];exact n
 there:=λb u q z=>{u,k b u q}
 tups:=λb xs q=>by rw[AG (BE q hn)];exact q
 frzs:=λb u xs q=>by rw[AG (BE q hn)];exact q
 tbls:=λb ps q=>{#[],by rw[AG (BE q hn),q];simp}
def Un.write(mu:OV (H x))(he:e=x\/H e=some (.own x))(k:∀ b u,b≠e->h.get? b=some u->h'.get? b=some u)(heo:∃ u,h'.get? e=some u):Un fs ex H (upd H x o) h h':=by
 have hx:∀ b,H b=none->b≠x:=λb n z=>by subst z;rw[n]at mu;exact mu
 have hm:∀ b u,H b=some u->¬ OV (some u)->b≠x:=λb u q nm z=>by subst z;rw[q]at mu;exact nm mu
 have hb:∀ b,H b=none->b≠e:=λb n z=>by
  subst z;rcases he with r|r
  exact hx b n r;rw[n]at r;cases r
 refine⟨λb u q n y y=>k b u (hb b n) q,λb u q n y y=>{_,k b u (hb b n) q},λb u q n y=>by rw[AG (hx b n)];exact n,λb u q y=>?_,
  λb xs q=>by rw[AG (hm b _ q λz=>z)];exact q,λb u xs q=>by rw[AG (hm b _ q λz=>z)];exact q,λb ps q=>{#[],by rw[AG (hm b _ q λz=>z),q];simp}⟩
 by_cases hbe:b=e;subst hbe;exact heo;exact{u,k b u hbe q}
end
def Hk(h:Heap)(H:Hp):Uu:=(ο h.objs.size).filter λa=>(H a).isSome
def NH(h:Heap)(H:Hp):Heap:=W.hideAll h<|Hk h H
def Hl(h:Heap)(H:Hp):(NH h H).objs.size=h.objs.size:=W.hideAll_size _ _
def Hm(e:h.get? b=some o)(n:H b=none):(NH h H).get? b=some o :=
 W.hideAll_get _ e λhm=>by
  have q:=(cj.mp hm).2;rw[n]at q;simp at q
def Hq(e:(NH h H).get? b=some o):h.get? b=some o/\H b=none:=by
 have e':=W.of_hideAll _ e;refine{e',?_};cases q:H b with
 |none=>rfl
 |some x =>
  have z:(NH h H).get? b=none:=W.hideAll_none _ (cj.mpr {ak.mpr<|av e',by simp[q]});rw[z]at e;cases e
abbrev _root_.tN:=List (Addr × Obj)
def Hv(g h:Heap)(L:Addr):tN:=(ο h.objs.size).filterMap λa=>if a=L\/(g.get? a).isSome=true then none else(h.get? a).map λo=>(a,o)
def CU(g h:Heap)(L d:Addr):tN:=(Hv g h L).filter λp=>decide<|p.1≠d
abbrev _root_.tP:=Str->Option Value
structure Mod(K:μ)(mg:tP)(base:Heap):Prop where
 kin:K.In base
 glob:base.Ns bx mg
 blt:∃ mb,base.Ns No mb/\∀ x:Str,x≠"__name__"->mb x=xb x
 nolimit:base.NoLimit
abbrev _root_.Xu:=List Str
abbrev _root_.Yu:=List Env
structure Cx where
 prog:bv
 w:World
 K:μ
 mg:Str->Option Value
 base:Heap
 A:dk
 N:Xu
 s₀:π
 H₀:Hp
 env:Env
 outer:Yu
 stack:Yu
 ex:Uu
 fn:Str->Bool
 calm:Bool
 pn:tN
 xe:Value->π->Prop
def D5(l:Yu):Uu:=l.filterMap (·.frame)
abbrev Cx.fs(X:Cx):Uu:=D5 X.outer
def SC(sc:Scope)(x:Str):Prop:=sc.names.lookup x=some .local\/sc.names.lookup x=some .cell\/sc.names.lookup x=some .free
def NI(sc:Scope)(x:Str):Prop:=sc.names.lookup x=some .local\/sc.names.lookup x=some .cell
def Hw(env:Env)(h:Heap)(m:tP)(x:Str)(u:Value):Prop :=
 (env.kindOf x=some .local/\m x=some u)\/((env.kindOf x=some .cell\/env.kindOf x=some .free)/\∃ c,env.cells.lookup x=some c/\h.IsCell c (some u))
structure Cx.Ok(X:Cx):Prop where
 mod:Mod X.K X.mg X.base
 kind:X.env.scope.kind=.function
 glob:X.env.globals=bx
 blt:X.env.builtins=No
 above:X.s₀.heap.objs.size<=X.env.locals
 inj:∀ x y c,X.env.cells.lookup x=some c->X.env.cells.lookup y=some c->x=y
 has:∀ x,(X.env.kindOf x=some .cell\/X.env.kindOf x=some .free)->∃ c,X.env.cells.lookup x=some c
 cab:∀ x c,X.fn x=true->X.env.cells.lookup x=some c->X.s₀.heap.objs.size<=c
 hd:X.calm=true->X.A.handled=none
 frames:X.A.frames=some X.stack
 stk:X.stack=X.outer\/(X.stack=X.env::X.outer/\X.env.frame=some X.env.locals)
 exf:∀ b∈X.ex,b≠X.env.locals/\∀ x c,X.env.cells.lookup x=some c->c≠b
 bs:∀ b o,X.base.get? b=some o->X.s₀.heap.get? b=some o/\X.H₀ b=none
 bsz:X.base.objs.size<=X.s₀.heap.objs.size
 noex:∀ b o,X.base.get? b=some o->b∉X.ex
 exfs:∀ b∈X.ex,b∉X.fs
 funs:X.s₀.heap.FunFrames X.base X.outer
 frf:∀ b∈X.fs,X.H₀ b=none
structure Inv(X:Cx)(AA:tN)(σ:List (Option V))(H:Hp)(s:π):Prop where
 ok:X.Ok
 os:s.os=X.s₀.os
 bare:uw s.gens
 base:Un X.fs X.ex X.H₀ H X.s₀.heap s.heap
 loc:∃ m,s.heap.Ns X.env.locals m/\∀ (i:Nat) (x:Str) (v:V),X.N[i]? =some x->σ[i]? =some (some v)->SC X.env.scope x->∃ u,RelV v u/\Hw X.env s.heap m x u
 cell:∀ x c,X.env.cells.lookup x=some c->∃ v,s.heap.IsCell c v
 free:H X.env.locals=none
 freeC:∀ x c,X.env.cells.lookup x=some c->H c=none
 pin:∀ p∈X.pn++AA,s.heap.get? p.1=some p.2/\H p.1=none/\p.1≠X.env.locals/\p.1∉X.fs/\∀ v,p.2.data≠.cell v
 hok:HOk X.prog X.w H s.heap
 len:σ.length=X.N.length
section
variable{X:Cx}{AA:tN}{σ:List (Option V)}{H H':Hp}{s:π}{h':Heap}
def Cx.Ok.nofr(ok:X.Ok)(e:X.base.get? b=some o):b∉X.fs:=λhb=>by
 have:=(ok.funs.mem hb).1;rw[e]at this;cases this
def Inv.bs(I:Inv X AA σ H s):∀ b o,X.base.get? b=some o->s.heap.get? b=some o/\H b=none:=λb o e =>
 {I.base.keep b o (I.ok.bs b o e).1 (I.ok.bs b o e).2 (I.ok.nofr e) (I.ok.noex b o e),I.base.free b o (I.ok.bs b o e).1 (I.ok.bs b o e).2 (I.ok.noex b o e)}
def Inv.bk(I:Inv X AA σ H s):∀ b o,X.base.get? b=some o->s.heap.get? b=some o:=λb o e=>(I.bs b o e).1
def Inv.mod(I:Inv X AA σ H s):Mod X.K X.mg X.base:=I.ok.mod
def Inv.kIn(I:Inv X AA σ H s):X.K.In s.heap:=I.ok.mod.kin.keeps I.bk
def Inv.lt(I:Inv X AA σ H s):X.env.locals<s.heap.objs.size:=let ⟨_,hn,_⟩:=I.loc;hn.lt
def Inv.sz(I:Inv X AA σ H s):X.s₀.heap.objs.size<=s.heap.objs.size:=ψ I.ok.above<|jz I.lt
def Inv.nofs(I:Inv X AA σ H s)(h:s.heap.objs.size<=a):a∉X.fs:=λhb=>by
 obtain⟨z,o,ho,z⟩:=I.ok.funs.mem hb;exact absurd (aa (av ho) (ψ I.sz h)) (kd _)
def Inv.cne(I:Inv X AA σ H s):∀ x c,X.env.cells.lookup x=some c->c≠X.env.locals:=λx c e z=>by
 obtain⟨m,⟨o',es,ep,ho',hd',y⟩,y⟩:=I.loc;obtain⟨v,o,ho,hd⟩:=I.cell x c e;rw[z,ho']at ho;obtain rfl:=ι ho;rw[hd']at hd;cases hd
def Inv.funs(I:Inv X AA σ H s):s.heap.FunFrames X.base X.outer:=by
 have all:∀ (l:List _),(∀ b∈D5 l,b∈X.fs)->X.s₀.heap.FunFrames X.base l->s.heap.FunFrames X.base l:=by
  intro l
  induction l with
  |nil=>intro y y;trivial
  |cons env r ih =>
   rintro hs ⟨hk,⟨L,o,hf,hn,ho,hd⟩,hr⟩
   have hL:=hs L (by unfold D5;rw[wx,hf];exact ai);obtain⟨sl,e⟩:=I.base.slot L o ho (I.ok.frf L hL) hL λz=>I.ok.exfs L z hL;exact{hk,x2 L _ ⟨hf,hn,e,hd⟩,ih (λb hb=>hs b (by unfold D5;rw[wx,hf];exact ω _ hb)) hr}
 exact all _ (λy hb=>hb) I.ok.funs
def Inv.stack(I:Inv X AA σ H s):s.heap.FunFrames X.base X.stack:=by
 rcases I.ok.stk with e|⟨e,hf⟩
 rw[e];exact I.funs;obtain⟨m,hn,z⟩:=I.loc;rw[e];exact .cons (by rw[I.ok.kind];decide) hf hn (Heap.get?_none_of_le<|ψ I.ok.bsz I.ok.above) I.funs
def Inv.stkSub(I:Inv X AA σ H s):∀ b∈D5 X.stack,b∈X.env.locals::X.fs:=λb hb=>by
 rcases I.ok.stk with e|⟨e,hf⟩
 rw[e]at hb;exact ω _ hb;rw[e]at hb;unfold D5 at hb;rw[wx,hf]at hb;exact hb
def Inv.stkFree(I:Inv X AA σ H s):∀ b∈D5 X.stack,H b=none:=λb hb=>by
 rcases ax.mp (I.stkSub b hb)with e|hb
 rw[e];exact I.free;obtain⟨y,o,ho,y⟩:=I.ok.funs.mem hb;exact I.base.free b o ho (I.ok.frf b hb) λz=>I.ok.exfs b z hb
def Inv.step{g':Array Gs}{t':Nat}{d':Drawn}{ch:Uu}(I:Inv X AA σ H s)
  (DO:∀ b∈ch,(b∈X.ex\/X.s₀.heap.objs.size<=b)/\b≠X.env.locals/\(∀ x c,X.env.cells.lookup x=some c->c≠b)/\∀ p∈X.pn++AA,p.1≠b)
  (keep:∀ b o,b≠X.env.locals->b∉X.fs->b∉ch->s.heap.get? b=some o->H b=none->h'.get? b=some o)
  (slot:∀ b o,b≠X.env.locals->b∈X.fs->b∉ch->s.heap.get? b=some o->H b=none->∃ sl,h'.get? b=some { o with slots:=sl }) (free:∀ b o,b∉ch->s.heap.get? b=some o->H b=none->H' b=none)
  (there:∀ b o,b∉ch->s.heap.get? b=some o->∃ o',h'.get? b=some o')
  (tups:∀ b xs,H b=some (.tup xs)->H' b=some (.tup xs)) (frzs:∀ b o u,H b=some (.frz o u)->H' b=some (.frz o u)) (tbls:∀ b ps,H b=some (.tbl ps)->∃ more,H' b=some (.tbl<|ps++more))
  (ns:∀ m,s.heap.Ns X.env.locals m->h'.Ns X.env.locals m) (hok:HOk X.prog X.w H' h') (hg:uw g') :
  Inv X AA σ H' { s with heap:=h',gens:=g',drawn:=d',toks:=t' }:=by
 have neL:∀ b o,X.s₀.heap.get? b=some o->b≠X.env.locals:=λb o e=>bd<|aa (av e) I.ok.above
 have neC:∀ b o,X.s₀.heap.get? b=some o->b∉X.ex->b∉ch:=λb o e hx hb=>by
  rcases(DO b hb).1 with z|z
  exact hx z;exact absurd (aa (av e) z) (kd _)
 have cellK:∀ x c,X.env.cells.lookup x=some c->∀ v,s.heap.IsCell c v->h'.IsCell c v:=λx c e v ⟨o,ho,hd⟩=>by
  have nch:=λz=>(DO c z).2.2.1 x c e rfl;by_cases hc:c∈X.fs;obtain⟨sl,q⟩:=slot c o (I.cne x c e) hc nch ho (I.freeC x c e);exact⟨_,q,hd⟩;exact{o,keep c o (I.cne x c e) hc nch ho (I.freeC x c e),hd}
 refine{I.ok,I.os,hg,{λb o e n hb hx=>(keep b o (neL b o e) hb (neC b o e hx) (I.base.keep b o e n hb hx) (I.base.free b o e n hx)),λb o e n hb hx=>?_,λb o e n hx=>?_,λb o e hx=>?_,λb xs e=>tups b xs<|I.base.tups b xs e,λb o xs e=>frzs b o xs<|I.base.frzs b o xs e,λb ps e=>?_},?_,λx c e=>?_,?_,λx c e=>?_,λp hp=>?_,hok,I.len};obtain⟨sl,e1⟩:=I.base.slot b o e n hb hx;obtain⟨sl',e2⟩:=slot b _ (neL b o e) hb (neC b o e hx) e1 (I.base.free b o e n hx);exact⟨_,e2⟩;obtain⟨o',e1⟩:=I.base.there b o e hx;exact free b o' (neC b o e hx) e1 (I.base.free b o e n hx);obtain⟨o',e1⟩:=I.base.there b o e hx;exact there b o' (neC b o e hx) e1;obtain⟨m1,e1⟩:=I.base.tbls b ps e;obtain⟨m2,e2⟩:=tbls b _ e1;exact{_,by rw[e2,Fo]};obtain⟨m,hn,hl⟩:=I.loc;refine{m,ns m hn,λi x v e1 e2 e3=>?_};obtain⟨u,r,l⟩:=hl i x v e1 e2 e3;refine{u,r,?_};rcases l with l|⟨k,c,e,z⟩
 exact .inl l;exact .inr {k,c,e,cellK x c e _ z};obtain⟨v,z⟩:=I.cell x c e;exact{v,cellK x c e v z};obtain⟨m,⟨o,y,y,ho,y⟩,y⟩:=I.loc;exact free _ o (λz=>(DO _ z).2.1 rfl) ho I.free;obtain⟨v,o,ho,hd⟩:=I.cell x c e;exact free c o (λz=>(DO c z).2.2.1 x c e rfl) ho (I.freeC x c e)
 have nch:=λz=>(DO _ z).2.2.2 p hp rfl;obtain⟨e,n,ne,nf,d⟩:=I.pin p hp;exact{keep _ _ ne nf nch e n,free _ _ nch e n,ne,nf,d}
def Inv.un{t':Nat}(I:Inv X AA σ H s)(u:Un X.fs [] H H' s.heap h')(hok:HOk X.prog X.w H' h'):Inv X AA σ H' { s with heap:=h',toks:=t' }:=by
 obtain⟨m,⟨o,es,ep,ho,r⟩,_⟩:=id I.loc;obtain⟨sl,hL⟩:=u.any ho I.free (by simp);exact I.step   (ch:=[]) (λ_ z=>nomatch z) (λb o _ hb _ e n=>u.keep b o e n hb (by simp)) (λb o _ hb _ e n=>u.slot b o e n hb (by simp)) (λb o _ e n=>u.free b o e n (by simp)) (λb o _ e=>u.there b o e (by simp)) u.tups u.frzs u.tbls (λm' hm=>by
  revert hm;apply u3;rintro o' es' ep' ⟨ho',r'⟩;rw[ho]at ho';obtain rfl:=ι ho';exact x3 _ _ _ ⟨hL,r'⟩) hok I.bare
def Inv.call{g':Array Gs}{t':Nat}{d':Drawn}{ch:Uu}(I:Inv X AA σ H s)(u:Un (D5 X.stack) ch H H' s.heap h')(hok:HOk X.prog X.w H' h')(hg:uw g')
  (DO:∀ b∈ch,(b∈X.ex\/X.s₀.heap.objs.size<=b)/\b≠X.env.locals/\(∀ x c,X.env.cells.lookup x=some c->c≠b)/\∀ p∈X.pn++AA,p.1≠b) :
  Inv X AA σ H' { s with heap:=h',gens:=g',drawn:=d',toks:=t' }:=by
 obtain⟨m,⟨o,es,ep,ho,r⟩,y⟩:=id I.loc;obtain⟨sl,hL⟩:=u.any ho I.free λz=>(DO _ z).2.1 rfl;exact I.step  DO (λb o hL hb hc e n=>u.keep b o e n (λz=>(ax.mp<|I.stkSub b z).elim hL hb) hc) (λb o y y hc e n=>u.any e n hc) (λb o hc e n=>u.free b o e n hc) (λb o hc e=>u.there b o e hc) u.tups u.frzs u.tbls (λm' hm=>by
  revert hm;apply u3;rintro o' es' ep' ⟨ho',r'⟩;rw[ho]at ho';obtain rfl:=ι ho';exact x3 _ _ _ ⟨hL,r'⟩) hok hg
def Inv.turned{t':Nat}{it:Addr}(I:Inv X AA σ H s)(k:∀ b o,b≠it->s.heap.get? b=some o->h'.get? b=some o)(hn:H it=none)(hL:it≠X.env.locals)
  (h1:it∈X.ex\/X.s₀.heap.objs.size<=it) (h2:∀ x c,X.env.cells.lookup x=some c->c≠it) (h3:∀ p∈X.pn++AA,p.1≠it):Inv X AA σ H { s with heap:=h',toks:=t' }:=by
 have nit:∀ b u,H b=some u->b≠it:=λb u e z=>by rw[z,hn]at e;cases e
 refine I.step   (ch:=[it]) (λb hb=>?_) (λb o y y hc e y=>k b o (λz=>hc (by simp[z])) e) (λb o y y hc e y=>{_,k b o (λz=>hc (by simp[z])) e}) (λy y y y n=>n)
  (λb o hc e=>{o,k b o (λz=>hc (by simp[z])) e}) (λy y e=>e) (λy y y e=>e) (λb ps e=>{#[],by rw[e];simp}) (λm hm=>?_) (λb u e=>?_) I.bare
 have e:b=it:=by simpa using hb
 subst e;exact⟨h1,hL,h2,h3⟩;revert hm;apply u3;rintro o es ep ⟨ho,r⟩;exact x3 o es ep {k _ o (fj hL) ho,r};refine(I.hok b u e).stay (λc v hc q=>k c v ?_ q) (λy q=>q) λy y q=>q;rcases hc with z|z
 rw[z];exact nit b u e;exact nit c _ z
def Inv.tok(I:Inv X AA σ H s)(t:Nat):Inv X AA σ H { s with toks:=t }:=I.un   Un.refl I.hok
def Inv.kept(I:Inv X AA σ H s)(k:∀ b u,s.heap.get? b=some u->h'.get? b=some u):Inv X AA σ H { s with heap:=h',toks:=t' }:=I.un (Un.kept k) (I.hok.kept k)
def Inv.laid{a:Addr}{o:HO}{t':Nat}(I:Inv X AA σ H s)(k:∀ b u,s.heap.get? b=some u->h'.get? b=some u)(hp:s.heap.objs.size<=a)(new:ObjOk X.prog X.w (upd H a o) h' a o) :
  Inv X AA σ (upd H a o) { s with heap:=h',toks:=t' }:=I.un (Un.laid k hp<|I.hok.fresh hp) (I.hok.laid k hp new)
def Inv.write(I:Inv X AA σ H s)(mu:OV (H x))(he:e=x\/H e=some (.own x))(k:∀ b u,b≠e->s.heap.get? b=some u->h'.get? b=some u)(heo:∃ u,h'.get? e=some u)
  (new:ObjOk X.prog X.w (upd H x o) h' x o):Inv X AA σ (upd H x o) { s with heap:=h',toks:=t' }:=I.un (Un.write mu he k heo) (I.hok.write mu he k heo new)
def Inv.pins_of(I:Inv X AA σ H s)(h:∀ p∈pins',s.heap.get? p.1=some p.2/\H p.1=none/\p.1≠X.env.locals/\p.1∉X.fs/\∀ v,p.2.data≠.cell v):Inv X pins' σ H s :=
 {I.ok,I.os,I.bare,I.base,I.loc,I.cell,I.free,I.freeC,λp hp=>(ao.mp hp).elim (λz=>I.pin p<|cf _ z) (h p),I.hok,I.len}
def kF{N:Xu}(hN:N.Nodup){i j:Nat}{x:Str}(a:N[i]? =some x)(b:N[j]? =some x):i=j:=by
 obtain⟨h1,e1⟩:=ε.mp a;obtain⟨h2,e2⟩:=ε.mp b;exact(Ja hN).mp (e1.trans e2.symm)
abbrev _root_.tV:=Value->π->Prop
def kG{M:Model}{A:dk}{E:tV}{i:Nat}{x:Str}{v:V}{u:Value}{Q:Unit->π->Prop}(I:Inv X AA σ H s)(hN:X.N.Nodup)(hi:X.N[i]? =some x)(hx:NI X.env.scope x)(r:RelV v u)
  (h:∀ s',Inv X AA (σ.set i<|some v) H s'->(∃ a,gy a s.heap s'.heap/\(a=X.env.locals\/X.env.cells.lookup x=some a))->Q () s') (hf:X.fn x=true\/X.env.scope.names.lookup x=some .local:=by first|exact .inl rfl|exact .inr rfl|assumption):wpAny M A (storeName X.env x u) Q E s:=by
 obtain⟨m,hn,hl⟩:=id I.loc
 have hiσ:i<σ.length:=by rw[I.len];exact(ε.mp hi).1
 have cne:=I.cne
 have tracked:∀ {a:Addr} {h':Heap},(∃ o,s.heap.get? a=some o/\H a=none)->gy a _ h'->HOk _ _ H h':=λ{a h'} ha hs b ob e=>by
  obtain⟨t,t,hfree⟩:=ha;refine(I.hok b ob e).stay (λc w' hc q=>(hs.2 c ?_).trans q) (λt q=>q) λt t q=>q;rintro rfl;rcases hc with rfl|hc
  rw[hfree]at e;cases e;rw[hfree]at hc;cases hc
 rcases hx with hk|hk
 refine wpAny_storeName_local hk hn (λh' hn' hs=>(u3 ?_<|id hn)) (by rw[I.ok.kind];rfl);rintro oL t t ⟨hoL,t⟩;refine h _ {I.ok,I.os,I.bare,{λb o e n hb hx=>((hs.2 b<|bd<|aa (av e) I.ok.above).trans (I.base.keep b o e n hb hx)),λb o e n hb hx=>?_,I.base.free,λb o e hx=>?_,I.base.tups,I.base.frzs,I.base.tbls},{_,hn',λj y v' e1 e2 e3=>?_},λy c e=>?_,I.free,I.freeC,λp hp=>?_,tracked ⟨oL,hoL,I.free⟩ hs,by simpa using I.len} {_,hs,.inl rfl};obtain⟨sl,e1⟩:=I.base.slot b o e n hb hx;exact{sl,(hs.2 b<|bd<|aa (av e) I.ok.above).trans e1};obtain⟨o',e1⟩:=I.base.there b o e hx;exact{o',(hs.2 b<|bd<|aa (av e) I.ok.above).trans e1};by_cases hj:j=i;subst hj;rw[hi]at e1;obtain rfl:=ι e1;rw[gz hiσ]at e2;cases e2;exact{u,r,.inl {hk,by simp}};rw[ir (fj hj)]at e2;obtain⟨u',r',q⟩:=hl j y v' e1 e2 e3;refine{u',r',?_};rcases q with⟨k,e⟩|⟨k,c,e,z⟩
 have:y≠x:=λe=>hj<|kF hN e1<|e ▸ hi;refine .inl {k,?_};simp[this,e];exact .inr {k,c,e,z.sameBut hs<|cne y c e};obtain⟨w',z⟩:=I.cell y c e;exact{w',z.sameBut hs<|cne y c e};obtain⟨e,n,ne,nf,d⟩:=I.pin p hp;exact{(hs.2 _ ne).trans e,n,ne,nf,d};obtain⟨c,hc⟩:=I.ok.has x<|.inl hk
 have hfn:X.fn x=true:=by
  rcases hf with z|z
  exact z;rw[z]at hk;cases hk
 obtain⟨w',z⟩:=I.cell x c hc;refine wpAny_storeName_cell I.ok.kind hk hc z<|λh' hc' hs=>?_;obtain⟨oc,hoc,hocd⟩:=id z;refine h _ {I.ok,I.os,I.bare,{λb o e n hb hx=>((hs.2 b<|bd<|aa (av e) (I.ok.cab x c hfn hc)).trans (I.base.keep b o e n hb hx)),λb o e n hb hx=>?_,I.base.free,λb o e hx=>?_,I.base.tups,I.base.frzs,I.base.tbls},{m,hn.sameBut hs<|fj<|cne x c hc,λj y v' e1 e2 e3=>?_},λy c' e=>?_,I.free,I.freeC,λp hp=>?_,tracked {oc,hoc,I.freeC x c hc} hs,by simpa using I.len} {c,hs,.inr hc};obtain⟨sl,e1⟩:=I.base.slot b o e n hb hx;exact{sl,(hs.2 b<|bd<|aa (av e) (I.ok.cab x c hfn hc)).trans e1};obtain⟨o',e1⟩:=I.base.there b o e hx;exact{o',(hs.2 b<|bd<|aa (av e) (I.ok.cab x c hfn hc)).trans e1};by_cases hj:j=i;subst hj;rw[hi]at e1;obtain rfl:=ι e1;rw[gz hiσ]at e2;cases e2;exact{u,r,.inr {.inl hk,c,hc,hc'}};rw[ir (fj hj)]at e2;obtain⟨u',r',q⟩:=hl j y v' e1 e2 e3;refine{u',r',?_};rcases q with q|⟨k,c',e,z'⟩
 exact .inl q;refine .inr {k,c',e,z'.sameBut hs ?_};rintro rfl;exact hj<|kF hN e1<|I.ok.inj _ _ _ e hc ▸ hi;by_cases hcc:c'=c;subst hcc;exact⟨_,hc'⟩;obtain⟨w2,z2⟩:=I.cell y c' e;exact{w2,z2.sameBut hs hcc};obtain⟨e,n,ne,nf,d⟩:=I.pin p hp;refine{(hs.2 _ ?_).trans e,n,ne,nf,d};intro q;rw[q,hoc]at e;exact d w' (by rw[<-(ι e)];exact hocd)
def kH(I:Inv X AA σ H s)(hN:X.N.Nodup)(hi:X.N[i]? =some x)(hx:NI X.env.scope x)(r:RelV v u)
  (h:∀ s',Inv X AA (σ.set i<|some v) H s'->Q () s') (hf:X.fn x=true\/X.env.scope.names.lookup x=some .local:=by first|exact .inl rfl|exact .inr rfl|assumption):wpAny M A (storeName X.env x u) Q E s :=
 kG I hN hi hx r (λs' I' z=>h s' I') hf
def Inv.call'(I:Inv X AA σ H s)(ho:s'.os=s.os)(u:Un (D5 X.stack) ch H H' s.heap s'.heap)(hok:HOk X.prog X.w H' s'.heap)(hg:uw s'.gens)
  (DO:∀ b∈ch,(b∈X.ex\/X.s₀.heap.objs.size<=b)/\b≠X.env.locals/\(∀ x c,X.env.cells.lookup x=some c->c≠b)/\∀ p∈X.pn++AA,p.1≠b):Inv X AA σ H' s':=by
 obtain⟨h',g',d',t',o'⟩:=s';subst ho;exact I.call    u hok hg DO
end
abbrev XK:=Value->Option Addr->Hp->Prop
abbrev St:=List<|Option V
abbrev VK:=V->Hp->Prop
abbrev TE:=St->Hp->VK->Prop
abbrev TT:=St->Hp->(Bool->Hp->Prop)->Prop
abbrev TA:=St->Hp->(Tr->Hp->Prop)->Prop
structure Ends where
 nx:St->Hp->Prop
 rt:VK
 bk:St->Hp->Prop:=λ_ _=>False
 ct:St->Hp->Prop:=λ_ _=>False
abbrev TS:=Ends->St->Hp->Prop
def EP(X:Cx)(AA:tN)(σ:St)(Q:VK)(u:Value)(s':π):Prop:=∃ v H',Inv X AA σ H' s'/\RelV v u/\Q v H'
abbrev _root_.tX:=Bool->Hp->Prop
def TP(X:Cx)(AA:tN)(σ:St)(Q:tX)(b:Bool)(s':π):Prop:=∃ H',Inv X AA σ H' s'/\Q b H'
def AP(X:Cx)(AA:tN)(σ:St)(Q:Tr->Hp->Prop)(us:Su)(s':π):Prop:=∃ vs H',Inv X AA σ H' s'/\Vals vs us/\Q vs H'
def SP(X:Cx)(AA:tN)(D:Ends)(f:Flow)(s':π):Prop :=
 match f with
 |.next=>∃ σ' H',Inv X AA σ' H' s'/\D.nx σ' H'
 |.brk=>∃ σ' H',Inv X AA σ' H' s'/\D.bk σ' H'
 |.cont=>∃ σ' H',Inv X AA σ' H' s'/\D.ct σ' H'
 |.ret u=>∃ v σ' H',Inv X AA σ' H' s'/\RelV v u/\D.rt v H'
def PE(X:Cx)(e:Expr)(t:TE):Prop :=
 ∀ (AA:tN) (s:π) (σ:St) (H:Hp) (Q:VK),Inv X AA σ H s->t σ H Q->wpAny (model X.prog X.w) X.A (eval e X.env) (EP X AA σ Q) X.xe s
def PT(X:Cx)(e:Expr)(t:TT):Prop :=
 ∀ (AA:tN) (s:π) (σ:St) (H:Hp) (Q:tX),Inv X AA σ H s->t σ H Q->wpAny (model X.prog X.w) X.A (Ps e X.env<|eval e X.env) (TP X AA σ Q) X.xe s
def PW(X:Cx)(e:Expr)(t:TT):Prop :=
 ∀ (whole:Sem Value) (AA:tN) (s:π) (σ:St) (H:Hp) (Q:tX),Inv X AA σ H s->t σ H Q->wpAny (model X.prog X.w) X.A (Ps e X.env whole) (TP X AA σ Q) X.xe s
def PW.pt(h:PW X e t):PT X e t:=h _
abbrev _root_.Vu:=List Expr
def PA(X:Cx)(es:Vu)(t:TA):Prop :=
 ∀ (pos:Pos) (AA:tN) (s:π) (σ:St) (H:Hp) (Q:Tr->Hp->Prop),Inv X AA σ H s->t σ H Q->wpAny (model X.prog X.w) X.A (spliced<|jp pos<|a_ es X.env) (AP X AA σ Q) X.xe s
def PS(X:Cx)(st:Stmt)(t:TS):Prop :=
 ∀ (AA:tN) (s:π) (σ:St) (H:Hp) (D:Ends),Inv X AA σ H s->t D σ H->wpAny (model X.prog X.w) X.A (exec st X.env) (SP X AA D) X.xe s
def FC(X:Cx)(st:List Stmt)(t:TS):Prop :=
 ∀ (AA:tN) (s:π) (σ:St) (H:Hp) (D:Ends),Inv X AA σ H s->t D σ H->wpAny (model X.prog X.w) X.A (execs st X.env) (SP X AA D) X.xe s
def AO{α :Type}{t:Sem α}{Q Q': α ->π->Prop}{M:Model}{A:dk}{E:tV}{s:π}(h:wpAny M A t Q E s)(hQ:∀ a s,Q a s->Q' a s):wpAny M A t Q' E s:=p_ h hQ λz z x=>x
section
variable{X:Cx}
def SD(i:Nat):TE:=λσ H Q=>∃ v,σ[i]? =some (some v)/\Q v H
def tC(v:V):TE:=λ_ H Q=>Q v H
def kI(hN:X.N[i]? =some x)(hv:SC X.env.scope x)(hd:(x ==("__debug__":Str))=false:=by decide)(GP:(x ==("__classdict__":Str))=false:=by decide):PE X (.Name x pos) (SD i):=by
 rintro AA s σ H Q I ⟨v,e,h⟩;obtain⟨m,hn,hl⟩:=I.loc;obtain⟨u,r,l⟩:=hl i x v hN e hv
 have fin:EP X _ σ Q u s:=x2 v H ⟨I,r,h⟩;rcases l with⟨hk,hm⟩|⟨hk,c,hc,hcell⟩
 exact Nr (wpAny_loadName_local I.ok.kind hk hn hm fin) hd;rcases hk with hk|hk
 exact Nr (wpAny_loadName_cell I.ok.kind hk hc hcell fin) hd;exact Nr (wpAny_loadName_free I.ok.kind hk hc hcell fin GP) hd
def kJ{i j pos}:PE X (.Constant (.int i) j pos) (tC<|.int i):=λz z z H z I h=>wpAny_Constant_int<|x2 (.int i) H {I.tok _,⟨_,rfl⟩,h}
def Hy{b j pos}:PE X (.Constant (.bool b) j pos) (tC<|.bl b):=λz z z H z I h=>Constant_bool<|x2 (.bl b) H ⟨I,rfl,h⟩
def Hz{j pos}:PE X (.Constant .none j pos) (tC .non):=λz z z H z I h=>Constant_none<|x2 (.non) H ⟨I,rfl,h⟩
def Jb{x j pos}:PE X (.Constant (.str x) j pos) (tC<|.str x):=λz z z H z I h=>Calls.Constant_str<|x2 (.str x) H {I.tok _,⟨_,rfl⟩,h}
def Gl(X:Cx)(x:Str):Prop:=X.env.kindOf x=some .globalImplicit
def OW(I:Inv X AA σ H s)(hg:Gl X x)(hm:X.mg x=some u)(h:Q u s)
  (hd:(x ==("__debug__":Str))=false:=by decide):wpAny (model X.prog X.w) X.A (eval (.Name x pos) X.env) Q E s :=
 xp I.ok.kind hg (Calls.loadGlobal_global (by rw[I.ok.glob];exact I.mod.glob.keeps I.bk) hm h) hd
def SE{E:tV}{AA:tN}{s:π}{σ:St}{H:Hp}{x:Str}{u:Value}{pos:Pos}{Q:tV}(I:Inv X AA σ H s)(hg:Gl X x)(hm:X.mg x=none)(hv:xb x=some u)(h:Q u s)
  (hn:x≠"__name__":=by decide) (hd:(x ==("__debug__":Str))=false:=by decide):wpAny (model X.prog X.w) X.A (eval (.Name x pos) X.env) Q E s:=by
 obtain⟨mb,h1,h2⟩:=I.mod.blt;exact xp I.ok.kind hg (Calls.loadGlobal_builtin (by rw[I.ok.glob];exact I.mod.glob.keeps I.bk) hm (by rw[I.ok.blt];exact h1.keeps I.bk) ((h2 x hn).trans hv) h) hd
def Jc(hg:Gl X x)(hm:X.mg x=some u)(r:RelV v u)(hd:(x ==("__debug__":Str))=false:=by decide):PE X (.Name x pos) (tC v) :=
 λz z z H z I h=>OW I hg hm (x2 v H ⟨I,r,h⟩) hd
variable{a b:Expr}{ta tb:TE}{pos:Pos}
def PC(X:Cx)(op:CmpOp)(a b:Expr)(t:TE):Prop :=
 ∀ (AA:tN) (s:π) (σ:St) (H:Hp) (Q:VK),Inv X AA σ H s->t σ H Q ->
  wpAny (model X.prog X.w) X.A (eval a X.env) (λv s₁=>wpAny (model X.prog X.w) X.A (eval b X.env) (λu s₂=>wpAny (model X.prog X.w) X.A (dt op v u) (EP X AA σ Q) X.xe s₂) X.xe s₁) X.xe s
def kK(b:Expr)(h:op≠.In)(h2:op≠.NotIn):lm op b=false:=by
 have e1:(op==CmpOp.In)=false:=by cases op<;>first|rfl|exact absurd rfl h
 have e2:(op==Qo)=false:=by cases op<;>first|rfl|exact absurd rfl h2
 cases b<;>simp[lm,e1,e2]
def tB(t:TE):TT:=λσ H Q=>t σ H λx H1=>∃ c,x=.bl c/\Q c H1
def Jd(h:PC X op a b t)(h1:lm op b=false:=by first|exact kK _ (by decide) (by decide)|rfl):PE X (.Compare a [op] [b] pos) t:=λAA s σ H Q I hw=>wpAny_Compare1 (h AA s σ H Q I hw) h1
def Jg{t:TE}(h:PC X op a b t)(h1:lm op b=false:=by first|exact kK _ (by decide) (by decide)|rfl):PT X (.Compare a [op] [b] pos) (tB t):=by
 refine λAA s σ H Q I hw=>Ba (AO (h _ s σ H _ I hw) λv s1 h1=>AO h1 λu s2 h2=>AO h2 λc s3 hzz=>?_) h1;obtain⟨x,H1,I1,r1,⟨d,rfl,q⟩⟩:=hzz;subst r1;exact iy ⟨H1,I1,q⟩
variable{tA tB':TT}{CU:Vu}
def HS(t u:TT):TT:=λσ H Q=>t σ H λc H1=>if c=true then u σ H1 Q else Q false H1
def L7(t u:TT):TT:=λσ H Q=>t σ H λc H1=>if c=true then Q true H1 else u σ H1 Q
def GA(t:TT):TT:=λσ H Q=>t σ H λc H1=>Q (!c) H1
def Jh(ha:PT X a tA):PW X (.BoolOp .And [a] pos) tA:=by
 refine λwh AA s σ H Q I h=>isTrue_and<|AO (ha _ s σ H Q I h) λc s1 e=>?_;cases c with
 |true=>exact isTrue_and_nil e
 |false=>exact e
def Jj(ha:PT X a tA):PW X (.BoolOp .Or [a] pos) tA:=by
 refine λwh AA s σ H Q I h=>isTrue_or<|AO (ha _ s σ H Q I h) λc s1 e=>?_;cases c with
 |false=>exact isTrue_or_nil e
 |true=>exact e
def Jk(ha:PT X a tA)(hb:PW X (.BoolOp .And (b::CU) pos) tB'):PW X (.BoolOp .And (a::b::CU) pos) (HS tA tB'):=by
 refine λwh AA s σ H Q I h=>isTrue_and<|AO (ha _ s σ H _ I h) λc s1 hzz=>?_;obtain⟨H1,I1,q1⟩:=hzz;cases c with
 |true=>exact hb wh _ s1 σ H1 Q I1 q1
 |false=>exact⟨H1,I1,q1⟩
def Jl(ha:PT X a tA)(hb:PW X (.BoolOp .Or (b::CU) pos) tB'):PW X (.BoolOp .Or (a::b::CU) pos) (L7 tA tB'):=by
 refine λwh AA s σ H Q I h=>isTrue_or<|AO (ha _ s σ H _ I h) λc s1 hzz=>?_;obtain⟨H1,I1,q1⟩:=hzz;cases c with
 |true=>exact⟨H1,I1,q1⟩
 |false=>exact hb wh _ s1 σ H1 Q I1 q1
def Jm(ha:PT X a tA):PT X (.UnaryOp .Not a pos) (GA tA):=λAA s σ H Q I h=>isTrue_not<|ha _ s σ H (λc H1=>Q _ H1) I h
def OX(ta tb:TE):TE:=λσ H Q=>ta σ H λx H1=>∃ c,x=.bl c/\if c=true then tb σ H1 Q else Q (.bl false) H1
def SF(ta tb:TE):TE:=λσ H Q=>ta σ H λx H1=>∃ c,x=.bl c/\if c=true then Q (.bl true) H1 else tb σ H1 Q
def Jp{op}(h:PE X a t):PE X (.BoolOp op [a] pos) t:=λAA s σ H Q I hw=>BoolOp_one<|h _ s σ H Q I hw
def Jq(ha:PE X a ta)(hb:PE X (.BoolOp .And (b::CU) pos) tb):PE X (.BoolOp .And (a::b::CU) pos) (OX ta tb):=by
 refine λAA s σ H Q I h=>BoolOp_and<|AO (ha _ s σ H _ I h) λv s1 hzz=>?_;obtain⟨x,H1,I1,r1,⟨c,rfl,q1⟩⟩:=hzz;subst r1;refine iy ?_;cases c with
 |true=>exact hb _ s1 σ H1 Q I1 q1
 |false=>exact x2 (.bl _) H1 ⟨I1,rfl,q1⟩
def Jv(ha:PE X a ta)(hb:PE X (.BoolOp .Or (b::CU) pos) tb):PE X (.BoolOp .Or (a::b::CU) pos) (SF ta tb):=by
 refine λAA s σ H Q I h=>BoolOp_or<|AO (ha AA s σ H _ I h) λv s1 hzz=>?_;obtain⟨x,H1,I1,r1,q1⟩:=hzz;obtain⟨c,rfl,q1⟩:=q1;cases r1;refine iy ?_;cases c with
 |false=>exact hb AA s1 σ H1 Q I1 q1
 |true=>exact x2 (.bl true) H1 ⟨I1,rfl,q1⟩
def WM(t:TT)(ta tb:TE):TE:=λσ H Q=>t σ H λc H1=>if c=true then ta σ H1 Q else tb σ H1 Q
def Jw{c:Expr}(hc:PT X c tA)(ha:PE X a ta)(hb:PE X b tb):PE X (.IfExp c a b pos) (WM tA ta tb):=by
 refine λAA s σ H Q I h=>wpAny_IfExp<|AO (hc AA s σ H _ I h) λd s1 hzz=>?_;obtain⟨H1,I1,q1⟩:=hzz;cases d with
 |true=>exact ha AA s1 σ H1 Q I1 q1
 |false=>exact hb AA s1 σ H1 Q I1 q1
end
def SqL(K:μ)(H:Hp)(a:Addr)(xs:Tr):Prop :=
 Rd H a (.lst xs) ∨
  ∃ (o:Obj) (AJ:Array Value) (n:Nat),K.lookup a=some o/\o.cls=.type "list"/\o.dict=none/\o.data=.seq AJ n/\AJ.size<=sizeLine/\Vals xs AJ.toList
def SqT(K:μ)(H:Hp)(a:Addr)(xs:Tr):Prop :=
 Rd H a (.tup xs) ∨
  ∃ (o:Obj) (AJ:Array Value) (n:Nat),K.lookup a=some o/\o.cls=.type "tuple"/\o.data=.seq AJ n/\AJ.size<=sizeLine/\Vals xs AJ.toList
def Jx:Value->Option V
 |.none=>some .non
 |.bool b=>some<|.bl b
 |.int i _=>some<|.int i
 |.str x _=>some<|.str x
 |.bytes b _=>some<|.byt b
 |.float b _=>some<|.flt b
 |.ref a=>some<|.ref a
 |.type n=>some<|.ty n
 |_=>none
def RelV.abs(r:RelV x u):Jx u=some x:=by
 cases x with
 |non=>subst r;rfl
 |bl _=>subst r;rfl
 |int _=>obtain⟨t,rfl⟩:=r;rfl
 |str _=>obtain⟨t,rfl⟩:=r;rfl
 |byt _=>obtain⟨t,rfl⟩:=r;rfl
 |flt _=>obtain⟨t,rfl⟩:=r;rfl
 |ref _=>subst r;rfl
 |ty _=>subst r;rfl
def RelV.inj{x y:V}{u:Value}(r:RelV x u)(q:RelV y u):x=y:=ι<|r.abs.symm.trans q.abs
def Vals.inj:∀ {xs ys:Tr} {us:Su},Vals xs us->Vals ys us->xs=ys
 |_,_,_,.nil,.nil=>rfl
 |_,_,_,.cons r t,.cons r' t'=>by rw[r.inj r',Vals.inj t t']
section
variable{X:Cx}{AA:tN}{σ:St}{H:Hp}{s:π}{a:Addr}{xs ys:Tr}
def SqL.of{K:μ}(h:H a=some (.lst xs)):SqL K H a xs:=.inl<|.inl h
def SqT.of{K:μ}(h:H a=some (.tup xs)):SqT K H a xs:=.inl<|.inl h
def Inv.list(I:Inv X AA σ H s)(h:SqL X.K H a xs):∃ AJ:Su,Vals xs AJ/\PlainL s.heap a AJ.toArray/\xs.length<=sizeLine:=by
 rcases h with h|⟨o,AJ,n,hk,hc,hd,hs,hz,r⟩
 obtain⟨z,AJ,n,r,e⟩:=h.ok I.hok;exact{_,r,x2 _ n ⟨e,rfl,rfl,rfl⟩,z};refine{_,r,x2 o n {I.kIn a o hk,hc,hd,hs},?_};exact r.length ▸ hz
def Inv.tuple(I:Inv X AA σ H s)(h:SqT X.K H a xs):∃ AJ:Su,Vals xs AJ/\IsTup s.heap a AJ.toArray/\xs.length<=sizeLine:=by
 rcases h with h|⟨o,AJ,n,hk,hc,hs,hz,r⟩
 obtain⟨z,AJ,r,p⟩:=h.ok I.hok;exact⟨_,r,p,z⟩;refine{_,r,{o,I.kIn a o hk,hc,n,hs},?_};exact r.length ▸ hz
def Inv.list_inj(I:Inv X AA σ H s)(h:SqL X.K H a xs)(h':SqL X.K H a ys):xs=ys:=by
 obtain⟨AJ,r,⟨o,n,e,z,z,d⟩,z⟩:=I.list h;obtain⟨its',r',⟨o',n',e',z,z,d'⟩,z⟩:=I.list h';rw[e]at e';obtain rfl:=ι e';rw[d]at d';injection d' with d1 _
 have:AJ=its':=congrArg Pu d1;subst this;exact r.inj r'
def Inv.tuple_inj(I:Inv X AA σ H s)(h:SqT X.K H a xs)(h':SqT X.K H a ys):xs=ys:=by
 obtain⟨AJ,r,⟨o,e,z,n,d⟩,z⟩:=I.tuple h;obtain⟨its',r',⟨o',e',z,n',d'⟩,z⟩:=I.tuple h';rw[e]at e';obtain rfl:=ι e';rw[d]at d';injection d' with d1 _
 have:AJ=its':=congrArg Pu d1;subst this;exact r.inj r'
end
section
variable{X:Cx}{AA:tN}{σ:St}{H:Hp}{s:π}{E:tV}
end
section
variable{X:Cx}{st:Stmt}{CU:List Stmt}{t u:TS}{e:Expr}{te:TE}{pos:Pos}
def BS:TS:=λD σ H=>D.nx σ H
def AH(t u:TS):TS:=λD σ H=>t { D with nx:=u D } σ H
def Jy:FC X [] BS:=λz z σ H z I h=>t9<|x2 σ H ⟨I,h⟩
def Jz(h1:PS X st t)(h2:FC X CU u):FC X (st::CU) (AH t u):=by
 refine λAA s σ H D I h=>Je<|AO (h1 _ s σ H _ I h) λf s1 q=>?_;cases f with
 |next =>
  revert q;apply u2;rintro σ' H' ⟨I',q⟩;exact h2 _ s1 _ H' D I' q
 |ret v=>exact q
 |brk=>exact q
 |cont=>exact q
def Kb(h1:PS X st t):FC X [st] t:=by
 refine λAA s σ H D I h=>Je<|AO (h1 _ s σ H D I h) λf s1 q=>?_;cases f with
 |next=>exact t9 q
 |ret v=>exact q
 |brk=>exact q
 |cont=>exact q
def Inv.quiet{AA:tN}{σ:St}{H:Hp}{s:π}(I:Inv X AA σ H s):interactive X.env=false:=by simp[interactive,I.ok.kind]
def CC(te:TE):TS:=λD σ H=>te σ H λ_ H1=>D.nx σ H1
def Kc(he:PE X e te)(hs:xl e none pos.line X.env=pure false:=by rfl):PS X (.Expr e pos) (CC te):=λAA s σ H D I h=>wpAny_Expr_any (AO (he _ s σ H _ I h) (by rintro v s1 ⟨x,H1,I1,r1,q1⟩;exact x2 σ H1 ⟨I1,q1⟩)) I.quiet hs
def AW(te:TE):TS:=λD σ H=>te σ H D.rt
def Kd(he:PE X e te):PS X (.Return (some e) pos) (AW te):=λAA s σ H D I h=>wpAny_Return_some (AO (he _ s σ H _ I h) (by rintro v s1 ⟨x,H1,I1,r1,q1⟩;exact x3 x σ H1 ⟨I1,r1,q1⟩))
def BG(c:TT)(t u:TS):TS:=λD σ H=>c σ H λb H1=>if b=true then t D σ H1 else u D σ H1
def Kg{tc:TT}(hc:PT X c tc)(ha:FC X a t)(hb:FC X b u):PS X (.If c a b pos) (BG tc t u):=by
 refine λAA s σ H D I h=>wpAny_If<|AO (hc _ s σ H _ I h) λd s1 hzz=>?_;obtain⟨H1,I1,q1⟩:=hzz;cases d with
 |true=>exact ha _ s1 σ H1 D I1 q1
 |false=>exact hb _ s1 σ H1 D I1 q1
end
abbrev TG:=V->St->Hp->(St->Hp->Prop)->Prop
abbrev FR:=Tr->St->Hp->(St->Hp->Prop)->Prop
def PG(X:Cx)(target:Expr)(t:TG):Prop :=
 ∀ (AA:tN) (s:π) (σ:St) (H:Hp) (v:V) (u:Value) (Q:St->Hp->Prop),Inv X AA σ H s->RelV v u->t v σ H Q ->
  wpAny (model X.prog X.w) X.A (P_ target X.env u) (λ_ s'=>∃ σ' H',Inv X AA σ' H' s'/\Q σ' H') X.xe s
def HU(X:Cx)(ts:Vu)(t:FR):Prop :=
 ∀ (AA:tN) (s:π) (σ:St) (H:Hp) (vs:Tr) (us:Su) (Q:St->Hp->Prop),Inv X AA σ H s->Vals vs us->t vs σ H Q ->
  wpAny (model X.prog X.w) X.A (assignInOrder ((ul ts X.env).map (·.2)) us) (λ_ s'=>∃ σ' H',Inv X AA σ' H' s'/\Q σ' H') X.xe s
abbrev WN:=V->V->V->Hp->(Hp->Prop)->Prop
def WO(X:Cx)(t:WN):Prop :=
 ∀ (AA:tN) (s:π) (σ:St) (H:Hp) (o i v:V) (ov iv u:Value) (Q:Hp->Prop),Inv X AA σ H s->RelV o ov->RelV i iv->RelV v u->t o i v H Q ->
  wpAny (model X.prog X.w) X.A (Qa ov iv u) (λ_ s'=>∃ H',Inv X AA σ H' s'/\Q H') X.xe s
abbrev kL:=V->V->Hp->VK->Prop
section
variable{X:Cx}{pos:Pos}
def AF(i:Nat):TG:=λv σ H Q=>Q (σ.set i<|some v) H
def kM(hN:X.N.Nodup)(hi:X.N[i]? =some x)(hx:NI X.env.scope x)(hf:X.fn x=true\/X.env.scope.names.lookup x=some .local:=by first|exact .inl rfl|exact .inr rfl|assumption):PG X (.Name x pos) (AF i):=λAA s σ H v u Q I r h=>Gu<|kH I hN hi hx r (λs' I'=>x2 _ H ⟨I',h⟩) hf
def FD:FR:=λvs σ H Q=>vs=[]/\Q σ H
def DF(t:TG)(u:FR):FR:=λvs σ H Q=>∃ v r,vs=v::r/\t v σ H λσ' H'=>u r σ' H' Q
def Kh:HU X [] FD:=by
 rintro AA s σ H vs us Q I r ⟨rfl,h⟩;exact assignInOrder_nil<|x2 σ H ⟨I,h⟩
def Kj{e:Expr}{es:Vu}{t:TG}{u:FR}(h1:PG X e t)(h2:HU X es u)
  (hs:(ul (e::es) X.env).map (·.2)=P_ e X.env::(ul es X.env).map (·.2):=by rfl):HU X (e::es) (DF t u):=by
 intro AA s σ H vs us Q I r h;revert h;apply u2;rintro v vr ⟨rfl,h⟩;cases r with
 |cons r rr =>
  rw[hs];exact assignInOrder_cons (AO (h1 _ s σ H _ _ _ I r h) (by rintro z s1 ⟨σ1,H1,I1,q1⟩;exact(h2 _ s1 _ H1 _ _ Q I1 rr q1)))
def FE(K:μ)(n:Nat)(t:FR):TG:=λv σ H Q=>∃ a xs,v=.ref a/\SqT K H a xs/\xs.length=n/\t xs σ H Q
def Kk(hc:X.calm=true)(h:HU X es t)
  (hn:(ul es X.env).length=n:=by rfl) (hst:(ul es X.env).findIdx? (·.1)=none:=by rfl):PG X (.Tuple es k pos) (FE X.K n t):=by
 intro AA s σ H v u Q I r hw;revert hw;apply u2;rintro a xs ⟨rfl,hq,hl,hw⟩;subst r;obtain⟨AJ,rv,ht,hz⟩:=I.tuple hq;refine assign_Tuple_tuple (I.ok.hd hc) ht (by simp[hn,<-hl,rv.length]) hst λh' hx=>?_
 have I1:Inv X _ σ H { s with heap:=h' }:=I.kept  λb o e=>hx b o (bd<|av e) e;exact h _ _ σ H xs _ Q I1 (rv) hw
def NJ(to ti:TE)(t:WN):TG:=λv σ H Q=>to σ H λo H1=>ti σ H1 λi H2=>t o i v H2 λH3=>Q σ H3
def Kl{to ti:TE}{t:WN}(ho:PE X o to)(hi:PE X i ti)(hs:WO X t)
  (ha:∀ v,P_ (.Subscript o i pos) X.env v=(do
   let ov ← ux [v] (eval o X.env)
   let iv ← ux [v,ov] (eval i X.env)
   zu pos
   ux [v,ov,iv] (Qa ov iv v)
   release [v,ov,iv] []):=by intro z;rfl):PG X (.Subscript o i pos) (NJ to ti t):=λAA s σ H v u Q I r h=>δ (gb (AO (ho _ s σ H _ I h) (by rintro ov s1 ⟨x,H1,I1,r1,q1⟩;exact(δ (gb (AO (hi _ s1 σ H1 _ I1 q1) (by rintro iv s2 ⟨y,H2,I2,r2,q2⟩;exact(δ (y_ (δ (gb (AO (hs _ s2 σ H2 x y v ov iv u _ I2 r1 r2 r q2) (by rintro z s3 ⟨H3,I3,q3⟩;exact(wpAny_release<|x2 σ H3 ⟨I3,q3⟩))))))))))))))
def AQ(te:TE)(g:TG):TS:=λD σ H=>te σ H λx H1=>g x σ H1 D.nx
def Km{te:TE}(he:PE X e te)(hg:PG X tg g)(hs:swapsWithSole [tg] e pos.line X.env=pure false:=by rfl)(hw:swappedStores [tg] e X.env=pure none:=by rfl)
  (h1:(ul [tg] X.env).map (·.2)=[P_ tg X.env]:=by rfl):PS X (.Assign [tg] e pos) (AQ te g):=by
 refine λAA s σ H D I h=>wpAny_Assign_stores (AO (he _ s σ H _ I h) λv s1 hzz=>?_) hs hw;obtain⟨x,H1,I1,r1,q1⟩:=hzz;rw[h1];exact AO (hg _ s1 σ H1 x v _ I1 r1 q1) λz s2 q=>q
def kO{te:TE}(hN:X.N.Nodup)(hi:X.N[i]? =some x)(hx:NI X.env.scope x)(he:PE X e te)(hs:xl e (some<|.Name x pos') pos.line X.env=pure false:=by rfl)(hf:X.fn x=true\/X.env.scope.names.lookup x=some .local:=by first|exact .inl rfl|exact .inr rfl|assumption) :
  PS X (.Assign [.Name x pos'] e pos) (AQ te<|AF i):=λAA s σ H D I h=>wpAny_Assign_Name (AO (he _ s σ H _ I h) (by rintro v s1 ⟨y,H1,I1,r1,q1⟩;exact(kH I1 hN hi hx r1 (λs2 I2=>x2 _ H1 ⟨I2,q1⟩) hf))) hs
def Kp(f:Int->Int->Int):kL:=λx y H Q=>∃ i j,x=.int i/\y=.int j/\Q (.int<|f i j) H
end
section
variable{X:Cx}{pos:Pos}
end
structure It where
 go:Nat->Hp->Prop
 yld:Nat->Hp->V->Hp->Prop
 stop:Nat->Hp->Prop
def FpOk(X:Cx)(AA:tN)(H:Hp)(b:Addr):Prop :=
 H b=none/\b≠X.env.locals/\b∉X.fs/\(b∈X.ex\/X.s₀.heap.objs.size<=b)/\(∀ x c,X.env.cells.lookup x=some c->c≠b)/\∀ p∈X.pn++AA,p.1≠b
def Inv.fpOk(I:Inv X AA σ H s)(hb:s.heap.objs.size<=b)(hn:H' b=none):FpOk X AA H' b:=by
 refine{hn,g_<|aa I.lt hb,I.nofs hb,.inr<|ψ I.sz hb,λx c e z=>?_,λp hp z=>(absurd (aa (av (I.pin p hp).1) (by rw[z];exact hb)) (kd _))};obtain⟨v,q⟩:=I.cell x c e;exact absurd (aa q.lt (by rw[z];exact hb)) (kd _)
structure KW(P:bv)(w:World)(K:μ)(tg:Expr)(J:It)(fp:Uu)(it:Addr)(tn:Nat->Heap->Prop):Prop where
 mem:it∈fp
 obj:∀ i h,tn i h->∀ b∈fp,∃ o,h.get? b=some o/\∀ v,o.data≠.cell v
 keep:∀ i h h',tn i h->(∀ b∈fp,∀ o,h.get? b=some o->h'.get? b=some o)->tn i h'
 item:∀ (X:Cx),X.prog=P->X.w=w->X.K=K->X.calm=true->∀ (i:Nat) (AA:tN) (s:π) (σ:St) (H:Hp) (E:tV),Inv X AA σ H s->(∀ b∈fp,FpOk X AA H b)->tn i s.heap->J.go i H ->
  wpAny (model P w) X.A (za<|.ref it) (λr s1=>∃ u,r=some u /\
   wpAny (model P w) X.A (Ao tg (.ref it) u) (λ_ s2=>∃ x H',Inv X AA σ H' s2/\RelV x u/\J.yld i H x H'/\tn (i+1) s2.heap/\∀ b∈fp,H' b=none) E s1) E s
 done:∀ (X:Cx),X.prog=P->X.w=w->X.K=K->X.calm=true->∀ (i:Nat) (AA:tN) (s:π) (σ:St) (H:Hp) (E:tV),Inv X AA σ H s->(∀ b∈fp,FpOk X AA H b)->tn i s.heap->J.stop i H ->
  wpAny (model P w) X.A (za<|.ref it) (λr s1=>r=none/\Inv X AA σ H s1) E s
 self:∀ (A:dk) (i:Nat) (s:π) (Q:tV) (E:tV),tn i s.heap->Q (.ref it) s->wpAny (model P w) A (Bs<|.ref it) Q E s
abbrev TI:=St->Hp->(It->Hp->Prop)->Prop
def WP(X:Cx)(AA:tN)(σ:St)(tg:Expr)(R:It->Hp->Prop)(itv:Value)(s2:π):Prop :=
 ∃ (it:Addr) (fp:Uu) (tn:Nat->Heap->Prop) (J:It) (H':Hp),itv=.ref it/\Inv X AA σ H' s2/\KW X.prog X.w X.K tg J fp it tn/\tn 0 s2.heap/\(∀ b∈fp,FpOk X AA H' b)/\R J H'
def PI(X:Cx)(tg iter:Expr)(wi:TI):Prop :=
 ∀ (AA:tN) (s:π) (σ:St) (H:Hp) (R:It->Hp->Prop),Inv X AA σ H s->wi σ H R ->
  wpAny (model X.prog X.w) X.A (eval iter X.env) (λv s1=>wpAny (model X.prog X.w) X.A (Bs v) (WP X AA σ tg R) X.xe s1) X.xe s
def OY(ho:s.heap.get? it=some o)(hc:o.cls=.type n)(hd:o.data=.fields vs)
    (hn:["enumerate","zip","dict_itemiterator","dict_reverseitemiterator","odict_iterator","itertools.zip_longest","itertools.pairwise"].contains n=false) (hQ:Q () s):wpAny M A (Ao tg (.ref it) u) Q E s:=by
  cases tg<;>first
    |exact ν hQ
    | (cases u<;>first
        |exact ν hQ
        | (refine δ (Nt ho ?_)
           rw[hc,hd]
           show wpAny M A (if(["enumerate","zip","dict_itemiterator","dict_reverseitemiterator","odict_iterator","itertools.zip_longest","itertools.pairwise"].contains n&&vs[0]? == some _)=true then _ else _) Q E s;rw[if_neg (by intro h;rw[hn]at h;cases h)];exact ν hQ))
def GQ(K:μ)(a:Addr):It :=
 {λi H=>∃ xs x,SqL K H a xs/\xs[i]? =some x,λi H x H'=>H'=H/\∀ xs,SqL K H a xs->xs[i]? =some x,λi H=>∃ xs,SqL K H a xs/\xs.length<=i}
def IW(K:μ)(a:Addr):It :=
 {λi H=>∃ xs x,SqT K H a xs/\xs[i]? =some x,λi H x H'=>H'=H/\∀ xs,SqT K H a xs->xs[i]? =some x,λi H=>∃ xs,SqT K H a xs/\xs.length<=i}
def FS(lo:Int)(n:Nat):It:={λi _=>i<n,λi H x H'=>H'=H/\x=.int (lo+i),λi _=>n<=i}
def Kq{P:bv}{w:World}{K:μ}{tg:Expr}(a it:Addr):KW P w K tg (GQ K a) [it] it (λi h=>h.IsListIter it a i) where
 mem:=by simp
 obj:=λi h st b hb=>by
  have e:b=it:=by simpa using hb
  subst e;obtain⟨o,e,c,d⟩:=st;exact{o,e,λv z=>by rw[d]at z;cases z}
 keep:=λi h h' st k=>st.at λo e=>k it (by simp) o e
 item:=by
  intro X hP hw hK hc i AA s σ H E I hf st hg;subst hP hw hK;revert hg;apply u2;rintro xs x ⟨hq,hx⟩;obtain⟨AJ,rv,p,hz⟩:=I.list hq;obtain⟨f0,f1,f2,f3,f4,f5⟩:=hf it (by simp);obtain⟨u,hu,ru⟩:=rv.get hx;refine wpAny_pyNext_list_item st p.isList  (by simpa using hu) λh' st' sb=>?_
  have I1:Inv X _ σ H { s with heap:=h' }:=I.turned  (λb o hb e=>(sb.2 b hb).trans e) f0 f1 f3 f4 f5;obtain⟨o,e,c,d⟩:=id st';exact{u,rfl,OY  e c d (by decide) (x2 x H {I1,ru,{rfl,λys hy=>by rw[I.list_inj hy hq];exact hx},st',λb hb=>(hf b hb).1})}
 done:=by
  rintro X hP hw hK hc i AA s σ H E I hf st ⟨xs,hq,hx⟩;subst hP hw hK;obtain⟨AJ,rv,p,hz⟩:=I.list hq;obtain⟨f0,f1,f2,f3,f4,f5⟩:=hf it (by simp);exact wpAny_pyNext_list_end (I.ok.hd hc) st p.isList (by simp;exact rv.length ▸ hx) λh' eb=>{rfl,I.turned  (λb o hb e=>eb b o hb e) f0 f1 f3 f4 f5}
 self:=λy y y y y st h=>wpAny_pyIter_listiter st h
def Kv{P:bv}{w:World}{K:μ}{tg:Expr}(a it:Addr):KW P w K tg (IW K a) [it] it (λi h=>h.IsTupleIter it a i) where
 mem:=by simp
 obj:=λi h st b hb=>by
  have e:b=it:=by simpa using hb
  subst e;obtain⟨o,e,c,d⟩:=st;exact{o,e,λv z=>by rw[d]at z;cases z}
 keep:=λi h h' st k=>st.at λo e=>k it (by simp) o e
 item:=by
  intro X hP hw hK hc i AA s σ H E I hf st hg;subst hP hw hK;revert hg;apply u2;rintro xs x ⟨hq,hx⟩;obtain⟨AJ,rv,p,hz⟩:=I.tuple hq;obtain⟨f0,f1,f2,f3,f4,f5⟩:=hf it (by simp);obtain⟨u,hu,ru⟩:=rv.get hx;refine wpAny_pyNext_tuple_item st (p)  (by simpa using hu) λh' st' sb=>?_
  have I1:Inv X _ σ H { s with heap:=h' }:=I.turned  (λb o hb e=>(sb.2 b hb).trans e) f0 f1 f3 f4 f5;obtain⟨o,e,c,d⟩:=id st';exact{u,rfl,OY  e c d (by decide) (x2 x H {I1,ru,{rfl,λys hy=>by rw[I.tuple_inj hy hq];exact hx},st',λb hb=>(hf b hb).1})}
 done:=by
  rintro X hP hw hK hc i AA s σ H E I hf st ⟨xs,hq,hx⟩;subst hP hw hK;obtain⟨AJ,rv,p,hz⟩:=I.tuple hq;obtain⟨f0,f1,f2,f3,f4,f5⟩:=hf it (by simp);exact wpAny_pyNext_tuple_end (I.ok.hd hc) st (p) (by simp;exact rv.length ▸ hx) λh' eb=>{rfl,I.turned  (λb o hb e=>eb b o hb e) f0 f1 f3 f4 f5}
 self:=λy y y y y st h=>wpAny_pyIter_tupleiter st h
def Kw{P:bv}{w:World}{K:μ}{tg:Expr}(it:Addr)(lo:Int)(n:Nat):KW P w K tg (FS lo n) [it] it (λi h=>IsRangeIter h it (lo+(i:Nat) * 1) ((n:Int) - (i:Nat)) 1) where
 mem:=by simp
 obj:=λi h st b hb=>by
  have e:b=it:=by simpa using hb
  subst e;exact⟨_,st,λv z=>by
   cases z⟩
 keep:=λi h h' st k=>k it (by simp) _ st
 item:=by
  intro X hP hw hK hc i AA s σ H E I hf st hg;obtain⟨f0,f1,f2,f3,f4,f5⟩:=hf it (by simp);refine(Walks.range   (I.ok.hd hc) it lo 1 n).item i s _ _ hg st λv h' tk hv st' kk=>?_;obtain⟨t,rfl⟩:=hv
  have I1:Inv X _ σ H { s with heap:=h',toks:=tk }:=I.turned (λb o hb e=>kk b o (by simpa using hb) e) f0 f1 f3 f4 f5;refine{_,rfl,OY   st' rfl rfl (by decide) (x2 (.int _) H {I1,{t,?_},⟨rfl,rfl⟩,st',λb hb=>(hf b hb).1})};rw[Int.mul_one]
 done:=by
  intro X hP hw hK hc i AA s σ H E I hf st hg;obtain⟨f0,f1,f2,f3,f4,f5⟩:=hf it (by simp);exact wpAny_pyNext_range_end (I.ok.hd hc) st (by have:n<=i:=hg;lia) λh' eb=>{rfl,I.turned  (λb o hb e=>eb b o hb e) f0 f1 f3 f4 f5}
 self:=λy y y y y st h=>wpAny_pyIter_rangeiter st h
section
variable{X:Cx}{tg:Expr}
def Kx{AA:tN}{σ:St}{H:Hp}{s:π}{R:It->Hp->Prop}{E:tV}{lo hi:Int}{t u v:Tok}{tk:Nat}(I:Inv X AA σ H s)(h1: -(2^62)<=lo)(h2:lo<2^62)(h3: -(2^62)<=hi)(h4:hi<2^62)
  (q:R (FS lo (hi-lo).toNat) H):wpAny (model X.prog X.w) X.A (Bs<|.ref s.heap.objs.size) (WP X AA σ tg R) E { s with heap:=s.heap.push { cls:=.type "range",data:=.fields #[.int lo t,.int hi u,.int 1 v] },toks:=tk }:=by
 refine wpAny_pyIter_range (IsRange.new ..) (small_one h1 h2 h3 h4) ?_
 have I1:Inv X _ σ H { s with heap:=s.heap.push { cls:=.type "range",data:=.fields #[.int lo t,.int hi u,.int 1 v] },toks:=tk }:=I.kept λb o e=>ξ _ e;refine⟨_,_,_,_,H,rfl,
  I1.kept  λb o e=>ξ _ e,Kw _ lo _,?_,λb hb=>?_,q⟩
 have e1:lo+((0:Nat))*1=lo:=by simp
 have e2:(((hi-lo).toNat))-((0:Nat))=Ox lo hi 1:=by rw[rangeSize_one];split<;>omega
 rw[e1,e2];exact aj _ rfl
 have e:b=(s.heap.push { cls:=.type "range",data:=.fields #[.int lo t,.int hi u,.int 1 v] }).objs.size:=by simpa using hb
 subst e;exact I1.fpOk (υ _) (I1.hok.fresh<|υ _)
def SG(ta:TA):TI:=λσ H R=>ta σ H λvs H1=>∃ j:Int,vs=[.int j]/\ -(2^62)<=j/\j<2^62/\R (FS 0 j.toNat) H1
def Ky{a:Expr}{ta:TA}{p pos:Pos}(hg:Gl X "range")(hm:X.mg "range"=none)(ha:PA X [a] ta)(hs:a_ [a] X.env=[(false,eval a X.env)]:=by rfl):PI X tg (.Call (.Name "range" p) [a] [] pos) (SG ta):=by
 refine λAA s σ H R I h=>Call_<|SE I hg hm boot_range<|pi (AO (ha _ _ s σ H _ I h) λus s1 hzz=>?_) hs rfl;obtain⟨vs,H1,I1,r1,⟨j,rfl,q1,q2,q⟩⟩:=hzz;cases r1 with
 |cons r rr =>
  cases rr;obtain⟨t,rfl⟩:=r;exact call_range_1 (Kx I1 (by decide) (by decide) q1 q2 (by simpa using q))
def DG(wi:TI)(g:TG)(tb:TS):TS:=λD σ H=>wi σ H λJ H1=>∃ W:Nat->Nat->St->Hp->Prop,(∃ m,W 0 m σ H1)/\∀ i m σ H,W i m σ H ->
 (J.stop i H/\D.nx σ H)\/(J.go i H/\∃ N:St->Hp->Prop,(∀ σ' H',N σ' H'->∃ m',m'<m/\W (i+1) m' σ' H')/\∀ x H',J.yld i H x H'->g x σ H' λσ2 H2=>tb { D with nx:=N,ct:=N,bk:=D.nx } σ2 H2)
def OZ(fp:Uu)(h:Heap):tN:=fp.filterMap λb=>(h.get? b).map λo=>(b,o)
def NK(hb:b∈fp)(e:h.get? b=some o):(b,o)∈OZ fp h:=jj.mpr {b,hb,by rw[e];rfl}
def Kz(hp:p∈OZ fp h):p.1∈fp/\h.get? p.1=some p.2:=by
 obtain⟨b,hb,e⟩:=jj.mp hp;cases q:h.get? b with
 |none=>rw[q]at e;cases e
 |some o =>
  rw[q]at e
  have e':=ι e;subst e';exact⟨hb,q⟩
def Inv.pinned(I:Inv X AA σ H s)(hf:∀ b∈fp,FpOk X AA H b)(ho:∀ b∈fp,∃ o,s.heap.get? b=some o/\∀ v,o.data≠.cell v):Inv X (AA++OZ fp s.heap) σ H s :=
 I.pins_of λp hp=>(ao.mp hp).elim (λz=>I.pin p<|bh _ z) λz=>by
  obtain⟨hb,e⟩:=Kz z;obtain⟨f0,f1,f2,y⟩:=hf _ hb;obtain⟨o,e',d⟩:=ho _ hb;rw[e]at e';obtain rfl:=ι e';exact⟨e,f0,f1,f2,d⟩
def Inv.unpinned(I:Inv X (AA++pl) σ H s):Inv X AA σ H s:=I.pins_of λp hp=>I.pin p<|bh _<|cf _ hp
def Lb(hp:Oy (model X.prog X.w) X.A X.env X.xe)(hc:X.calm=true)(hi:PI X tg iter wi)(hg:PG X tg g)(hb:FC X body tb)
  (hs:∀ x,iz iter X.env x=pure x:=by intro z;rfl):PS X (.For tg iter body [] pos) (DG wi g tb):=by
 refine λAA s σ H D I h=>wpAny_For (AO (hi _ s σ H _ I h) λv s1 h1=>AO h1 λitv s2 h2=>?_) hs;revert h2;apply u5;rintro it fp tn J H2 ⟨rfl,I2,T,st2,f2,W,⟨m0,w0⟩,turn⟩
 have stat:∀ {H':Hp},(∀ b∈fp,H' b=none)->∀ b∈fp,FpOk X _ H' b:=λhn b hb=>{hn b hb,(f2 b hb).2}
 refine Ea (λn s'=>∃ i σ' H',Inv X _ σ' H' s'/\tn i s'.heap/\(∀ b∈fp,H' b=none)/\W i n σ' H') ?_ m0 (x3 0 σ H2 {I2,st2,λb hb=>(f2 b hb).1,w0});rintro n s3 ⟨i,σ3,H3,I3,st3,fr3,w3⟩;rcases turn i n _ H3 w3 with⟨stop,qn⟩|⟨go,N,hN,step⟩
 refine il hp<|AO (T.done X rfl rfl rfl hc i _ s3 _ H3 _ I3 (stat fr3) st3 stop) λr s4 hzz=>?_;obtain⟨rfl,I4⟩:=hzz;exact t9<|x2 _ H3 ⟨I4,qn⟩;refine il hp<|AO (T.item X rfl rfl rfl hc i _ s3 _ H3 _ I3 (stat fr3) st3 go) λr s4 hzz=>?_;obtain⟨u,rfl,h4⟩:=hzz;refine il hp<|AO h4 λz s5 hzz=>?_;obtain⟨x,H5,I5,r5,y5,st5,fr5⟩:=hzz;refine il hp<|AO (hg _ s5 _ H5 x u _ (I5.pinned (stat fr5) (T.obj _ _ st5)) r5 (step x H5 y5)) λz s6 ⟨σ6,H6,I6,q6⟩=>(il hp<|AO (hb _ s6 _ H6 _ I6 q6) λf s7 q7=>?_)
 have again:∀ {σ7:St} {H7:Hp},Inv X _ _ H7 s7->N _ H7->∃ m,m<n/\∃ i σ' H',Inv X AA σ' H' s7/\tn i _/\(∀ b∈fp,H' b=none)/\W i m σ' H':=λ{σ7 H7} I7 n7=>by
  obtain⟨m',hm,w7⟩:=hN _ H7 n7;refine{m',hm,x3 _ σ7 H7 {I7.unpinned,T.keep _ _ _ st5 λb hb o e=>(I7.pin _<|bh _<|bh _<|NK hb e).1,λb hb=>?_,w7}};obtain⟨o,e,d⟩:=T.obj _ _ st5 b hb;exact(I7.pin _<|bh _<|bh _<|NK hb e).2.1
 cases f with
 |next=>revert q7;apply u2;rintro σ7 H7 ⟨I7,n7⟩;exact again I7 n7
 |cont=>revert q7;apply u2;rintro σ7 H7 ⟨I7,n7⟩;exact again I7 n7
 |brk=>revert q7;apply u2;rintro σ7 H7 ⟨I7,q7⟩;exact x2 _ H7 ⟨I7.unpinned,q7⟩
 |ret v=>revert q7;apply u3;rintro x7 σ7 H7 ⟨I7,r7,q7⟩;exact x3 x7 _ H7 ⟨I7.unpinned,r7,q7⟩
end
abbrev _root_.tR:=Nat->St->Hp->Prop
def Lc{K:PySem.W.Frag}{a:Addr}{xs:Tr}{g:TG}{tb:TS}{D:Ends}{σ:St}{H:Hp}(Pv:tR)(h0:Pv 0 σ H)(hl:∀ i σ H,i<=xs.length->Pv i σ H->SqL K H a xs)
  (hs:∀ i x σ H,xs[i]? =some x->Pv i σ H->g x σ H λσ2 H2=>tb { D with nx:=Pv<|i+1,ct:=Pv<|i+1,bk:=D.nx } σ2 H2) (hd:∀ σ H,Pv xs.length σ H->D.nx σ H) :
  ∃ W:Nat->Nat->St->Hp->Prop,(∃ m,W 0 m σ H)/\∀ i m σ H,W i m σ H ->
   ((GQ K a).stop i H/\D.nx σ H)\/((GQ K a).go i H/\∃ N:St->Hp->Prop,(∀ σ' H',N σ' H'->∃ m',m'<m/\W (i+1) m' σ' H')/\∀ x H',(GQ K a).yld i H x H'->g x σ H' λσ2 H2=>tb { D with nx:=N,ct:=N,bk:=D.nx } σ2 H2):=by
 refine{λi m σ H=>m=xs.length-i/\i<=xs.length/\Pv i σ H,{xs.length,rfl,bu _,h0},?_};rintro i m σ H ⟨rfl,hi,p⟩
 have q:=hl i σ H hi p;by_cases A0:i<xs.length;refine .inr {x2 xs (xs[i]) {q,by simp[A0]},_,λσ' H' p'=>{_,cq ‹_›,rfl,A0,p'},λx H' y=>?_};obtain⟨rfl,y⟩:=y;exact hs i x σ _ (y xs q) p
 have e:i=xs.length:=by lia
 subst e;exact .inl {{xs,q,υ _},hd σ H p}
def Ld{K:PySem.W.Frag}{a:Addr}{xs:Tr}{g:TG}{tb:TS}{D:Ends}{σ:St}{H:Hp}(Pv:tR)(h0:Pv 0 σ H)(hl:∀ i σ H,i<=xs.length->Pv i σ H->SqT K H a xs)
  (hs:∀ i x σ H,xs[i]? =some x->Pv i σ H->g x σ H λσ2 H2=>tb { D with nx:=Pv<|i+1,ct:=Pv<|i+1,bk:=D.nx } σ2 H2) (hd:∀ σ H,Pv xs.length σ H->D.nx σ H) :
  ∃ W:Nat->Nat->St->Hp->Prop,(∃ m,W 0 m σ H)/\∀ i m σ H,W i m σ H ->
   ((IW K a).stop i H/\D.nx σ H)\/((IW K a).go i H/\∃ N:St->Hp->Prop,(∀ σ' H',N σ' H'->∃ m',m'<m/\W (i+1) m' σ' H')/\∀ x H',(IW K a).yld i H x H'->g x σ H' λσ2 H2=>tb { D with nx:=N,ct:=N,bk:=D.nx } σ2 H2):=by
 refine{λi m σ H=>m=xs.length-i/\i<=xs.length/\Pv i σ H,{xs.length,rfl,bu _,h0},?_};rintro i m σ H ⟨rfl,hi,p⟩
 have q:=hl i σ H hi p;by_cases A0:i<xs.length;refine .inr {x2 xs (xs[i]) {q,by simp[A0]},_,λσ' H' p'=>{_,by omega,rfl,A0,p'},λx H' y=>?_};obtain⟨rfl,y⟩:=y;exact hs i x σ _ (y xs q) p
 have e:i=xs.length:=by lia
 subst e;exact .inl {{xs,q,υ _},hd σ H p}
def Lg{lo:Int}{n:Nat}{g:TG}{tb:TS}{D:Ends}{σ:St}{H:Hp}(Pv:tR)(h0:Pv 0 σ H)
  (hs:∀ i σ H,i<n->Pv i σ H->g (.int<|lo+i) σ H λσ2 H2=>tb { D with nx:=Pv<|i+1,ct:=Pv<|i+1,bk:=D.nx } σ2 H2) (hd:∀ σ H,Pv n σ H->D.nx σ H) :
  ∃ W:Nat->Nat->St->Hp->Prop,(∃ m,W 0 m σ H)/\∀ i m σ H,W i m σ H ->
   ((FS lo n).stop i H/\D.nx σ H)\/((FS lo n).go i H/\∃ N:St->Hp->Prop,(∀ σ' H',N σ' H'->∃ m',m'<m/\W (i+1) m' σ' H')/\∀ x H',(FS lo n).yld i H x H'->g x σ H' λσ2 H2=>tb { D with nx:=N,ct:=N,bk:=D.nx } σ2 H2):=by
 refine{λi m σ H=>m=n-i/\i<=n/\Pv i σ H,{n,rfl,bu _,h0},?_};rintro i m σ H ⟨rfl,hi,p⟩;by_cases A0:i<n;refine .inr {A0,_,λσ' H' p'=>{_,cq ‹_›,rfl,A0,p'},λx H' y=>?_};obtain⟨e,y⟩:=y;subst e y;exact hs i σ _ A0 p
 have e:i=n:=by lia
 subst e;exact .inl {υ _,hd σ H p}
abbrev R2:=V->V->Hp->VK->Prop
abbrev _root_.rG:=Value->Value->Sem Value
def BT(X:Cx)(f:rG)(r:R2):Prop :=
 ∀ (AA:tN) (s:π) (σ:St) (H:Hp) (x y:V) (v u:Value) (Q:VK),Inv X AA σ H s->RelV x v->RelV y u->r x y H Q ->
  wpAny (model X.prog X.w) X.A (f v u) (EP X AA σ Q) X.xe s
def SH(X:Cx)(f:Value->Sem Value)(r:V->Hp->VK->Prop):Prop :=
 ∀ (AA:tN) (s:π) (σ:St) (H:Hp) (x:V) (v:Value) (Q:VK),Inv X AA σ H s->RelV x v->r x H Q ->
  wpAny (model X.prog X.w) X.A (f v) (EP X AA σ Q) X.xe s
def DT(X:Cx)(f:Value)(r:Tr->Hp->VK->Prop):Prop :=
 ∀ (AA:tN) (s:π) (σ:St) (H:Hp) (xs:Tr) (us:Su) (Q:VK),Inv X AA σ H s->Vals xs us->r xs H Q ->
  wpAny (model X.prog X.w) X.A (call f us) (EP X AA σ Q) X.xe s
def Lh(X:Cx)(r:V->Hp->(Bool->Hp->Prop)->Prop):Prop :=
 ∀ (AA:tN) (s:π) (σ:St) (H:Hp) (x:V) (v:Value) (Q:tX),Inv X AA σ H s->RelV x v->r x H Q ->
  wpAny (model X.prog X.w) X.A (truthy v) (TP X AA σ Q) X.xe s
def AD(r:R2)(ta tb:TE):TE:=λσ H Q=>ta σ H λx H1=>tb σ H1 λy H2=>r x y H2 Q
def O0(r:V->Hp->VK->Prop)(ta:TE):TE:=λσ H Q=>ta σ H λx H1=>r x H1 Q
def rI(C:Int->Int->Prop)(g:Int->Int->V):R2:=λx y H Q=>∃ i j,x=.int i/\y=.int j/\C i j/\Q (g i j) H
def JX(g:Int->Int->V):R2:=λx y H Q=>∃ i j,x=.int i/\y=.int j/\Q (g i j) H
def rU(g:Int->V):V->Hp->VK->Prop:=λx H Q=>∃ i,x=.int i/\Q (g i) H
section
variable{X:Cx}{a b c:Expr}{ta tb tc:TE}{pos:Pos}
def WQ(ha:PE X a ta)(hb:PE X b tb){R:V->V->Hp->Prop}(I:Inv X AA σ H s)
  (h:ta σ H λx H1=>tb σ H1 λy H2=>R x y H2) {Q:tV} {f:rG}
  (hf:∀ v u s2 x y H2,Inv X AA σ H2 s2->RelV x v->RelV y u->R x y H2->wpAny (model X.prog X.w) X.A (f v u) Q X.xe s2) :
  wpAny (model X.prog X.w) X.A (eval a X.env) (λv s₁=>wpAny (model X.prog X.w) X.A (eval b X.env) (λu s₂=>wpAny (model X.prog X.w) X.A (f v u) Q X.xe s₂) X.xe s₁) X.xe s:=AO (ha _ s σ H _ I h) λv s1 ⟨x,H1,I1,r1,q1⟩=>(AO (hb _ s1 σ H1 _ I1 q1) λu s2 ⟨y,H2,I2,r2,q2⟩=>(hf v u s2 x y H2 I2 r1 r2 q2))
def O1{r:R2}(ho:BT X (jh op) r)(ha:PE X a ta)(hb:PE X b tb):PE X (.BinOp a op b pos) (AD r ta tb):=λAA s σ H Q I h=>wpAny_BinOp<|WQ ha hb I h λv u s2 x y H2 I2 rx ry q=>ho _ s2 σ H2 x y v u Q I2 rx ry q
def Lj(ho:SH X (unaryOp op) r)(ha:PE X a ta):PE X (.UnaryOp op a pos) (O0 r ta):=λAA s σ H Q I h=>UnaryOp_ (AO (ha _ s σ H _ I h) (by rintro v s1 ⟨x,H1,I1,r1,q1⟩;exact ho _ s1 σ H1 x v Q I1 r1 q1))
def WR{f:rG}{C:Int->Int->Prop}{g:Int->Int->Int}
  (rule:∀ (i j:Int) (t u:Tok) (s:π) (Q:tV) (E:tV),C i j->Q (.int (g i j) s.toks) { s with toks:=s.toks+1 }->wpAny (model X.prog X.w) X.A (f (.int i t) (.int j u)) Q E s) :
  BT X f (rI C λi j=>.int<|g i j):=by
 intro AA s σ H x y v u Q I rx ry h;revert h;apply u2;rintro i j ⟨rfl,rfl,hc,q⟩;obtain⟨t,rfl⟩:=rx;obtain⟨t',rfl⟩:=ry;exact rule i j t t' s _ _ hc<|x2 (.int _) H {I.tok _,⟨_,rfl⟩,q}
def kP{f:rG}{g:Int->Int->Int}
  (rule:∀ (i j:Int) (t u:Tok) (s:π) (Q:tV) (E:tV),Q (.int (g i j) s.toks) { s with toks:=s.toks+1 }->wpAny (model X.prog X.w) X.A (f (.int i t) (.int j u)) Q E s) :
  BT X f (JX λi j=>.int<|g i j):=by
 intro AA s σ H x y v u Q I rx ry h;revert h;apply u2;rintro i j ⟨rfl,rfl,q⟩;obtain⟨t,rfl⟩:=rx;obtain⟨t',rfl⟩:=ry;exact rule i j t t' s _ _<|x2 (.int _) H {I.tok _,⟨_,rfl⟩,q}
def WS{f:rG}{g:Int->Tu}
  (rule:∀ (i j:Int) (t u:Tok) (s:π) (Q:tV) (E:tV),Q (.bool<|g i j) s->wpAny (model X.prog X.w) X.A (f (.int i t) (.int j u)) Q E s) :
  BT X f (JX λi j=>.bl<|g i j):=by
 intro AA s σ H x y v u Q I rx ry h;revert h;apply u2;rintro i j ⟨rfl,rfl,q⟩;obtain⟨t,rfl⟩:=rx;obtain⟨t',rfl⟩:=ry;exact rule i j t t' s _ _<|x2 (.bl _) H ⟨I,rfl,q⟩
def kQ(i j:Int):Prop:=0<j/\j<1073741824
def Ll(i j:Int):Prop:=0<=j/\j<=1000000/\i.natAbs<2^64
def CMul(i j:Int):Prop:=(-(2^64)<i/\i<2^64)\/(-(2^64)<j/\j<2^64)
def CMul.ok(h:CMul i j):IntMulOk i j:=by
 rcases h with⟨h1,h2⟩|⟨h1,h2⟩
 exact .of_left<|intBits_le_64 h1 h2;exact .of_right<|intBits_le_64 h1 h2
def Lm:BT X (jh .Add) (JX λi j=>.int<|i+j):=kP λz z z z z z z q=>add_int q
def Lp:BT X (jh .Sub) (JX λi j=>.int<|i-j):=kP λz z z z z z z q=>sub_int q
def Lq:BT X (jh .Mult) (rI CMul λi j=>.int<|i*j):=WR λz z z z z z z hc q=>mul_int q hc.ok
def Lw:BT X (jh .FloorDiv) (rI kQ λi j=>.int<|i/j):=WR λi j z z z z z hc q=>by
 have h1:=hc.1
 have h2:=hc.2;exact floordiv_int (by omega) (by rw[Int.fdiv_eq_ediv_of_nonneg i (Qe ‹_›)];exact q) (.inl (PyProof.noPylong_small (by omega)))
def Lx:BT X (jh .Mod) (rI (λ_ j=>0<j) λi j=>.int<|i%j):=WR λi j z z z z z hc q=>mod_int' (by lia) (by rw[Int.fmod_eq_emod_of_nonneg i (Qe ‹_›)];exact q)
def Ly{f:Value->Sem Value}{g:Int->Int}
  (rule:∀ (i:Int) (t:Tok) (s:π) (Q:tV) (E:tV),Q (.int (g i) s.toks) { s with toks:=s.toks+1 }->wpAny (model X.prog X.w) X.A (f<|.int i t) Q E s) :
  SH X f (rU λi=>.int<|g i):=by
 rintro AA s σ H x v Q I rx ⟨i,rfl,q⟩;obtain⟨t,rfl⟩:=rx;exact rule i t s _ _<|x2 (.int _) H {I.tok _,⟨_,rfl⟩,q}
def Lz:SH X (unaryOp .USub) (rU λi=>.int (-i)):=Ly λz z z z z q=>neg_int q
end
section
variable{X:Cx}{a b c:Expr}{ta tb tc:TE}{pos:Pos}
def GB(I:Inv X AA σ H s)(q:Q (.bl k) H)(e:k=k'):EP X AA σ Q (.bool k') s:=by
 subst e;exact x2 (.bl k) H ⟨I,rfl,q⟩
def Mb:BT X (dt .Lt) (JX λi j=>.bl<|decide<|i<j):=WS λz z z z z z z q=>lt_int q
def Mc:BT X (dt .LtE) (JX λi j=>.bl<|decide<|i<=j):=WS λz z z z z z z q=>le_int q
def Mg:BT X (dt .Gt) (JX λi j=>.bl<|decide<|j<i):=WS λz z z z z z z q=>gt_int q
def Mh:BT X (dt .Is) (λx y H Q=>y=.non/\Q (.bl<|decide<|x=.non) H):=by
 rintro AA s σ H x y v u Q I rx ry ⟨rfl,q⟩;subst ry;refine is_none_gen<|GB I q ?_;cases x<;>first
  |(rfl)
  |(obtain⟨t,rfl⟩:=rx;rfl)
def Mj:BT X (dt .IsNot) (λx y H Q=>y=.non/\Q (.bl<|!decide (x=.non)) H):=by
 rintro AA s σ H x y v u Q I rx ry ⟨rfl,q⟩;subst ry;refine isnot_none_gen<|GB I q ?_;cases x<;>first
  |(rfl)
  |(obtain⟨t,rfl⟩:=rx;rfl)
def JY(b:Expr)(h:op≠.In:=by decide)(h2:op≠.NotIn:=by decide):lm op b=false:=by
 have e1:(op==CmpOp.In)=false:=by cases op<;>first|rfl|exact absurd rfl h
 have e2:(op==Qo)=false:=by cases op<;>first|rfl|exact absurd rfl h2
 cases b<;>simp[lm,e1,e2]
def WT{r:R2}(ho:BT X (dt op) r)(ha:PE X a ta)(hb:PE X b tb)(hm:lm op b=false):PE X (.Compare a [op] [b] pos) (AD r ta tb):=λAA s σ H Q I h=>wpAny_Compare1 (WQ ha hb I h λv u s2 x y H2 I2 rx ry q=>ho _ s2 σ H2 x y v u Q I2 rx ry q) hm
def L8(t:TE):TT:=λσ H Q=>t σ H λx H'=>∃ k,x=.bl k/\Q k H'
def JZ(ho:BT X (dt op) r)(ha:PE X a ta)(hb:PE X b tb)(hm:lm op b=false):PT X (.Compare a [op] [b] pos) (L8<|AD r ta tb):=by
 intro AA s σ H Q I h;refine Ba (AO (ha _ s σ H _ I h) λv s1 ⟨x,H1,I1,r1,q1⟩=>AO (hb _ s1 σ H1 _ I1 q1) λu s2 ⟨y,H2,I2,r2,q2⟩ =>
  AO (ho _ s2 σ H2 x y v u _ I2 r1 r2 q2) λc s3 hzz=>?_) hm
 obtain⟨z,H3,I3,r3,k,e,q3⟩:=hzz;subst e;subst r3;exact iy ⟨H3,I3,q3⟩
def L9(r r':R2)(ta tb tc:TE):TE:=λσ H Q=>ta σ H λx H1=>tb σ H1 λy H2=>r x y H2 λz H3=>∃ k,z=.bl k /\
 (if k=true then tc σ H3 λw' H4=>r' y w' H4 Q else Q (.bl false) H3)
def Ml(ho:BT X (dt op) r)(ho':BT X (dt op') r')(ha:PE X a ta)(hb:PE X b tb)(hc:PE X c tc)
  (hm:lastMarks [op,op'] [b,c]=false:=by with_unfolding_all rfl):PE X (.Compare a [op,op'] [b,c] pos) (L9 r r' ta tb tc):=by
 intro AA s σ H Q I h;refine Compare_chain (AO (ha _ s σ H _ I h) λv s1 ⟨x,H1,I1,r1,q1⟩=>chain_link (AO (hb _ s1 σ H1 _ I1 q1) λu s2 ⟨y,H2,I2,r2,q2⟩ =>
  AO (ho _ s2 σ H2 x y v u _ I2 r1 r2 q2) λd s3 hzz=>?_)) hm
 obtain⟨z,H3,I3,r3,k,e,q3⟩:=hzz;subst e;subst r3;refine iy ?_;cases k with
 |false=>exact ite_ff<|x2 (.bl _) H3 ⟨I3,rfl,q3⟩
 |true=>exact ite_tt (chain_last (AO (hc _ s3 σ H3 _ I3 q3) (by rintro w' s4 ⟨z',H4,I4,r4,q4⟩;exact ho' _ s4 σ H4 y z' u w' Q I4 r2 r4 q4)))
def Mm(ho:BT X (dt op) r)(ho':BT X (dt op') r')(ha:PE X a ta)(hb:PE X b tb)(hc:PE X c tc)
  (hm:lastMarks [op,op'] [b,c]=false:=by with_unfolding_all rfl):PT X (.Compare a [op,op'] [b,c] pos) (L8<|L9 r r' ta tb tc):=by
 intro AA s σ H Q I h;refine isTrue_chain (AO (ha _ s σ H _ I h) λv s1 ⟨x,H1,I1,r1,q1⟩=>test_link (AO (hb _ s1 σ H1 _ I1 q1) λu s2 ⟨y,H2,I2,r2,q2⟩ =>
  AO (ho _ s2 σ H2 x y v u _ I2 r1 r2 q2) λd s3 hzz=>?_)) hm
 obtain⟨z,H3,I3,r3,k,e,q3⟩:=hzz;subst e;subst r3;refine iy ?_;cases k with
 |false =>
  obtain⟨k',e',q'⟩:=q3;cases e';exact ite_ff ⟨H3,I3,q'⟩
 |true =>
  refine ite_tt<|test_last<|AO (hc _ s3 σ H3 _ I3 q3) λw' s4 ⟨z',H4,I4,r4,q4⟩=>AO (ho' _ s4 σ H4 y z' u w' _ I4 r2 r4 q4) λd' s5 hzz=>?_;obtain⟨z2,H5,I5,r5,k2,rfl,q5⟩:=hzz;subst r5;exact iy ⟨H5,I5,q5⟩
def KY(K:μ)(x:V)(H:Hp)(k:Bool):Prop :=
 match x with
 |.non=>k=false
 |.bl b=>k=b
 |.int i=>k=(i != 0)
 |.str y=>y.length<=sizeLine/\k=((y.length:Int) != 0)
 |.byt y=>y.size<=sizeLine/\k=((y.size:Int) != 0)
 |.ref p=>(∃ xs,SqL K H p xs/\k= !xs.isEmpty)\/(∃ xs,SqT K H p xs/\k= !xs.isEmpty)\/∃ kvs,H p=some (.dK kvs)/\k= !kvs.isEmpty
 |_=>False
def Mp{κ :Type}{kvs:List (κ × V)}{vs:List (κ × Value)}(r:KV kvs vs):(!vs.isEmpty)= !kvs.isEmpty:=by
 cases r<;>rfl
def kR{xs:Tr}{AJ:Su}(r:Vals xs AJ):(!AJ.toArray.isEmpty)= !xs.isEmpty:=by
 cases r<;>simp
def O2:(sizeLine:Nat)<2^63:=by decide
def Mq:Lh X (λx H Q=>∃ k,KY X.K x H k/\Q k H):=by
 have hs:=qt;rintro AA s σ H x v Q I rx ⟨k,e,q⟩;cases x with
 |non =>
  subst e;subst rx;exact truthy_none ⟨H,I,q⟩
 |bl b =>
  subst rx;subst e;exact iy ⟨H,I,q⟩
 |int i =>
  obtain⟨t,rfl⟩:=rx;subst e;exact PySem.P.truthy_int ⟨H,I,q⟩
 |str y =>
  obtain⟨t,rfl⟩:=rx;obtain⟨hy,e'⟩:y.length<=sizeLine/\k=((y.length:Int) != 0):=e;subst e';exact PySem.P.truthy_str (by omega) {H,I.tok _,q}
 |byt y =>
  obtain⟨t,rfl⟩:=rx;obtain⟨hy,e'⟩:y.size<=sizeLine/\k=((y.size:Int) != 0):=e;subst e';exact W.truthy_bytes (oA hy rfl) {H,I.tok _,q}
 |ref p =>
  cases rx
  have e':(∃ xs,SqL X.K H p xs/\k= !xs.isEmpty)\/(∃ xs,SqT X.K H p xs/\k= !xs.isEmpty)\/∃ kvs,H p=some (.dK kvs)/\k= !kvs.isEmpty:=e;rcases e' with⟨xs,hx,e'⟩|⟨xs,hx,e'⟩|⟨kvs,hx,e'⟩
  ·subst e';obtain⟨AJ,r,pl,hz⟩:=I.list hx
   have B9:=r.length;exact wpAny_truthy_list pl.isList (by simp only[ay];omega) {H,I.tok _,by rw[kR r];exact q}
  ·subst e';obtain⟨AJ,r,pl,hz⟩:=I.tuple hx
   have B9:=r.length;exact truthy_tuple pl (by simp only[ay];omega) {H,I.tok _,by rw[kR r];exact q}
  ·subst e';obtain⟨hz,hS,vs,r,m⟩:kvs.length<=sizeLine/\(p==ia)=false/\∃ vs,KV kvs vs/\s.heap.DictOf (DE X.prog X.w) p vs:=I.hok p _ hx
   have B9:kvs.length=vs.length:=Paired.length r;exact wpAny_truthy_dict hS m (by omega) {H,I.tok _,by rw[Mp r];exact q}
 |_=>exact(show False from e).elim
def Mv(ha:PE X a ta)(he:∀ whole,Ps a X.env whole=(do let v ← whole;zu a.pos;ux [v] (truthy v))) :
  PT X a (λσ H Q=>ta σ H λx H'=>∃ k,KY X.K x H' k/\Q k H'):=λAA s σ H Q I h=>isTrue_plain (AO (ha _ s σ H _ I h) (by rintro v s1 ⟨x,H1,I1,r1,q1⟩;exact Mq _ s1 σ H1 x v Q I1 r1 q1)) (he _)
def Mw:BT X (jh .Add) (λx y H Q=>∃ i j,x=.str i/\y=.str j/\i.length+j.length<=sizeLine/\Q (.str<|i++j) H):=by
 intro AA s σ H x y v u Q I rx ry h;revert h;apply u2;rintro i j ⟨rfl,rfl,hz,q⟩;obtain⟨t,rfl⟩:=rx;obtain⟨t',rfl⟩:=ry;exact add_str (λt' tk=>x2 (.str _) H {I.tok _,⟨_,rfl⟩,q}) hz
def FT(r:Vals [x] us):∃ u,us=[u]/\RelV x u:=by
 cases r with
 |cons r1 r2=>cases r2;exact⟨_,rfl,r1⟩
def Mx:DT X (.type "int") (λxs H Q=>(∃ i,xs=[.int i]/\Q (.int i) H)\/∃ k,xs=[.bl k]/\Q (.int<|if k then 1 else 0) H):=by
 intro AA s σ H xs us Q I r h;rcases h with⟨i,rfl,q⟩|⟨k,rfl,q⟩
 obtain⟨u,rfl,t,rfl⟩:=FT r;exact call_int_int<|x2 (.int i) H {I,⟨_,rfl⟩,q};obtain⟨u,rfl,rfl⟩:=FT r;exact call_int_bool<|x2 (.int _) H {I.tok _,⟨_,rfl⟩,q}
def My:DT X (.builtin "ord") (λxs H Q=>∃ x,xs=[.str x]/\x.length=1/\Q (.int (x.cps.getD 0 0:Nat)) H):=by
 rintro AA s σ H xs us Q I r ⟨x,rfl,hz,q⟩;obtain⟨u,rfl,t,rfl⟩:=FT r;exact ord_of_one hz<|x2 (.int _) H {I.tok _,⟨_,rfl⟩,q}
def O3(K:μ)(x:V)(H:Hp)(n:Nat):Prop :=
 match x with
 |.str y=>y.length<=sizeLine/\n=y.length
 |.byt y=>y.size<=sizeLine/\n=y.size
 |.ref p=>(∃ xs,SqL K H p xs/\n=xs.length)\/∃ xs,SqT K H p xs/\n=xs.length
 |_=>False
def Mz:DT X (.builtin "len") (λxs H Q=>∃ x n,xs=[x]/\O3 X.K x H n/\Q (.int n) H):=by
 intro AA s σ H xs us Q I r h;revert h;apply u2;rintro x n ⟨rfl,e,q⟩;obtain⟨u,rfl,rx⟩:=FT r
 have hs:=qt;cases x with
 |str y =>
  obtain⟨t,rfl⟩:=rx;obtain⟨hy,rfl⟩:y.length<=sizeLine/\n=y.length:=e;exact len_str (by omega) (x2 (.int _) H {I.tok _,⟨_,rfl⟩,q})
 |byt y =>
  obtain⟨t,rfl⟩:=rx;obtain⟨hy,rfl⟩:y.size<=sizeLine/\n=y.size:=e;exact W.len_bytes (oA hy rfl) (x2 (.int _) H {I.tok _,⟨_,rfl⟩,q})
 |ref p =>
  subst rx
  have e':=e;rcases e' with⟨xs,hx,e'⟩|⟨xs,hx,e'⟩
  subst e';obtain⟨AJ,r',pl,hz⟩:=I.list hx
  have B9:=r'.length;exact Calls.call_len_list pl.isList (by simp only[ay];omega) (x2 (.int _) H {I.tok _,{_,by simp only[ay];rw[B9]},q});subst e';obtain⟨AJ,r',pl,hz⟩:=I.tuple hx
  have B9:=r'.length;exact len_tuple pl (by simp only[ay];omega) (x2 (.int _) H {I.tok _,{_,by simp only[ay];rw[B9]},q})
 |_=>exact(e).elim
end
structure ObjM(h:Heap)(x dx C:Addr)(mA:tP):Prop where
 obj:h.get? x=some (vt C dx)
 ns:h.Ns1 dx mA
 ne:dx≠x
set_option tactic.hygienic true in
def Nb{h:Heap}{mA:tP}(n:h.Ns1 dx mA):∃ od,h.get? dx=some od/\∀ name,Nu name od=some (mA name):=by
 revert n;apply u3;rintro o es ep ⟨ho,hd,hk,_,hm⟩;refine{o,ho,λname=>?_}
 have e:=hm name;unfold nsFind findBy at e;rw[<-Array.find?_toList]at e;unfold Nu;rw[hd];dsimp only;split
 ·rename_i y q;rw[q]at e;exact congrArg some e
 ·rename_i q;rw[q]at e
  have a:es.toList.any (·.refKey)=false:=by
   rw[uy];refine λy hy=>u2 ?_<|hk y<|Array.mem_toList_iff.mp hy;rintro z t hkey;simp[DictEntry.refKey,hkey]
  rw[if_neg (by rw[a];exact bc)];exact congrArg some e
def ObjM.look(I:ObjM h x dx C mA):∃ od,W.InstAt h x (vt C dx) C (some od)/\∀ name,Nu name od=some (mA name) :=
 let ⟨od,ho,hl⟩:=Nb I.ns
 {od,⟨I.obj,rfl,rfl,ho⟩,hl}
section
variable{prog:bv}{w:World}{A:dk}{E:tV}{s:π}{K:μ}{x dx C f:Addr}{mA:tP}{name:Str}{v:Value}
def Nd(X:K.In s.heap)(I:ObjM s.heap x dx C mA)(hg:zv K C name=true)(hh:Bt K C=true)
  (ha:cm K (.ref C) name=some none) (hv:mA name=some v) (hv':W.handedIn v=true) (h:Q v { s with toks:=s.toks+1 }) :
  wpAny (model prog w) A (getAttr (.ref x) name expr) Q E s:=by
 obtain⟨od,J,hl⟩:=I.look;exact W.get_value X J (Er hg).1 (W.findObj_own hh ha rfl (by rw[hl,hv])) hv' h
def Ng(X:K.In s.heap)(I:ObjM s.heap x dx C mA)(hg:zv K C name=true)
  (hf:cm K (.ref C) name=some (some<|.ref f)) (ht:N_ K (.ref f)=true) (hv:mA name=none) (h:Q (.ref f,[.ref x]) s) :
  wpAny (model prog w) A (vx (.ref x) name pl) Q E s:=by
 obtain⟨od,J,hl⟩:=I.look;exact W.method_fn X J (Er hg).1 (Er hg).2 hf (beq_iff_eq.mp ht) (by show(Nu _ od).map _=some _;rw[hl,hv];rfl) h
def Nh(X:K.In s.heap)(I:ObjM s.heap x dx C mA)
  (hs:cm K (.ref C) "__setattr__"=some (some<|.builtin "object.__setattr__")) (hp:Lu K C=true) (ht:Oz K C name=some none) (hh:Bt K C=true)
  (hw:PySem.Within mA ns) (hsz:ns.length<=sizeLine)
  (h:∀ h',ObjM h' x dx C (λy=>if y=name then some v else mA y)->gy dx s.heap h'->Q () { s with heap:=h',toks:=s.toks+2 }) :
  wpAny (model prog w) A (setAttr (.ref x) name v) Q E s:=by
 obtain⟨od,J,hl⟩:=I.look;obtain⟨cd,hc,hd'⟩:=W.any_some hh;refine W.set_plain X J hs<|W.osa_open   X J hp ht λb=>(δ<|ν<|δ<|δ<|wpAny_loadPart I.obj<|δ<|W.Looks.here  (W.looks_clsIn X hc) ?_);rw[hd'];refine ν  (δ<|ν<|δ<|wpAny_nsSet1  I.ns λh' hn2 hs2=>(u3 ?_<|hn2.count<|PySem.Within.cons _ v hw));rintro oD esD epD ⟨hoD,hdD,hcD⟩;exact δ (wpAny_lookBehind hoD (by rw[hdD];exact pastItsLine_dict<|ψ hcD<|yj hsz) (ν<|h _ {(hs2.2 _<|fj I.ne).trans I.obj,hn2,I.ne} hs2))
def Nj(X:K.In s.heap)(hm:Jf K C=true)
  (hi:cm K (.ref C) "__init__"=some (some<|.ref f)) (hf:W.typeIn K (.ref f)=some (.type "function"))
  (h:wf (model prog w) (A.under<|.builtin "type.__call__" {.ref C::vs,kw}) (.call (.ref f) {.ref (s.heap.objs.size+1)::vs,kw}) (W.InitBack (s.heap.objs.size+1) R)
   { s with heap:=(s.heap.push yk).push (vt C s.heap.objs.size) }) :
  wf (model prog w) A (.call (.ref C) ⟨vs,kw⟩) R s:=W.make_core (W.makes_of X hm) (W.looks_findIn X hi) (λself=>W.bind_fn X _ hf) (.inl rfl) h
end
def BP(f:Str)(v:V):tT->tT
 | []=>[(f,v)]
 |(g,x)::r=>if g=f then(g,v)::r else(g,x)::BP f v r
def kS(f g:Str)(v:V):∀ fs:tT,(BP f v fs).lookup g=if g=f then some v else fs.lookup g
 | []=>by
  show ig g [(f,v)]=_;by_cases h:g=f;simp only[ig,(beq_iff_eq.mpr h),if_pos h];simp only[ig,(beq_eq_false_iff_ne.mpr h),if_neg h]
 |(k,x)::r=>by
  rw[show BP f v _=(if k=f then(k,v)::r else(k,x)::BP f v r)from rfl];by_cases hk:k=f;rw[if_pos hk];by_cases h:g=k;simp only[ig,(beq_iff_eq.mpr h),if_pos<|h.trans hk];simp only[ig,(beq_eq_false_iff_ne.mpr h),if_neg (λe:g=f=>h<|e.trans hk.symm)];rw[if_neg hk];by_cases h:g=k;simp only[ig,(beq_iff_eq.mpr h),if_neg (λe:g=f=>hk<|h.symm.trans e)];simp only[ig,(beq_eq_false_iff_ne.mpr h)];exact(kS f g v r)
def WU(f:Str)(v:V):∀ fs:tT,f∈(BP f v fs).map (·.1)/\∀ g,g∈fs.map (·.1)->g∈(BP f v fs).map (·.1)
 | []=>{by simp[BP],λg h=>by simp at h}
 |(k,x)::r=>by
  obtain⟨i1,i2⟩:=WU f v r;rw[show BP f v _=(if k=f then(k,v)::r else(k,x)::BP f v r)from rfl];by_cases hk:k=f;subst hk;exact{by simp,λg h=>by simpa using h};rw[if_neg hk];refine{(ω _ i1),λg h=>?_};rcases ax.mp h with e|e
  exact ax.mpr<|.inl e;exact ω _<|i2 g e
def O4(f:Str)(v:V):∀ fs:tT,(BP f v fs).length<=fs.length+1
 | []=>by simp[BP]
 |(k,x)::r=>by
  rw[show BP f v _=(if k=f then(k,v)::r else(k,x)::BP f v r)from rfl];by_cases hk:k=f;rw[if_pos hk];exact jq _;rw[if_neg hk];exact yj<|O4 f v r
def RelO.some_of(r:RelO (some v) o):∃ u,o=some u/\RelV v u:=by
 cases o with
 |none=>exact(r).elim
 |some u=>exact⟨u,rfl,r⟩
def RelO.none_of(r:RelO none o):o=none:=by
 cases o with
 |none=>rfl
 |some u=>exact(r).elim
def Nk(r:RelV v u):W.handedIn u=true:=by
 cases v with
 |non=>cases (r);rfl
 |bl b=>cases (r);rfl
 |int i=>obtain⟨t,rfl⟩:=(r);rfl
 |str x=>obtain⟨t,rfl⟩:=(r);rfl
 |byt b=>obtain⟨t,rfl⟩:=(r);rfl
 |flt b=>obtain⟨t,rfl⟩:=(r);rfl
 |ref a=>cases (r);rfl
 |ty n=>cases (r);rfl
section
variable{P:bv}{w:World}{H H':Hp}{h h':Heap}{a C dx:Addr}{fs fs':tT}
def WV(hok:HOk P w H h)(e:H a=some (.ins C dx fs)):∃ mA,ObjM h a dx C mA/\(∀ f,RelO (fs.lookup f) (mA f))/\PySem.Within mA (fs.map (·.1))/\fs.length<=1000/\H dx=some (.own a):=by
 obtain⟨d,z,ne,ob,mA,n,r,q⟩:=(hok a _ e)
 exact{mA,⟨ob,n,ne⟩,r,q,z,d}
end
structure Cls(K:μ)(C:Addr):Prop where
 pg:zv K C O_=true
 hd:Bt K C=true
 po:Lu K C=true
 sa:cm K (.ref C) "__setattr__"=some (some<|.builtin "object.__setattr__")
def Cls.get{K:μ}{C:Addr}(c:Cls K C)(f:Str):zv K C f=true:=c.pg
def NoAttr(K:μ)(C:Addr)(f:Str):Prop:=cm K (.ref C) f=some none
def NoAttr.taker{K:μ}{C:Addr}{f:Str}(n:NoAttr K C f):Oz K C f=some none:=by
 unfold Oz;rw[n]
 rfl
structure Con(K:μ)(C:Addr)(f:Str)(v:V)(u:Value):Prop where
 at_:cm K (.ref C) f=some (some u)
 rel:RelV v u
 get:L_ K u "__get__"=some none
 cp:W.copiedNames.contains f=false
structure SI(K:μ)(C:Addr)(m:Str)(f:Addr):Prop where
 at_:cm K (.ref C) m=some (some<|.ref f)
 fn:N_ K (.ref f)=true
 kp:s_ K (.ref f)=true
section
variable{X:Cx}{AA:tN}{σ:St}{H:Hp}{s:π}{a C dx:Addr}{fs:tT}{f:Str}{v:V}{A:dk}{E:tV}
def kT(I:Inv X AA σ H s)(e:H a=some (.ins C dx fs))(c:Cls X.K C)(n:NoAttr X.K C f)(l:fs.lookup f=some v)
  (h:∀ u s',Inv X AA σ H s'->RelV v u->Q u s'):wpAny (model X.prog X.w) A (getAttr (.ref a) f b) Q E s:=by
 obtain⟨mA,O,r,z,z,z⟩:=WV I.hok e;obtain⟨u,hu,ru⟩:=RelO.some_of   (by rw[<-l];exact r f);exact Nd I.kIn O (c.get f) c.hd n hu (Nk ru) (h u _ (I.tok _) ru)
def kU(I:Inv X AA σ H s)(e:H a=some (.ins C dx fs))(c:Cls X.K C)(k:SI X.K C m g)(l:fs.lookup m=none)
  (h:Q (.ref g,[.ref a]) s):wpAny (model X.prog X.w) A (vx (.ref a) m pl) Q E s:=by
 obtain⟨mA,O,r,z,z,z⟩:=WV I.hok e;exact Ng I.kIn O (c.get m) k.at_ k.fn (RelO.none_of (by rw[<-l];exact r m)) h
def kW(I:Inv X AA σ H s)(e:H a=some (.ins C dx fs))(c:Cls X.K C)(n:NoAttr X.K C f)(hl:fs.length<1000)(ry:RelV y u)
  (h:∀ s',Inv X AA σ (upd H a<|.ins C dx<|BP f y fs) s'->Q () s'):wpAny (model X.prog X.w) A (setAttr (.ref a) f u) Q E s:=by
 obtain⟨mA,O,r,wi,x,ho⟩:=WV I.hok e;refine Nh I.kIn O c.sa c.po n.taker c.hd wi (by rw[ζ];exact oB hl rfl) λh' O' sb=>h _ (I.write   (by rw[e];exact qu) (.inr ho) (λb q hb z=>(sb.2 b hb).trans z) (let ⟨o,_,_,e',_⟩:=O'.ns;⟨o,e'⟩) {by rw[AG O.ne];exact ho,?_,O.ne,O'.obj,_,O'.ns,λg=>?_,λg hg=>?_});exact ψ (O4 f y fs) hl;rw[kS];by_cases q:g=f;rw[if_pos q,if_pos q];exact ry;rw[if_neg q,if_neg q];exact r g;by_cases q:g=f;rw[q];exact(WU f y fs).1;refine(WU f y fs).2 g (wi g λz=>hg ?_)
 show(if g=f then some u else mA g)=none;rw[if_neg q];exact z
def Inv.made(I:Inv X AA σ H s):Inv X AA σ (upd (upd H s.heap.objs.size<|.own<|s.heap.objs.size+1) (s.heap.objs.size+1) (.ins C s.heap.objs.size []))
  { s with heap:=(s.heap.push yk).push (vt C s.heap.objs.size) }:=by
 have e1:(s.heap.push _).get? _=some yk:=aj _ rfl
 have e2:((s.heap.push yk).push (vt C s.heap.objs.size)).get? (s.heap.objs.size+1)=some (vt C s.heap.objs.size):=by
  have:=aj (s.heap.push yk) (o:=vt C s.heap.objs.size) rfl
  rwa [Bu]at this
 have ne:s.heap.objs.size≠s.heap.objs.size+1:=bd<|fu _;refine(I.laid  (o:=.own _)  (t':=s.toks) (λb u q=>ξ _ q) (υ _) ⟨_,e1⟩).laid    (λb u q=>ξ _ q) (bt<|Bu _ _) ({by rw[AG ne,AE],bu _,ne,e2,λz=>none,(Heap.Ns1.of_empty (x3 _ _ _ {e1,rfl,(λe he=>absurd he (by simp)),λz=>rfl})).at λo q=>ξ _ q,λz=>qu,λy hy=>absurd rfl hy})
def Nl(hb:wg e f env (eval e env)=eval e env)
  (h:wpAny (model prog w) A (eval e env) (λo s₁=>wpAny (model prog w) A (getAttr o f true) Q E s₁) E s):wpAny (model prog w) A (eval (.Attribute e f pos) env) Q E s :=
 Attribute_any_ h (by rw[arm_eval_Attribute,hb])
end
def O5(K:μ)(ta:TE)(f:Str):TE:=λσ H Q=>ta σ H λx H1=>∃ a C dx fs v,x=.ref a/\H1 a=some (.ins C dx fs)/\Cls K C/\NoAttr K C f/\fs.lookup f=some v/\Q v H1
def O6(K:μ)(ta tv:TE)(f:Str):TS:=λD σ H=>tv σ H λy H1=>ta σ H1 λx H2=>∃ a C dx fs,x=.ref a/\H2 a=some (.ins C dx fs)/\Cls K C/\NoAttr K C f/\fs.length<1000 /\
 D.nx σ (upd H2 a<|.ins C dx<|BP f y fs)
def WW(X:Cx)(op:Operator)(rd:V->V->Hp->VK->Prop):Prop :=
 ∀ (AA:tN) (s:π) (σ:St) (H:Hp) (x y:V) (u v:Value) (Q:VK),Inv X AA σ H s->RelV x u->RelV y v->rd x y H Q->wpAny (model X.prog X.w) X.A (inplaceOp op u v) (EP X AA σ Q) X.xe s
def SJ(K:μ)(ta tv:TE)(rd:V->V->Hp->VK->Prop)(f:Str):TS:=λD σ H=>ta σ H λx H1=>∃ a C dx fs v,x=.ref a/\H1 a=some (.ins C dx fs)/\Cls K C/\NoAttr K C f/\fs.lookup f=some v /\
 tv σ H1 λy H2=>rd v y H2 λz H3=>∃ dx' fs',H3 a=some (.ins C dx' fs')/\fs'.length<1000/\D.nx σ (upd H3 a<|.ins C dx'<|BP f z fs')
section
variable{X:Cx}{o e value:Expr}{f:Str}{pos pos' tpos:Pos}{ta tv:TE}
def Nm(he:PE X e ta)(hb:wg e f X.env (eval e X.env)=eval e X.env):PE X (.Attribute e f pos) (O5 X.K ta f):=by
 refine λAA s σ H Q I h=>Nl hb<|AO (he _ s σ H _ I h) λu s1 hzz=>?_;obtain⟨x,H1,I1,rx,a,C,dx,fs,v,rfl,ea,c,n,l,q⟩:=hzz;obtain rfl:u=gk a:=rx;exact kT I1 ea c n l λu' s2 I2 ru=>x2 v H1 ⟨I2,ru,q⟩
def Np(ha:PE X o ta)(hv:PE X value tv)(hs:xl value (some<|.Attribute o f pos') pos.line X.env=pure false):PS X (.Assign [.Attribute o f pos'] value pos) (O6 X.K ta tv f):=by
 refine λAA s σ H D I h=>plainObj_wpAny_Assign_Attribute (AO (hv _ s σ H _ I h) λu s1 ⟨y,H1,I1,ry,q⟩=>AO (ha _ s1 σ H1 _ I1 q) λov s2 hzz=>?_) hs;obtain⟨x,H2,I2,rx,a,C,dx,fs,rfl,ea,c,n,l,q2⟩:=hzz;obtain rfl:ov=gk a:=rx;exact kW I2 ea c n l ry λs3 I3=>x2 σ _ ⟨I3,q2⟩
def Nq(ha:PE X o ta)(hv:PE X value tv)(hop:WW X op rd):PS X (.AugAssign (.Attribute o f tpos) op value pos) (SJ X.K ta tv rd f):=by
 refine λAA s σ H D I h=>wpAny_AugAssign_AttributeAny<|AO (ha _ s σ H _ I h) λov s1 hzz=>?_;obtain⟨x,H1,I1,rx,a,C,dx,fs,v,rfl,ea,c,n,l,q⟩:=hzz;obtain rfl:ov=gk a:=rx;exact kT I1 ea c n l λu s2 I2 ru=>AO (hv _ s2 σ H1 _ I2 q) (by rintro w3 s3 ⟨y,H2,I3,ry,q3⟩;exact AO (hop _ s3 σ H2 v y u w3 _ I3 ru ry q3) (by rintro w4 s4 ⟨z,H3,I4,rz,dx',fs',ea',l',q4⟩;exact(kW I4 ea' c n l' rz λs5 I5=>x2 σ _ ⟨I5,q4⟩)))
def O7:V->V->Hp->VK->Prop:=λx y H Q=>∃ i j,x=.int i/\y=.int j/\Q (.int<|i+j) H
def kX:WW X .Add O7:=by
 rintro AA s σ H x y u v Q I rx ry ⟨i,j,rfl,rfl,q⟩;obtain⟨t,rfl⟩:=(rx)
 obtain⟨t',rfl⟩:=(ry)
 exact PyProof.Rows.iadd_int<|x2 (.int _) H {I.tok _,⟨_,rfl⟩,q}
end
section
variable{X:Cx}{AA:tN}{σ:St}{H:Hp}{s:π}{A:dk}{E:tV}{Q:tV}{c:Value}{b:Bool}
inductive HV(K:μ)(H:Hp):V->Value->Prop where
 |non:HV K H .non (.type "NoneType")
 |bl (x:Bool):HV K H (.bl x) (.type "bool")
 |int (i:Int):HV K H (.int i) (.type "int")
 |str (x:Str):HV K H (.str x) (.type "str")
 |flt (x:UInt64):HV K H (.flt x) (.type "float")
 |lst {a:Addr} {xs:Tr} (e:H a=some (.lst xs)):HV K H (.ref a) (.type "list")
 |frz {a:Addr} {o:Obj} {xs:Tr} (e:H a=some (.frz o<|.lst xs)):HV K H (.ref a) (.type "list")
 |tup {a:Addr} {xs:Tr} (e:H a=some (.tup xs)):HV K H (.ref a) (.type "tuple")
 |dK {a:Addr} {kvs:tZ} (e:H a=some (.dK kvs)):HV K H (.ref a) (.type "dict")
 |dT {a:Addr} {kvs:RJ} (e:H a=some (.dT kvs)):HV K H (.ref a) (.type "dict")
 |ins {a C dx:Addr} {fs:tT} (e:H a=some (.ins C dx fs)) (cl:Cls K C) (ha:cm K (.ref C) "__class__"=some (some<|.builtin "object.__class__"))
   (hn:L_ K (.builtin "object.__class__") "__get__"=some (some<|.builtin "getset_descriptor.__get__")) (htk:W.takesIn K (.builtin "object.__class__")=some true)
   (hm:W.mroIn K C (.type "object")=some true):HV K H (.ref a) (.ref C)
end
structure Room(k:Nat)(A:dk):Prop where
 hd:A.handled=none
 dp:A.depth+3*k+5<recursionLimit
 un:A.units+16*k+200<cLine
def Room.mono(r:Room k A)(h:j<=k):Room j A:={r.hd,by have:=r.dp;lia,by have:=r.un;lia}
def Room.deeper(r:Room (k+1) A)(env:Env):Room k (A.deeper env) :=
 {r.hd,by have:=r.dp;show A.depth+1+3*k+5<_;lia,by have:=r.un;show A.units+3+16*k+200<_;lia}
def Nv{A:dk}:(A.under<|.builtin "type.__call__" {.ref C::us,kw}).depth=A.depth+1:=by
 first|rfl|simp[guardIds]
def Nx{A:dk}:(A.under<|.builtin "type.__call__" {.ref C::us,kw}).units=A.units+1:=by
 first|rfl|simp[Code.isFrame]
abbrev _root_.tL:=List (Str × Value)
def Room.make(r:Room (k+1) A)(C:Addr)(us:Su)(kw:tL):Room k (A.under<|.builtin "type.__call__" {.ref C::us,kw}) :=
 {r.hd,by have:=r.dp;rw[Nv];lia,by have:=r.un;rw[Nx];lia}
def Room.depth(r:Room k A):A.depth<recursionLimit:=by have:=r.dp;lia
def Room.units(r:Room k A):A.units+64<cLine:=by have:=r.un;lia
def BL:TA:=λ_ H Q=>Q [] H
def C7(ta:TE)(tr:TA):TA:=λσ H Q=>ta σ H λx H1=>tr σ H1 λxs H2=>Q (x::xs) H2
section
variable{X:Cx}{e:Expr}{es:Vu}{te:TE}{t:TA}{pos:Pos}
def SK:PA X [] BL:=λz z z z H Q I h=>uz<|x2 [] H {I,.nil,h}
def MA(ha:PE X e te)(hr:PA X es t)(hs:a_ (e::es) X.env=(false,eval e X.env)::a_ es X.env:=by rfl):PA X (e::es) (C7 te t):=by
 intro pos AA s σ H Q I h;rw[hs];exact na (AO (ha _ s σ H _ I h) (by rintro u s1 ⟨x,H1,I1,r1,q1⟩;exact(AO (hr _ _ s1 σ H1 _ I1 q1) (by rintro us s2 ⟨xs,H2,I2,r2,q2⟩;exact x2 _ H2 {I2,.cons r1 r2,q2}))))
def CN(t:TA):TE:=λσ H Q=>t σ H λxs H1=>xs.length<=sizeLine/\∀ p,H1 p=none->Q (.ref p) (upd H1 p<|.tup xs)
def BW(t:TA):TE:=λσ H Q=>t σ H λxs H1=>xs.length<=sizeLine/\∀ p,H1 p=none->Q (.ref p) (upd H1 p<|.lst xs)
def Ny{x1}(h:PA X es t):PE X (.Tuple es x1 pos) (CN t):=λAA s σ H Q I hq=>wpAny_Tuple_spliced (AO (h _ _ s σ H _ I hq) λus s1 ⟨xs,H1,I1,r,z,q⟩=>{by rw[<-r.length];exact z,(x2 (.ref _) (upd H1 _<|.tup xs) {I1.laid  (λb u e=>ξ _ e) (υ _) ({z,us,r,{_,aj _ rfl,rfl,_,rfl}}),rfl,q _<|I1.hok.fresh<|υ _})})
def Nz(h:PA X es t):PE X (.List es pos) (BW t):=λAA s σ H Q I hq=>wpAny_List_spliced (AO (h _ _ s σ H _ I hq) λus s1 ⟨xs,H1,I1,r,z,q⟩=>{by rw[<-r.length];exact z,(x2 (.ref _) (upd H1 _<|.lst xs) {I1.laid  (λb u e=>ξ _ e) (υ _) ({z,x2 us 0 {r,aj _ rfl}}),rfl,q _<|I1.hok.fresh<|υ _})})
end
abbrev Sp:=Tr->Hp->VK->XK->Prop
abbrev HW:=Yu->Hp->π->XK->Value->π->Prop
structure Env0(P:bv)(w:World)(K:μ)(mg:tP)(base:Heap)(A:dk)(outer:Yu)(s:π)(H:Hp):Prop where
 frames:A.frames=some outer
 mod:Mod K mg base
 bs:∀ b o,base.get? b=some o->s.heap.get? b=some o/\H b=none
 bsz:base.objs.size<=s.heap.objs.size
 funs:s.heap.FunFrames base outer
 frf:∀ b∈D5 outer,H b=none
 hok:HOk P w H s.heap
 bare:uw s.gens
def CE(outer:Yu)(P:bv)(w:World)(H:Hp)(s:π)(Q:VK)(u:Value)(s':π):Prop :=
 ∃ v H',s'.os=s.os/\uw s'.gens/\Un (D5 outer) [] H H' s.heap s'.heap/\HOk P w H' s'.heap/\RelV v u/\Q v H'
def CR(CX:HW)(outer:Yu)(P:bv)(w:World)(H:Hp)(s:π)(Q:VK)(E:XK)(r:Result)(s':π):Prop :=
 match r with
 |.ok (.ret u)=>CE outer P w H s Q u s'
 |.ok _=>False
 |.error e=>CX outer H s E e s'
structure FnOk(P:bv)(w:World)(K:μ)(mg:tP)(base:Heap)(CX:HW)(k:Nat)(f:Addr)(fd:h_)(ps:Xu)(sp:Sp):Prop where
 len:∀ vs H Q E,sp vs H Q E->vs.length=ps.length
 run:∀ (A:dk) (outer:Yu) (s:π) (H:Hp) (args:Args) (us:Su) (vs:Tr) (Q:VK) (E:XK),Room k A->Env0 P w K mg base A outer s H->yl s fd args (ps.zip us)->Vals vs us->sp vs H Q E ->
  wf (model P w) A (.call (.ref f) args) (CR CX outer P w H s Q E) s
def FnOk.imp{P:bv}{w:World}{K:μ}{mg:tP}{base:Heap}{CX:HW}{k:Nat}{f:Addr}{fd:h_}{ps:Xu}{sp sp':Sp}(F:FnOk P w K mg base CX k f fd ps sp)
  (h:∀ vs H Q E,sp' vs H Q E->sp vs H Q E):FnOk P w K mg base CX k f fd ps sp' :=
 {λvs H Q E q=>F.len vs H Q E<|h _ _ _ _ q,λA outer s H args us vs Q E hr he hb hv hs=>F.run A _ s H _ us vs Q E hr he hb hv<|h _ _ _ _ hs}
def Env0.make{P:bv}{w:World}{K:μ}{mg:tP}{base:Heap}{A:dk}{outer:Yu}{s:π}{H:Hp}(e:Env0 P w K mg base A outer s H)(C:Addr)(us:Su)(kw:tL) :
  Env0 P w K mg base (A.under<|.builtin "type.__call__" {.ref C::us,kw}) outer s H:={by first|exact e.frames|(exact e.frames),e.mod,e.bs,e.bsz,e.funs,e.frf,e.hok,e.bare}
section
variable{X:Cx}{AA:tN}{σ:St}{H:Hp}{s s':π}
def Inv.env0(I:Inv X AA σ H s):Env0 X.prog X.w X.K X.mg X.base X.A X.stack s H :=
 {I.ok.frames,I.ok.mod,I.bs,ψ I.ok.bsz I.sz,I.stack,I.stkFree,I.hok,I.bare}
def Inv.after(I:Inv X AA σ H s)(h:CE X.stack X.prog X.w H s Q u s'):EP X AA σ Q u s':=by
 revert h;apply u2;rintro v H' ⟨os,bare,un,hok,r,q⟩;obtain⟨hh,g,d,t,os'⟩:=s';obtain rfl:os'=s.os:=os;exact x2 v H' {I.call      un hok bare (λb z=>absurd z (by simp)),r,q}
end
def MB(sp:Sp)(EN:Tr)(E:St->XK)(t:TA):TE:=λσ H Q=>t σ H λvs H1=>sp (vs++EN) H1 Q (E σ)
def IX(C:Addr)(m:Str)(sp:Sp)(EN:Tr)(E:St->XK)(ta:TE)(t:TA):TE:=λσ H Q=>ta σ H λx H1=>∃ a dx fs,x=.ref a/\H1 a=some (.ins C dx fs)/\fs.lookup m=none /\
 t σ H1 λvs H2=>sp (x::(vs++EN)) H2 Q (E σ)
def NL(C:Addr)(sp:Sp)(EN:Tr)(E:St->XK)(t:TA):TE:=λσ H Q=>t σ H λvs H1=>∀ x dx,H1 x=none->H1 dx=none->dx≠x ->
 sp (.ref x::(vs++EN)) (upd (upd H1 dx<|.own x) x (.ins C dx [])) (λv H2=>v=.non/\Q (.ref x) H2) (E σ)
def Binds(K:μ)(fd:h_)(ps:Xu)(ds:Su):Prop :=
 ∀ (s:π) (us:Su),K.In s.heap->(us++ds).length=ps.length->yl s fd {us,[]} (ps.zip<|us++ds)
def Binds.all{K:μ}{fd:h_}{ps:Xu}(h:∀ us:Su,us.length=ps.length->bindArgs fd {us,[]}=pure (ps.zip us)):Binds K fd ps []:=λs us z hl=>by
 rw[kx]at hl ⊢;exact .of_eq<|h us hl
def G7(CX:HW)(X:Cx)(E:St->XK):Prop:=∀ (AA:tN) (σ:St) (H:Hp) (s:π) (e:Value) (s':π),Inv X AA σ H s->CX X.stack H s (E σ) e s'->X.xe e s'
section
variable{X:Cx}{CX:HW}{k:Nat}{f C:Addr}{fd:h_}{ps:Xu}{sp:Sp}{EN:Tr}{ds:Su}{E:St->XK}{x m:Str}{p pos CP:Pos}{e o:Expr}{es:Vu}{ta:TE}{t:TA}
def WX(F:FnOk X.prog X.w X.K X.mg X.base CX k f fd ps sp)(hr:Room k X.A)(hb:Binds X.K fd ps ds)(hd:Vals EN ds)(hx:G7 CX X E)
  (I:Inv X AA σ H s) (r:Vals vs us) (h:sp (vs++EN) H Q (E σ)):wpAny (model X.prog X.w) X.A (call (.ref f) us) (EP X AA σ Q) X.xe s:=by
 have r2:=r.append hd;refine Oa (k_ (F.run _ _ s H _ _ _ Q _ hr I.env0 (hb s us I.kIn (by rw[<-r2.length];exact F.len _ _ _ _ h)) r2 h) λr s' hq=>?_);cases r with
 |error e=>exact hx _ σ H s e s' I hq
 |ok fl =>
  cases fl with
  |ret u=>exact I.after hq
  |next=>exact jk hq
  |brk=>exact jk hq
  |cont=>exact jk hq
def Pb(F:FnOk X.prog X.w X.K X.mg X.base CX k f fd ps sp)(hr:Room k X.A)(hg:Gl X x)(hm:X.mg x=some (.ref f))(hk:s_ X.K (.ref f)=true)(hb:Binds X.K fd ps ds)(hd:Vals EN ds)(hx:G7 CX X E)
  (ha:PA X (e::es) t) (hdb:(x ==("__debug__":Str))=false:=by decide) (he:a_ (e::es) X.env=(false,eval e X.env)::a_ es X.env:=by rfl) (CB:(jp pos<|a_ es X.env).any (·.1)=false:=by rfl) :
  PE X (.Call (.Name x p) (e::es) [] pos) (MB sp EN E t):=λAA s σ H Q I h=>um (OW I hg hm (G_  I.ok.mod.kin hk (AO (ha _ _ s σ H _ I h) (by rintro us s1 ⟨vs,H1,I1,r,q⟩;exact{I1.kIn,(WX F hr hb hd hx I1 r q)})) he CB) hdb)
def Pc(he:PE X o ta)(c:Cls X.K C)(hm:SI X.K C m f)(F:FnOk X.prog X.w X.K X.mg X.base CX k f fd ps sp)(hr:Room k X.A)(hb:Binds X.K fd ps ds)(hd:Vals EN ds)(hx:G7 CX X E)(ha:PA X (e::es) t)
  (hst:a_ (e::es) X.env=(false,eval e X.env)::a_ es X.env:=by rfl) (CB:(jp pos<|a_ es X.env).any (·.1)=false:=by rfl)
  (ht:eval (.Call (.Attribute o m CP) (e::es) [] pos) X.env=(do
   let ov ← eval o X.env
   zu CP.atName
   let (f,first) ← ux [ov] (vx ov m pl)
   B_ pos f first (jp pos<|a_ (e::es) X.env) (wm pos<|mx [] X.env)):=by rfl) :
  PE X (.Call (.Attribute o m CP) (e::es) [] pos) (IX C m sp EN E ta t):=by
 refine λAA s σ H Q I h=>Mf  (AO (he _ s σ H _ I h) λu s1 hzz=>?_) ht;obtain⟨x,H1,I1,rx,a,dx,fs,rfl,ea,l,q⟩:=hzz;obtain rfl:u=gk a:=rx;exact kU I1 ea c hm l (G_   I.ok.mod.kin hm.kp (AO (ha _ _ s1 σ H1 _ I1 q) (by rintro us s2 ⟨vs,H2,I2,r,q2⟩;exact{I2.kIn,(WX  (vs:=.ref a::vs) F hr hb hd hx I2 (.cons rfl r) q2)})) hst CB)
def Pd(he:PE X o ta)(c:Cls X.K C)(hm:SI X.K C m f)(F:FnOk X.prog X.w X.K X.mg X.base CX k f fd ps sp)(hr:Room k X.A)(hb:Binds X.K fd ps ds)(hd:Vals EN ds)(hx:G7 CX X E)
  (ht:eval (.Call (.Attribute o m CP) [] [] pos) X.env=(do
   let ov ← eval o X.env
   zu CP.atName
   let (f,first) ← ux [ov] (vx ov m pl)
   B_ pos f first (jp pos<|a_ [] X.env) (wm pos<|mx [] X.env)):=by rfl) :
  PE X (.Call (.Attribute o m CP) [] [] pos) (IX C m sp EN E ta BL):=by
 refine λAA s σ H Q I h=>Mf  (AO (he _ s σ H _ I h) λu s1 hzz=>?_) ht;obtain⟨x,H1,I1,rx,a,dx,fs,rfl,ea,l,q⟩:=hzz;obtain rfl:u=gk a:=rx;exact kU I1 ea c hm l<|W.callWith_K0  I1.kIn hm.kp (WX  (vs:=[.ref a]) F hr hb hd hx I1 (.cons rfl .nil) q)
structure Mk(K:μ)(C f:Addr):Prop where
 makes:Jf K C=true
 init:cm K (.ref C) "__init__"=some (some<|.ref f)
 fn:N_ K (.ref f)=true
 kp:s_ K (.ref C)=true
def Pg(M:Mk X.K C f)(F:FnOk X.prog X.w X.K X.mg X.base CX k f fd ps sp)(hr:Room (k+1) X.A)(hb:Binds X.K fd ps ds)(hd:Vals EN ds)
  (hx:G7 CX X E) (I:Inv X AA σ H s) (r:Vals vs us)
  (h:∀ x dx,H x=none->H dx=none->dx≠x->sp (.ref x::(vs++EN)) (upd (upd H dx<|.own x) x (.ins C dx [])) (λv H2=>v=.non/\Q (.ref x) H2) (E σ)) :
  wpAny (model X.prog X.w) X.A (call (.ref C) us) (EP X AA σ Q) X.xe s:=by
 have hq:=h _ _ (I.hok.fresh<|jq _) (I.hok.fresh<|υ _) (bd<|fu _)
 have I2:=Inv.made (C:=C) I
 have r2:Vals (V.ref (s.heap.objs.size+1)::(vs++EN)) _:=.cons rfl<|r.append hd
 have hl:(gk (s.heap.objs.size+1)::us++ds).length=ps.length:=by
  have e:=r2.length;rw[F.len _ _ _ _ hq]at e;exact e.symm
 refine Oa (Nj  I.kIn M.makes M.init (beq_iff_eq.mp M.fn) (k_ (F.run _ _ _ _ _ _ _ _ _ (hr.make C us [])
  (I2.env0.make C us []) (hb _ _ I2.kIn hl) r2 hq) λr s' hq'=>?_))
 cases r with
 |error e=>exact hx _ σ _ _ e s' I2 hq'
 |ok fl =>
  cases fl with
  |ret u =>
   refine u2 ?_<|I2.after hq';rintro v H' ⟨I3,rv,rfl,q3⟩;exact{rv,x2 (V.ref _) H' ⟨I3,rfl,q3⟩}
  |next=>exact jk hq'
  |brk=>exact jk hq'
  |cont=>exact jk hq'
def Ph(M:Mk X.K C f)(F:FnOk X.prog X.w X.K X.mg X.base CX k f fd ps sp)(hr:Room (k+1) X.A)(hg:Gl X x)(hm:X.mg x=some (.ref C))(hb:Binds X.K fd ps ds)(hd:Vals EN ds)(hx:G7 CX X E)
  (ha:PA X (e::es) t) (hdb:(x ==("__debug__":Str))=false:=by decide) (he:a_ (e::es) X.env=(false,eval e X.env)::a_ es X.env:=by rfl) (CB:(jp pos<|a_ es X.env).any (·.1)=false:=by rfl) :
  PE X (.Call (.Name x p) (e::es) [] pos) (NL C sp EN E t):=λAA s σ H Q I h=>um (OW I hg hm (G_  I.ok.mod.kin M.kp (AO (ha _ _ s σ H _ I h) (by rintro us s1 ⟨vs,H1,I1,r,q⟩;exact{I1.kIn,(Pg M F hr hb hd hx I1 r q)})) he CB) hdb)
end
section
variable{X:Cx}{CX:HW}{k:Nat}{f C:Addr}{fd:h_}{ps ks:Xu}{sp:Sp}{E:St->XK}{x m:Str}{p pos CP kpos:Pos}{e o:Expr}{es:Vu}{kws:List Dt}{te ta:TE}{t tk:TA}{nm:Option Str}
structure z1j(K:μ)(fd:h_)(ps ks:Xu)(g:Su->Su->Su)(gV:Tr->Tr->Tr):Prop where
 to:∀ (s:π) (us ws:Su),K.In s.heap->(g us ws).length=ps.length->yl s fd {us,ks.zip ws} (ps.zip<|g us ws)
 rel:∀ {vs:Tr} {us:Su} {zs:Tr} {ws:Su},Vals vs us->Vals zs ws->Vals (gV vs zs) (g us ws)
variable{g:Su->Su->Su}{gV:Tr->Tr->Tr}
end
structure FnScope(N P:Xu)(sc:Scope):Prop where
 kind:sc.kind=.function
 co:sc.isCoroutine=false
 gen:sc.isGenerator=false
 nd:N.Nodup
 pre:N.take P.length=P
 par:∀ x∈P,sc.names.lookup x=some .local\/sc.names.lookup x=some .cell
 nofree:∀ y∈sc.names,y.2≠.free
def kY{kindOf:Str->Option zk}:∀ {binds:tL} {m:tP},(∀ v,(x,v)∉binds)->bindL kindOf binds m x=m x
 | [],_,_=>rfl
 |(n,v)::r,m,h=>by
  unfold bindL;rw[kY λw hw=>h w<|ω _ hw];split
  have:x≠n:=by rintro rfl;exact h v ai
  simp[this]
  rfl
def kZ{kindOf:Str->Option zk}:∀ {binds:tL} {m:tP},(∀ v,(x,v)∉binds)->bindC kindOf binds m x=m x
 | [],_,_=>rfl
 |(n,v)::r,m,h=>by
  unfold bindC;rw[kZ λw hw=>h w<|ω _ hw];split
  rfl
  have:x≠n:=by rintro rfl;exact h v ai
  simp[this]
def k8{kindOf:Str->Option zk}:∀ {P:Xu} {vs:Su} {i:Nat} {m:tP},P.Nodup->P[i]? =some x->vs[i]? =some v->kindOf x=some .local ->
  bindL kindOf (P.zip vs) m x=some v
 | [],_,_,_,_,h,_,_=>by simp at h
 |_::_,[],_,_,_,_,h,_=>by simp at h
 |p::P,w::vs,0,m,nd,h1,h2,hk=>by
  simp at h1 h2;subst h1 h2
  show bindL _ ((p,w)::P.zip vs) m p=_;unfold bindL;rw[kY λv hv=>(fq.mp nd).1 (Ar hv).1,if_pos hk];simp
 |p::P,w::vs,i+1,m,nd,h1,h2,hk=>by
  unfold bindL;exact k8  (fq.mp nd).2 (h1) (h2) hk
def k9{kindOf:Str->Option zk}:∀ {P:Xu} {vs:Su} {i:Nat} {m:tP},P.Nodup->P[i]? =some x->vs[i]? =some v->kindOf x≠some .local ->
  bindC kindOf (P.zip vs) m x=some v
 | [],_,_,_,_,h,_,_=>by simp at h
 |_::_,[],_,_,_,_,h,_=>by simp at h
 |p::P,w::vs,0,m,nd,h1,h2,hk=>by
  simp at h1 h2;subst h1 h2
  show bindC _ ((p,w)::P.zip vs) m p=_;unfold bindC;rw[kZ λv hv=>(fq.mp nd).1 (Ar hv).1,if_neg hk];simp
 |p::P,w::vs,i+1,m,nd,h1,h2,hk=>by
  unfold bindC;exact k9  (fq.mp nd).2 (h1) (h2) hk
def AZ(N:Xu)(vs:Tr):St:=vs.map some++bg (N.length-vs.length) none
def IY(CX:HW)(P:bv)(w:World)(K:μ)(mg:tP)(base:Heap)(N:Xu)(qual:Str)(scope:Scope)(f:Addr)(cd:Value)(A:dk)(outer:Yu)(s:π)(H:Hp)(E:XK):Cx where
 prog:=P
 w:=w
 K:=K
 mg:=mg
 base:=base
 A:=A.deeper<|zb qual scope s.heap.objs.size f cd
 N:=N
 s₀:=s
 H₀:=H
 env:=zb qual scope s.heap.objs.size f cd
 outer:=outer
 stack:=zb qual scope s.heap.objs.size f cd::outer
 ex:=[]
 calm:=true
 fn:=λ_=>true
 pn:=[]
 xe:=λe s'=>wpAny (model P w) (A.deeper<|zb qual scope s.heap.objs.size f cd) (leaving (zb qual scope s.heap.objs.size f cd) e) (λ_ s''=>CX outer H s E e s'') (λe' s''=>CX outer H s E e' s'') s'
def lA{sc:Scope}(h:sc.names.lookup x=some .cell):∃ c,(Pa n sc.names []).lookup x=some c:=fg.mp<|Ji _ n [] (.inl h)
def Pj{CX:HW}{P:bv}{w:World}{K:μ}{mg:tP}{base:Heap}{N ps:Xu}{qual:Str}{scope:Scope}{f:Addr}{cd:Value}{A:dk}{outer:Yu}{s s1:π}{H:Hp}{E:XK}{us:Su}{vs:Tr}
  (S:FnScope N ps scope) (hd:A.handled=none) (e0:Env0 P w K mg base A outer s H) (hl:vs.length=ps.length) (r:Vals vs us)
  (x:InCallC s s.heap.objs.size (bindL (zb qual scope s.heap.objs.size f cd).kindOf (ps.zip us) λ_=>none) (Pa (s.heap.objs.size+1) scope.names []) (bindC (zb qual scope s.heap.objs.size f cd).kindOf (ps.zip us) λ_=>none) s1) :
  Inv (IY CX P w K mg base N qual scope f cd A outer s H E) [] (AZ N vs) H s1:=by
 have CB:ps.length<=N.length:=by have:=congrArg lb S.pre;rw[de]at this;lia
 refine u2 ?_ x.done;rintro h1 tk ⟨rfl,hk⟩
 have noA:∀ b:Addr,b∉(IY CX P w K mg base N qual scope f cd A outer s H E).ex:=λb z=>absurd (show b∈([])from z) (by simp);refine⟨{e0.mod,S.kind,rfl,rfl,υ _,λy z c h1 h2=>(name_of_addr x.apart (PySem.mem_of_lookup h1) (PySem.mem_of_lookup h2)),λy hy=>?_,λy c t h=>(jz<|x.above y c<|PySem.mem_of_lookup h),λt=>hd,Around.frames_deeper e0.frames,.inr ⟨rfl,rfl⟩,λb z=>absurd z<|noA b,e0.bs,e0.bsz,λb t t=>noA b,λb z=>absurd z<|noA b,e0.funs,e0.frf},
  rfl,e0.bare,Un.kept hk,{_,x.toInCall.ns,λi y v h1 h2 h3=>?_},λy c h=>{_,x.cell y c h},e0.hok.fresh<|υ _,λy c h=>(e0.hok.fresh<|jz<|x.above y c<|PySem.mem_of_lookup h),λp hp=>absurd (show p∈([])from hp) (by simp),e0.hok.kept hk,?_⟩
 rcases hy with hy|hy
 exact lA hy;exact absurd rfl<|S.nofree _<|PySem.mem_of_lookup hy
 have hi:i<vs.length:=by
  unfold AZ at h2;by_cases hi:i<vs.length;exact hi;rw[ci (by simpa using hi),zl]at h2;split at h2<;>cases h2
 have ha:vs[i]? =some v:=by
  unfold AZ at h2;rw[ba (by simpa using hi),τ]at h2;cases e:vs[i]? with
  |none=>rw[e]at h2;cases h2
  |some a=>rw[e]at h2;cases h2;rfl
 have hp:ps[i]? =some y:=by
  rw[<-S.pre,List.getElem?_take_of_lt<|hl ▸ hi];exact h1
 have ndP:ps.Nodup:=by rw[<-S.pre];exact S.nd.sublist<|Ha _ _
 obtain⟨u,hu,rv⟩:=r.get ha;refine{u,rv,?_};rcases S.par y (η hp)with k|k
 exact .inl {k,k8 ndP hp hu k};obtain⟨c,e⟩:=lA  k;refine .inr {.inl k,c,e,?_}
 have q:=x.cell y c e;rw[k9 ndP hp hu (by show scope.names.lookup y≠_;rw[k];decide)]at q;exact q;unfold AZ
 show _=N.length;rw[ae,ζ,vk]
 lia
def Pk{CX:HW}{P:bv}{w:World}{K:μ}{mg:tP}{base:Heap}{k:Nat}{f:Addr}{name qual:Str}{params:Arguments}{body:List Stmt}{scope:Scope}{dV kV doc pm CA ct oc:Value}{an od:Option Addr}
  {osl:Array (Option Value)} {N ps:Xu} {sp:Sp} (lk:K.lookup f=some {oc,od,.func<|zd name qual params body scope dV kV doc pm an CA ct,osl}) (GP:Ca K CA qual=true) (S:FnScope N ps scope)
  (len:∀ vs H Q E,sp vs H Q E->vs.length=ps.length)
  (kC:∀ (A:dk) (outer:Yu) (s:π) (H:Hp) (vs:Tr) (Q:VK) (E:XK),Room k (A.deeper<|zb qual scope s.heap.objs.size f CA)->sp vs H Q E ->
   ∃ t,FC (IY CX P w K mg base N qual scope f CA A outer s H E) body t/\t { nx:=λz H'=>Q .non H',rt:=Q } (AZ N vs) H) :
  FnOk P w K mg base CX (k+1) f (zd name qual params body scope dV kV doc pm an CA ct) ps sp:=by
 refine{len,λA outer s H args us vs Q E hr e0 hb r hsp=>?_}
 have KX:=e0.mod.kin.keeps λb o e=>(e0.bs b o e).1
 have hkind:∀ y∈ps.zip us,scope.names.lookup y.1=some _\/(scope.names.lookup y.1=some _/\((Pa (s.heap.objs.size+1) _ []).lookup y.1).isSome=true):=λ⟨n,v⟩ hy=>by
  rcases S.par n (Ar hy).1 with q|q
  exact .inl q;exact .inr {q,Ji _ _ _<|.inl q}
 refine codeAny_call_function hr.depth (KX _ _ lk) rfl S.co S.gen rfl (W.codeRec_of KX GP) (hb _ _ _ _<|wpAny_newFunctionEnv_cells S.kind hkind λenv he s1 x=>?_);subst he;obtain⟨t,ht,hq⟩:=kC A _ s H vs Q E (hr.deeper _) hsp;refine{(e0.mod.nolimit.keeps λb o e=>(e0.bs b o e).1).keeps x.toInCall.keep,codeAny_func<|p_ (ht [] s1 _ H _ (Pj S hr.hd e0 (len _ _ _ _ hsp) r x) hq) (λfl s' hs=>?_) λe s' hs=>hs}
 have fin:∀ {σ':St} {H':Hp} {v:V} {u:Value},Inv (IY CX P w K mg base N qual scope f CA A _ s H E) [] σ' H' s'->RelV v u->Q v H'->CE outer P w H s Q u s' :=
  λ{σ' H' v u} J rv q=>x2 v H' ⟨J.os,J.bare,J.base,J.hok,rv,q⟩
 cases fl with
 |ret u =>
  revert hs;apply u3;rintro v σ' H' ⟨J,rv,q⟩;exact fin J rv q
 |next =>
  revert hs;apply u2;rintro σ' H' ⟨J,q⟩;exact fin (v:=V.non)  J rfl q
 |brk =>
  revert hs;apply u2;rintro z z ⟨z,q⟩;exact jk q
 |cont =>
  revert hs;apply u2;rintro z z ⟨z,q⟩;exact jk q
section
variable{X:Cx}{x:Str}{p pos:Pos}{e:Expr}{es:Vu}{t:TA}{id T:String}{r:Tr->Hp->VK->Prop}
def CO(r:Tr->Hp->VK->Prop)(t:TA):TE:=λσ H Q=>t σ H λvs H1=>r vs H1 Q
def KZ(hc:DT X (.builtin id) r)(hg:Gl X x)(hm:X.mg x=none)(hv:xb x=some (.builtin id))(ha:PA X (e::es) t)(hn:x≠"__name__":=by decide)(hdb:(x ==("__debug__":Str))=false:=by decide)
  (he:a_ (e::es) X.env=(false,eval e X.env)::a_ es X.env:=by rfl) (CB:(jp pos<|a_ es X.env).any (·.1)=false:=by rfl):PE X (.Call (.Name x p) (e::es) [] pos) (CO r t):=λAA s σ H Q I h=>um (SE I hg hm hv (PyProof.Rows.callWith_builtin1 (AO (ha _ _ s σ H _ I h) (by rintro us s1 ⟨vs,H1,I1,r1,q1⟩;exact hc _ s1 σ H1 vs us Q I1 r1 q1)) he CB) hn hdb)
def O8(hc:DT X (.type T) r)(hg:Gl X x)(hm:X.mg x=none)(hv:xb x=some (.type T))(ha:PA X (e::es) t)(hn:x≠"__name__":=by decide)(hdb:(x ==("__debug__":Str))=false:=by decide)
  (he:a_ (e::es) X.env=(false,eval e X.env)::a_ es X.env:=by rfl) (CB:(jp pos<|a_ es X.env).any (·.1)=false:=by rfl):PE X (.Call (.Name x p) (e::es) [] pos) (CO r t):=λAA s σ H Q I h=>um<|SE I hg hm hv (pi (AO (ha _ _ s σ H _ I h) λus s1 ⟨vs,H1,I1,r1,q1⟩=>hc _ s1 σ H1 vs us Q I1 r1 q1) he CB) hn hdb
end
end L2
namespace HT
open PySem PyProof.Rows
section
open PySem.SeqAt
open PySem.AutoSeq1 (wpAny_loadPart')
open PySem.MeetsSeq PySem.MeetsSeq2 PySem.MeetsSeq3
end
section
variable{prog:bv}{w:World}{A:dk}{E:tV}{s:π}
def cat_tup(ht:IsTup s.heap t vs.toArray)(hb:IsTup s.heap b ws.toArray)(hv:vs≠[])
  (h1:ws=[]->Q (.ref t) s) (h2:ws≠[]->Q (.ref s.heap.objs.size) { s with heap:=s.heap.push { cls:=.type "tuple",data:=.seq (vs++ws).toArray } })
  (hsz:vs.length+ws.length<=sizeLine):wpAny (model prog w) A (jh .Add (.ref t) (.ref b)) Q E s:=by
 obtain⟨⟨cls,dd,data,sl⟩,ho,hc,n,hd⟩:=id ht;obtain⟨⟨cls2,dd2,data2,sl2⟩,ho2,hc2,n2,hd2⟩:=id hb;subst hc hd hc2 hd2
 have e:vs.toArray++ws.toArray=(vs++ws).toArray:=by simp
 by_cases hw:ws=[];exact He ⟨_,ho,rfl⟩ ⟨_,ho2,rfl⟩ zm Es PySem.F.slot_tuple_add PySem.F.entry_tuple_add (PySem.F.args_tuple_add_2 _ _)
  (tuple_addW1 t b _ _ n n2 dd _ sl _ (by simpa using hv) (by simp[hw])) {ho,ho2,h1 hw}
 refine He ⟨_,ho,rfl⟩ ⟨_,ho2,rfl⟩ zm Es PySem.F.slot_tuple_add PySem.F.entry_tuple_add (PySem.F.args_tuple_add_2 _ _)
  (tuple_addW2 t b _ _ n n2 dd _ sl _ (by simpa using hv) (by simpa using hw) (by exact hsz)) {ho,ho2,?_}
 rw[e];exact h2 hw
def sIx(n d:Nat):Option Int->Nat
 |none=>d
 |some v=>if v<0 then(v+(n:Int)).toNat else min v.toNat n
def sIx_none(n d:Nat):sIx n d none=d:=rfl
def lB(v:Int)(n d:Nat):(if v<0 then max (v+(n:Int)) 0 else min v (n:Int))=((sIx n d (some v):Nat):Int):=by
 show(if v<0 then max _ 0 else min v n)=(((if v<0 then(v+n).toNat else min _ n)));by_cases hv:v<0;simp only[if_pos hv];lia;simp only[if_neg hv];lia
def Pl(lo hi:Option Int)(n:Nat):ya lo hi 1 (n:Int)=(((sIx n 0 lo:Nat):Int),((sIx n n hi:Nat):Int)):=by
 refine Prod.ext ?_ ?_;cases lo with
 |none=>rfl
 |some v=>exact lB v n 0
 cases hi with
 |none=>rfl
 |some v=>exact lB v n n
def Pm(i j:Nat):sj (i:Int) (j:Int) 1=j-i:=by
 unfold sj;split<;>omega
def lC(p:Ce v o)(h:Q o s):wpAny (model prog w) A (Mi v) Q E s:=by
 cases p with
 |none=>exact slicePart_none h
 |int i t=>exact slicePart_int h
def Pp{sl:Addr}{vl vu:Value}{lo hi:Option Int}{n:Nat}{Q:Int × Int × Nat->π->Prop}(hs:s.heap.IsSliceOf sl vl vu .none)(pl:Ce vl lo)(pu:Ce vu hi)
  (h:Q (((sIx n 0 lo:Nat):Int),1,sIx n n hi-sIx n 0 lo) s):wpAny (model prog w) A (Ob (.ref sl) (pure (n:Int))) Q E s:=by
 obtain⟨os,hos,hcs,hds⟩:=id hs;refine δ<|δ<|jr hos hds  rfl (δ<|jr hos hds  rfl (δ<|jr hos hds  rfl (ν<|δ<|slicePart_none<|δ<|lC pl<|δ<|lC pu<|δ<|ν ?_)))
 show wpAny _ _ (match ya lo hi 1 n with|(lo,hi)=>pure (lo,(1:Int),sj lo hi 1)) _ _ s;rw[Pl lo hi n]
 show wpAny _ _ (pure _) _ _ s;rw[Pm];exact ν h
def Pq(xs:Array Value)(i k:Nat):((ο k).filterMap λ(m:Nat)=>xs[((i:Int)+(m:Int)*1).toNat]?).toArray=((xs.toList.drop i).take k).toArray:=by
 have e:(λ(m:Nat)=>xs[(i+(m:Int)*1).toNat]?)=λm=>xs[i+m]? :=by
  funext m
  have:(i+(m:Int)*1).toNat=i+m:=by lia
  rw[this]
 have:=pick_run xs i k;rw[e];rw[List.filterMap_map]at this
 have e2:((λx=>xs[x]?) ∘ λx=>i+x)=λm=>xs[i+m]? :=rfl;rw[e2]at this;rw[this]
def getItem_tuple_cut{t sl:Addr}{items:Array Value}{vl vu:Value}{lo hi:Option Int}{Q:tV}(ht:IsTup s.heap t items)(hs:s.heap.IsSliceOf sl vl vu .none)(pl:Ce vl lo)(pu:Ce vu hi)
  (hw:¬ (sIx items.size 0 lo=0/\sIx items.size items.size hi=items.size))
  (h:Q (.ref s.heap.objs.size) { s with heap:=s.heap.push { cls:=.type "tuple",data:=.seq ((items.toList.drop<|sIx items.size 0 lo).take (sIx items.size items.size hi-sIx items.size 0 lo)).toArray } })
  (hsz:items.size<=sizeLine):wpAny (model prog w) A (zw (.ref t) (.ref sl)) Q E s:=by
 obtain⟨os,hos,hcs,hds⟩:=id hs
 have htake:sizeOk (.seq ((items.toList.drop<|sIx items.size 0 lo).take (sIx items.size items.size hi-sIx items.size 0 lo)).toArray):=by
  show((items.toList.drop _).take _).toArray.size<=sizeLine;rw[ay,de,ke,cz];omega
 unfold zw
 try with_reducible refine gb ?_
 refine δ (wpAny_sequenceKey ht.typeIs (by decide) ?_);refine δ (df  ht.typeIs jx
  (dg jx ht.typeIs entry_tuple_getitem ?_<|args_tuple_getitem _ _))
 show wpAny _ _ (Oc _>>=_) _ _ s;refine δ<|tupleItemsOf_ ht<|δ<|u_ ⟨os,hos,hcs⟩ (δ<|Pp hs pl pu ?_)
 have hno:¬ ((((sIx items.size 0 lo):Int)==0&&(1:Int)==1&&(sIx items.size items.size hi-sIx items.size 0 lo)==items.size)=true):=by
  intro q;rw[cb,cb]at q
  have q1:=eq_of_beq q.1.1
  have q2:=eq_of_beq q.2;exact hw {cw q1,by omega}
 show wpAny _ _ (if(((sIx _ 0 lo):Int)==0&&1==1&&(sIx _ _ hi-sIx _ 0 lo)==items.size)=true then _ else _) _ _ s;rw[if_neg hno,Pq]
 first
  |exact δ  _
  |exact δ  (dh (δ<|ν<|ν {_,rfl,ν h}) htake)
  |exact δ _
  |exact δ _
end
end HT
namespace L2
abbrev TO:=St->Hp->(Option Int->Hp->Prop)->Prop
def PO(X:Cx)(e:Option Expr)(t:TO):Prop :=
 ∀ (AA:tN) (s:π) (σ:St) (H:Hp) (Q:Option Int->Hp->Prop),Inv X AA σ H s->t σ H Q ->
  wpAny (model X.prog X.w) X.A (evalPart e X.env) (λu s'=>∃ o H',Inv X AA σ H' s'/\Ce u o/\Q o H') X.xe s
def J0:TO:=λ_ H Q=>Q none H
def O9(t:TE):TO:=λσ H Q=>t σ H λx H1=>∃ i,x=.int i/\Q (some i) H1
section
variable{X:Cx}{e:Expr}{te:TE}{lo hi:Option Expr}{tl th:TO}{pos p2:Pos}
def Pw:PO X none J0:=λAA s σ H Q I h=>ν<|x2 _ H {I,.none,h}
def Px(h:PE X e te):PO X (some e) (O9 te):=by
 refine λAA s σ H Q I hw=>AO (h _ s σ H _ I hw) λu s1 hzz=>?_;obtain⟨x,H1,I1,r1,⟨i,rfl,q⟩⟩:=hzz;obtain⟨t,rfl⟩:=r1;exact x2 _ H1 {I1,.int i t,q}
def SlR(X:Cx)(r:V->Option Int->Option Int->Hp->VK->Prop):Prop :=
 ∀ (AA:tN) (s:π) (σ:St) (H:Hp) (x:V) (v vl vu:Value) (lo hi:Option Int) (sl:Addr) (Q:VK),Inv X AA σ H s->RelV x v->s.heap.IsSliceOf sl vl vu .none->Ce vl lo->Ce vu hi->r x lo hi H Q ->
  ∃ T id,Od (.type T) "__getitem__"=pure (some<|.builtin id)/\s.TypeIs v T/\wpAny (model X.prog X.w) X.A (zw v<|.ref sl) (EP X AA σ Q) X.xe s
def SlR.or(h:SlR X r)(h':SlR X r'):SlR X (λx lo hi H Q=>r x lo hi H Q\/r' x lo hi H Q):=by
 intro AA s σ H x v vl vu lo hi sl Q I rx hs pl pu q;rcases q with q|q
 exact h _ s σ H x v vl vu lo hi sl Q I rx hs pl pu q;exact h' _ s σ H x v vl vu lo hi sl Q I rx hs pl pu q
def J1(r:V->Option Int->Option Int->Hp->VK->Prop)(te:TE)(tl th:TO):TE:=λσ H Q=>te σ H λx H1=>tl σ H1 λl H2=>th σ H2 λu H3=>r x l u H3 Q
def Py(hr:SlR X r)(he:PE X e te)(hl:PO X lo tl)(hu:PO X hi th):PE X (.Subscript e (.Slice lo hi none p2) pos) (J1 r te tl th):=by
 refine λAA s σ H Q I h=>Oe<|AO (he _ s σ H _ I h) λv s1 ⟨x,H1,I1,r1,q1⟩=>(wpAny_Slice<|AO (hl _ s1 σ H1 _ I1 q1) λvl s2 ⟨l,H2,I2,pl,q2⟩=>AO (hu _ s2 σ H2 _ I2 q2) λvu s3 hzz=>?_);obtain⟨u,H3,I3,pu,q3⟩:=hzz
 have I4:Inv X _ σ H3 { s3 with heap:=s3.heap.push { cls:=.type "slice",data:=.fields #[vl,vu,.none] } }:=I3.kept  λb ob q=>ξ _ q;refine ν<|u2 ?_<|hr _ _ σ H3 x v vl vu l u _ Q I4 r1 (Qu ..) pl pu q3;rintro T id ⟨hT,ht,hg⟩;exact tail_any  ht hT hg (by with_unfolding_all rfl)
def FU(xs:Tr)(lo hi:Option Int):Tr:=(xs.drop<|HT.sIx xs.length 0 lo).take (HT.sIx xs.length xs.length hi-HT.sIx xs.length 0 lo)
def lD(xs:Tr)(lo hi:Option Int):(FU xs lo hi).length<=xs.length:=by
 unfold FU;rw[de,ke]
 lia
def lE(K:μ):V->Option Int->Option Int->Hp->VK->Prop:=λx lo hi H Q=>∃ a xs,x=.ref a/\SqT K H a xs /\
 ¬ (HT.sIx xs.length 0 lo=0/\HT.sIx xs.length xs.length hi=xs.length)/\∀ p,H p=none->Q (.ref p) (upd H p<|.tup<|FU xs lo hi)
def Pz:SlR X (lE X.K):=by
 intro AA s σ H x v vl vu lo hi sl Q I rx hs pl pu h;revert h;apply u2;rintro a xs ⟨rfl,hx,hw,q⟩;subst rx;obtain⟨AJ,r,ht,hz⟩:=I.tuple hx
 have B9:AJ.toArray.size=xs.length:=r.length.symm;refine x2 _ _ {jx.lookup,ht.typeIs,(HT.getItem_tuple_cut ht hs pl pu (by rw[B9];exact hw) ?_ (by rw[B9];exact hz))};rw[B9];exact x2 (.ref _) _ {I.laid  (o:=.tup _) (λb ob q=>ξ _ q) (υ _) {ψ (lD xs lo hi) hz,_,(r.drop _).take _,Pe _ _},rfl,q _<|I.hok.fresh<|υ _}
def WY(K:μ):R2:=λx y H Q=>∃ a b xs ys,x=.ref a/\y=.ref b/\SqT K H a xs/\SqT K H b ys/\xs≠[]/\xs.length+ys.length<=sizeLine /\
 (ys=[]->Q (.ref a) H)/\(ys≠[]->∀ p,H p=none->Q (.ref p) (upd H p<|.tup<|xs++ys))
def Vals.nil_iff(r:Vals xs us):us=[]↔xs=[]:=by
 cases r with
 |nil=>simp
 |cons _ _=>simp
def Qb:BT X (jh .Add) (WY X.K):=by
 intro AA s σ H x y v u Q I rx ry h;revert h;apply u4;rintro a b xs ys ⟨rfl,rfl,ha,hb,hx,hz,q1,q2⟩;subst rx;obtain⟨AJ,r1,p1,t⟩:=I.tuple ha;subst ry;obtain⟨L6,r2,p2,t⟩:=I.tuple hb;exact HT.cat_tup p1 p2 (λz=>hx<|r1.nil_iff.mp z) (λz=>x2 (.ref a) H {I,rfl,q1<|r2.nil_iff.mp z}) (λz=>(x2 (.ref _) _ {I.laid  (o:=.tup _) (λb ob q=>ξ _ q) (υ _) {by rw[ae];exact hz,_,r1.append r2,Pe _ _},rfl,q2 (λw=>z<|r2.nil_iff.mpr w) _ (I.hok.fresh<|υ _)})) (by rw[<-r1.length,<-r2.length];exact hz)
end
def HX(n:Nat)(i:Int):Option Nat:=if 0<=i then(if i<n then some i.toNat else none)else if -(n:Int)<=i then some (i+n).toNat else none
def MC{α :Type}(xs:List α)(i:Int):Option α :=(HX xs.length i).bind λj=>xs[j]?
def lF(h:HX n i=some j):Jo i n=some j/\j<n/\ -(n:Int)<=i/\i<n:=by
 unfold HX at h;by_cases h0:0<=i;rw[if_pos h0]at h;by_cases h1:i<n;rw[if_pos h1]at h
 have e:=ι h;exact{by rw[Ma h0 h1,e],by omega,by omega,h1};rw[if_neg h1]at h;cases h;rw[if_neg h0]at h;by_cases h1: -n<=i;rw[if_pos h1]at h
 have e:=ι h;exact{by rw[Hf (by omega) h1,e],by omega,h1,by omega};rw[if_neg h1]at h;cases h
def WZ{α :Type}{xs:List α}{i:Int}{v: α}(h:MC xs i=some v):∃ j,Jo i xs.length=some j/\xs[j]? =some v/\j<xs.length/\ -(xs.length:Int)<=i/\i<xs.length:=by
 unfold MC at h;cases e:HX _ i with
 |none=>rw[e]at h;cases h
 |some j =>
  rw[e]at h;obtain⟨h1,h2,h3,h4⟩:=lF e;exact⟨j,h1,h,h2,h3,h4⟩
def W1{α :Type}{xs:List α}{j:Nat}{v: α}(h:xs[j]? =some v):MC xs (j:Int)=some v:=by
 have e:HX xs.length j=some j:=by
  unfold HX;rw[if_pos (i0),if_pos<|d_.mpr<|(ε.mp h).1];simp
 unfold MC;rw[e];exact h
def Qc(b:Expr):Prop:=∀ o i,Cf b false o i=operate [o,i] (zw o i)
def IxR(X:Cx)(r:R2):Prop :=
 ∀ (value slice:Expr) (AA:tN) (s:π) (σ:St) (H:Hp) (x y:V) (v u:Value) (Q:VK),Inv X AA σ H s->RelV x v->RelV y u->r x y H Q ->
  Cf slice false v u=operate [v,u] (zw v u)->wpAny (model X.prog X.w) X.A (subscriptTail value slice v u) (EP X AA σ Q) X.xe s
def lG(X:Cx)(id:String)(r:V->Tr->Hp->VK->Prop):Prop :=
 ∀ (AA:tN) (s:π) (σ:St) (H:Hp) (x:V) (xs:Tr) (v:Value) (us:Su) (Q:VK),Inv X AA σ H s->RelV x v->Vals xs us->r x xs H Q ->
  wpAny (model X.prog X.w) X.A (call (.builtin id) (v::us)) (EP X AA σ Q) X.xe s
section
variable{X:Cx}{a b:Expr}{ta tb:TE}{pos:Pos}
def IxR.or(h:IxR X r)(h':IxR X r'):IxR X (λx y H Q=>r x y H Q\/r' x y H Q):=by
 intro value slice AA s σ H x y v u Q I rx ry q hs;rcases q with q|q
 exact h _ _ _ s σ H x y v u Q I rx ry q hs;exact h' _ _ _ s σ H x y v u Q I rx ry q hs
def lH(hr:IxR X r)(ha:PE X a ta)(hb:PE X b tb)(hs:Qc b):PE X (.Subscript a b pos) (AD r ta tb):=λAA s σ H Q I h=>Oe<|WQ ha hb I h λv u s2 x y H2 I2 rx ry q=>hr a b _ s2 σ H2 x y v u Q I2 rx ry q<|hs _ _
def lI(K:μ):R2:=λx y H Q=>∃ p xs i v,x=.ref p/\y=.int i/\SqL K H p xs/\MC xs i=some v/\Q v H
def lJ(K:μ):R2:=λx y H Q=>∃ p xs i v,x=.ref p/\y=.int i/\SqT K H p xs/\MC xs i=some v/\Q v H
def lL:R2:=λx y H Q=>∃ z i c,x=.str z/\y=.int i/\z.length<=sizeLine/\MC z.cps.toList i=some c/\Q (.str {#[c]}) H
def Qd:IxR X (lI X.K):=by
 intro value slice AA s σ H x y v u Q I rx ry h hs;revert h;apply u4;rintro p xs i z ⟨rfl,rfl,hq,he,q⟩;subst rx;obtain⟨AJ,r,pl,hz⟩:=I.list hq;obtain⟨j,h1,h2,h3,h4,h5⟩:=WZ he;obtain⟨t,rfl⟩:=ry;obtain⟨w,ew,rw'⟩:=r.get h2
 have hl:=r.length
 have hn:=O2
 have fin:EP X _ σ Q w s:=x2 z H ⟨I,rw',q⟩;by_cases h0:0<=i
 have hj:i.toNat=j:=by
  rw[Ma h0 h5]at h1;exact ι h1
 exact item_listR pl.isList h0 (by lia) (by rw[hj];simpa using ew) fin hs
 have hj:(i+AJ.toArray.size).toNat=j:=by
  rw[Hf (by omega) h4]at h1;rw[ay,<-hl];exact ι h1
 exact zx  pl.isList.typeIs Hi.lookup
  (wpAny_getItem_list_neg  pl.isList (by omega) (by rw[ay]<;>exact hl ▸ h4) (by lia) (by rw[hj];simpa using ew) ⟨rfl,fin⟩) hs
def Qg:IxR X (lJ X.K):=by
 intro value slice AA s σ H x y v u Q I rx ry h hs;revert h;apply u4;rintro p xs i z ⟨rfl,rfl,hq,he,q⟩;subst rx;obtain⟨AJ,r,pl,hz⟩:=I.tuple hq;obtain⟨j,h1,h2,h3,h4,h5⟩:=WZ he;obtain⟨t,rfl⟩:=ry;obtain⟨w,ew,rw'⟩:=r.get h2
 have hn:=O2;exact zx  pl.typeIs jx.lookup
  (getItem_tuple   pl (by lia) (by lia) (by rw[ay,<-r.length];exact h1) (by simpa using ew) {rfl,(x2 z H ⟨I,rw',q⟩)}) hs
def Qh:IxR X lL:=by
 intro value slice AA s σ H x y v u Q I rx ry h hs;revert h;apply u3;rintro z i c ⟨rfl,rfl,hz,he,q⟩;obtain⟨t,rfl⟩:=rx;obtain⟨t',rfl⟩:=ry;obtain⟨j,h1,h2,h3,h4,h5⟩:=WZ he
 have hl:z.cps.toList.length=z.length:=by simp[Fs]
 rw[hl]at h1 h4 h5
 have hn:=O2;exact tail_any (Of s z t) slot_str_getitem.lookup (getItem_str  (by
  rw[(decide_eq_false (by omega)),(decide_eq_false (by omega)),oq]) (by rw[h1];simpa using h2) (x2 (.str _) H {I.tok _,⟨_,rfl⟩,q})) hs
def lM(K:μ):R2:=λx y H Q=>lI K x y H Q\/lJ K x y H Q\/lL x y H Q
def Qj:IxR X (lM X.K):=Qd.or<|Qg.or Qh
def Qk(AJ:Su)(n j:Nat)(u:Value):gr (·.setIfInBounds j u) { cls:=.type "list",data:=.seq AJ.toArray n }={ cls:=.type "list",data:=.seq (AJ.set j u).toArray n }:=by
 simp[gr]
def Inv.lst{AA:tN}{σ:St}{H:Hp}{s:π}{p:Addr}{xs:Tr}(I:Inv X AA σ H s)(h:H p=some (.lst xs)) :
  ∃ (AJ:Su) (n:Nat),Vals xs AJ/\s.heap.get? p=some { cls:=.type "list",data:=.seq AJ.toArray n }/\xs.length<=sizeLine:=by
 obtain⟨z,AJ,n,r,e⟩:=I.hok p _ h;exact x2 _ n ⟨r,e,z⟩
def Inv.lstUpd{s:π}{xs ys:Tr}{AJ its':Su}{f:Obj->Obj}(I:Inv X AA σ H s)(h:H p=some (.lst xs))
  (ho:s.heap.get? p=some { cls:=.type "list",data:=.seq AJ.toArray n }) (hf:f { cls:=.type "list",data:=.seq AJ.toArray n }={ cls:=.type "list",data:=.seq its'.toArray n' }) (r:Vals ys its') (hz:ys.length<=sizeLine) (t:Nat) :
  Inv X AA σ (upd H p<|.lst ys) { s with heap:=s.heap.update p f,toks:=t }:=by
 have e:(s.heap.update p f).get? p=some { cls:=.type "list",data:=.seq its'.toArray n' }:=by
  rw[c_ f ho (by rw[hf]<;>rfl),hf]
 exact I.write   (by rw[h];trivial) (.inl rfl) (λb u hb q=>(ck _ _<|fj hb).trans q) ⟨_,e⟩ ({hz,x2 _ n' ⟨r,e⟩})
def lN:V->V->V->Hp->(Hp->Prop)->Prop:=λo i v H Q=>∃ p xs k j,o=.ref p/\i=.int k/\H p=some (.lst xs)/\HX xs.length k=some j/\Q (upd H p<|.lst<|xs.set j v)
def Ql:WO X lN:=by
 intro AA s σ H o i v ov iv u Q I ro ri rv h;revert h;apply u4;rintro p xs k j ⟨rfl,rfl,hp,hj,q⟩;subst ro;obtain⟨t,rfl⟩:=ri;refine u2 ?_<|I.lst hp;rintro AJ n ⟨r,ho,hz⟩;obtain⟨h1,h2,h3,h4⟩:=lF hj
 have hl:=r.length
 have hn:=O2
 have I':Inv X _ σ _ _ :=
  I.lstUpd hp ho (Qk _ n j u) (r.set rv j) (by rw[ky];exact hz) s.toks
 by_cases h0:0<=k
 have hk:k.toNat=j:=by
  rw[Ma h0 h4]at h1;exact ι h1
 exact W.ki_setAt ho h0 (by lia) (by rw[ay,<-hl];exact h4) (by rw[hk];exact⟨_,I',q⟩)
 have hk:(k+AJ.toArray.size).toNat=j:=by
  rw[Hf (by omega) h3]at h1;rw[ay,<-hl];exact ι h1
 exact W.ki_setBack ho (by omega) (by rw[ay,<-hl];exact h3) (by lia) (by rw[hk];exact⟨_,I',q⟩)
def Qm(lo hi:Option Int)(n:Nat):(uu lo hi none n).1=((HT.sIx n 0 lo:Nat):Int)/\(uu lo hi none n).2.1=((HT.sIx n n hi:Nat):Int)/\(uu lo hi none n).2.2=1:=by
 refine{?_,?_,rfl};cases lo with
 |none=>simp[uu,HT.sIx]
 |some i =>
  simp only[uu,HT.sIx,Jr];by_cases h:i<0;simp only[h,if_true]<;>omega;simp only[h,if_false]<;>omega
 cases hi with
 |none=>simp[uu,HT.sIx]
 |some i =>
  simp only[uu,HT.sIx,Jr];by_cases h:i<0;simp only[h,if_true]<;>omega;simp only[h,if_false]<;>omega
def Qp(AJ:Su)(lo hi:Option Int):slicePick AJ.toArray lo hi none=((AJ.drop<|HT.sIx AJ.length 0 lo).take (HT.sIx AJ.length AJ.length hi-HT.sIx AJ.length 0 lo)).toArray:=by
 obtain⟨h1,h2,h3⟩:=Qm lo hi _;unfold slicePick;rw[h1,h2,h3];simp only[sliceRange_one,pick_run]<;>rfl
def lO(K:μ):V->Option Int->Option Int->Hp->VK->Prop:=λx lo hi H Q=>∃ a xs,x=.ref a/\SqL K H a xs/\∀ p,H p=none->Q (.ref p) (upd H p<|.lst<|FU xs lo hi)
def Qq:SlR X (lO X.K):=by
 intro AA s σ H x v vl vu lo hi sl Q I rx hs pl pu h;revert h;apply u2;rintro a xs ⟨rfl,hx,q⟩;subst rx;obtain⟨AJ,r,ht,hz⟩:=I.list hx
 have B9:=r.length;refine x2 _ _ {Hi.lookup,ht.isList.typeIs,(wpAny_getItem_list_slice ht.isList hs pl pu .none (by simp) ?_ (by rw[ay]<;>exact B9 ▸ hz))};rw[Qp,<-B9];exact x2 (.ref _) _ {I.laid  (o:=.lst _) (λb ob q=>ξ _ q) (υ _) ({ψ (lD xs lo hi) hz,x2 _ 0 {(r.drop _).take _,aj _ rfl}}),rfl,q _<|I.hok.fresh<|υ _}
def HY:V->Bool
 |.non=>true
 |.bl _=>true
 |.int _=>true
 |.str _=>true
 |_=>false
def G8:V->V->Bool
 |.non,.non=>true
 |.bl a,.bl b=>a==b
 |.bl a,.int b=>(if a then 1 else 0)==b
 |.int a,.bl b=>a ==(if b then 1 else 0)
 |.int a,.int b=>a==b
 |.str a,.str b=>a==b
 |_,_=>false
def Qv(ry:RelV y u)(rx:RelV x v)(fy:HY y=true)(fx:HY x=true):Q_ A s u v (G8 y x):=by
 cases y with
 |non =>
  cases ry;cases x with
  |non=>subst rx;exact SeqAt.EqAt.same _
  |bl b=>subst rx;exact SeqAt.EqAt.none_bool b
  |int b=>obtain⟨t,rfl⟩:=rx;exact SeqAt.EqAt.none_int b t
  |str b=>obtain⟨t,rfl⟩:=rx;exact SeqAt.EqAt.none_str b t
  |_=>exact absurd (fx) bc
 |bl a =>
  subst ry;cases x with
  |non=>subst rx;exact SeqAt.EqAt.bool_none a
  |bl b=>subst rx;exact SeqAt.EqAt.bool_bool a b
  |int b=>obtain⟨t,rfl⟩:=rx;exact SeqAt.EqAt.bool_int a b t
  |str b=>obtain⟨t,rfl⟩:=rx;exact SeqAt.EqAt.bool_str a b t
  |_=>exact absurd (show false=true from fx) bc
 |int a =>
  obtain⟨t',rfl⟩:=ry;cases x with
  |non=>cases rx;exact SeqAt.EqAt.int_none a t'
  |bl b=>cases rx;exact SeqAt.EqAt.int_bool a t' b
  |int b=>obtain⟨t,rfl⟩:=rx;exact SeqAt.EqAt.int_int a t' b t
  |str b=>obtain⟨t,rfl⟩:=rx;exact Fi a t' b t
  |_=>exact absurd (show false=true from fx) bc
 |str a =>
  obtain⟨t',rfl⟩:=ry;cases x with
  |non=>cases rx;exact SeqAt.EqAt.str_none a t'
  |bl b=>cases rx;exact SeqAt.EqAt.str_bool a t' b
  |int b=>obtain⟨t,rfl⟩:=rx;exact Fn a t' b t
  |str b=>obtain⟨t,rfl⟩:=rx;exact SeqAt.EqAt.str_str a t' b t
  |_=>exact absurd (show false=true from fx) bc
 |_=>exact absurd (show false=true from fy) bc
def MD(x:V)(u:Value):Bool:=match u with
 |.none=>G8 .non x
 |.bool b=>G8 (.bl b) x
 |.int i _=>G8 (.int i) x
 |.str z _=>G8 (.str z) x
 |_=>false
def lP(r:RelV y u)(f:HY y=true):MD x u=G8 y x:=by
 cases y with
 |non=>subst r;rfl
 |bl b=>subst r;rfl
 |int i=>obtain⟨t,rfl⟩:=r;rfl
 |str z=>obtain⟨t,rfl⟩:=r;rfl
 |_=>exact absurd (f) bc
def PD:∀ {xs:Tr} {us:Su},Vals xs us->xs.all HY=true->us.any (MD x)=xs.any λy=>G8 y x
 |_,_,.nil,_=>rfl
 |y::xs,u::us,.cons r t,f=>by
  rw[wj,cb]at f;rw[tf,tf,lP r f.1,PD t f.2]
def PJ(rx:RelV x v)(fx:HY x=true):∀ {xs:Tr} {us:Su},Vals xs us->xs.all HY=true->∀ u∈us,Q_ A s u v (MD x u)
 |_,_,.nil,_=>λu hu=>by cases hu
 |y::xs,u::us,.cons r t,f=>λu' hu=>by
  rw[wj,cb]at f;rcases ax.mp hu with rfl|hu
  rw[lP r f.1];exact Qv r rx f.1 fx;exact PJ rx fx t f.2 u' hu
def NM(x:V)(xs:Tr):Bool:=xs.any λy=>G8 y x
def PK(K:μ)(neg:Bool):R2:=λx y H Q=>∃ p xs,y=.ref p/\(SqL K H p xs\/SqT K H p xs)/\HY x=true/\xs.all HY=true/\Q (.bl<|if neg then !NM x xs else NM x xs) H
def Qw:BT X (dt .In) (PK X.K false):=by
 intro AA s σ H x y v u Q I rx ry h;revert h;apply u2;rintro p xs ⟨rfl,hq,fx,fs,q⟩;subst ry;rcases hq with hq|hq
 obtain⟨AJ,r,pl,hz⟩:=I.list hq;refine SeqAt.in_listAt _ pl.isList (λw hw=>PJ rx fx r fs w (by simpa using hw)) (x2 (.bl _) H {I,rfl,?_});rw[show AJ.toArray.any _=AJ.any (MD x) by simp,PD r fs];exact q;obtain⟨AJ,r,pl,hz⟩:=I.tuple hq;refine Js _ pl (λw hw=>PJ rx fx r fs w (by simpa using hw)) (x2 (.bl _) H {I,rfl,?_});rw[show AJ.toArray.any _=AJ.any (MD x) by simp,PD r fs];exact q
def Qx:BT X (dt .NotIn) (PK X.K true):=by
 intro AA s σ H x y v u Q I rx ry h;revert h;apply u2;rintro p xs ⟨rfl,hq,fx,fs,q⟩;subst ry;rcases hq with hq|hq
 obtain⟨AJ,r,pl,hz⟩:=I.list hq;refine SeqAt.notIn_listAt _ pl.isList (λw hw=>PJ rx fx r fs w (by simpa using hw)) (x2 (.bl _) H {I,rfl,?_});rw[show AJ.toArray.any _=AJ.any (MD x) by simp,PD r fs];exact q;obtain⟨AJ,r,pl,hz⟩:=I.tuple hq;refine SeqAt.notIn_tupleAt _ pl (λw hw=>PJ rx fx r fs w (by simpa using hw)) (x2 (.bl _) H {I,rfl,?_});rw[show AJ.toArray.any _=AJ.any (MD x) by simp,PD r fs];exact q
def Qy:DT X (.type "list") (λxs H Q=>∃ p ys,xs=[.ref p]/\(SqL X.K H p ys\/SqT X.K H p ys)/\∀ l,H l=none->Q (.ref l) (upd H l<|.lst ys)):=by
 intro AA s σ H xs us Q I r h;revert h;apply u2;rintro p ys ⟨rfl,hq,q⟩
 have fin:∀ (AJ:List _),Vals ys _->ys.length<=sizeLine->∀ (h':Heap) (c':Nat),(∀ b o',s.heap.get? b=some o'->h'.get? b=some o') ->
   h'.get? _=some _->EP X _ σ Q _ { s with heap:=h' }:=λAJ r' hz h' c' kp e =>
  {.ref _,_,I.laid  kp (υ _) (show ObjOk _ _ _ h' _ (.lst ys)from{hz,x2 AJ c' ⟨r',e⟩}),rfl,q _<|I.hok.fresh<|υ _}
 obtain⟨u,rfl,rfl⟩:=FT r;rcases hq with hq|hq
 obtain⟨AJ,r',pl,hz⟩:=I.list hq;obtain⟨o,ho,hc,n,hd⟩:=pl.isList;exact call_list_seq p (.inl rfl) ho hc hd (λh' c' kp e=>fin _ r' hz h' c' kp e) (by simp only[ay]<;>exact r'.length ▸ hz);obtain⟨AJ,r',⟨o,ho,hc,n,hd⟩,hz⟩:=I.tuple hq;exact call_list_seq p (.inr rfl) ho hc hd (λh' c' kp e=>fin _ r' hz h' c' kp e) (by simp only[ay]<;>exact r'.length ▸ hz)
def Qz:DT X (.type "tuple") (λxs H Q=>∃ p ys,xs=[.ref p]/\((SqL X.K H p ys/\∀ l,H l=none->Q (.ref l) (upd H l<|.tup ys))\/(SqT X.K H p ys/\Q (.ref p) H))):=by
 intro AA s σ H xs us Q I r h;revert h;apply u2;rintro p ys ⟨rfl,h⟩;obtain⟨u,rfl,rfl⟩:=FT r;rcases h with⟨hq,q⟩|⟨hq,q⟩
 obtain⟨AJ,r',pl,hz⟩:=I.list hq;refine call_tuple_list pl.isList (λh' kp=>?_) (by simp only[ay]<;>exact r'.length ▸ hz)
 have I1:Inv X _ σ H { s with heap:=h' }:=I.kept  kp
 have I2:Inv X _ σ (upd H _<|.tup ys) { s with heap:=h'.push _ } :=
  I1.laid  (λb o e=>ξ _ e) (υ _) ({hz,_,r',Pe _ _})
 exact x2 (.ref _) _ {I2,rfl,q _<|I1.hok.fresh<|υ _};obtain⟨AJ,r',pl,hz⟩:=I.tuple hq;exact call_tuple_same pl<|x2 (.ref p) H ⟨I,rfl,q⟩
def W2(K:μ)(T:String)(x:V)(H:Hp):Prop:=match x with
 |.str _=>T="str"
 |.int _=>T="int"
 |.ref p=>(T="list"/\∃ xs,SqL K H p xs)\/(T="tuple"/\∃ o,K.lookup p=some o/\o.cls=.type "tuple"/\o.dict=none) ∨
   (T="dict"/\((∃ kvs,H p=some (.dK kvs))\/∃ kvs,H p=some (.dT kvs)))\/(T="set"/\∃ S n,H p=some (.set S n))
 |_=>False
def Rb(I:Inv X AA σ H s)(r:RelV x v)(ty:W2 X.K T x H) :
  s.TypeIs v T/\∀ a,v=.ref a->∃ ob,s.heap.get? a=some ob/\ob.dict=none:=by
 cases x with
 |str z =>
  obtain⟨t,rfl⟩:=r;cases (ty);exact{Of s z t,λ_ e=>nomatch e}
 |int i =>
  obtain⟨t,rfl⟩:=r;cases (ty);exact{z_ s i t,λ_ e=>nomatch e}
 |ref p =>
  subst r;rcases ty with⟨rfl,xs,hq⟩|⟨rfl,o,hk,hc,hd⟩|⟨rfl,hk⟩|⟨rfl,S,n,hk⟩
  obtain⟨AJ,_,pl,_⟩:=I.list hq;refine{pl.isList.typeIs,λa e=>?_};cases e;revert pl;apply u2;rintro o n ⟨e,c,hd,_⟩;exact⟨o,e,hd⟩;refine{{o,I.kIn p o hk,hc},λa e=>?_};cases e;exact{o,I.kIn _ o hk,hd}
  have z:∃ o,s.heap.get? p=some o/\o.ExactDict:=by
   rcases hk with⟨kvs,hk⟩|⟨kvs,hk⟩
   obtain⟨_,_,_,_,o,_,_,e,ex,_⟩:=I.hok p _ hk;exact⟨o,e,ex⟩;obtain⟨_,_,_,_,o,_,_,e,ex,_⟩:=I.hok p _ hk;exact⟨o,e,ex⟩
  obtain⟨o,e,ex⟩:=z;refine{⟨o,e,ex.1⟩,λa e2=>?_};cases e2;exact⟨o,e,ex.2.1⟩;refine u4 ?_<|I.hok p _ hk;rintro o _ _ _ ⟨e,ex,_⟩;refine{⟨o,e,ex.1⟩,λa e2=>?_};cases e2;exact⟨o,e,ex.2.1⟩
 |_=>exact jk ty
def D8(K:μ)(T:String)(r:V->Tr->Hp->VK->Prop)(to:TE)(t:TA):TE:=λσ H Q=>to σ H λx H1=>W2 K T x H1/\t σ H1 λxs H2=>r x xs H2 Q
variable{o e:Expr}{es:Vu}{to:TE}{t:TA}{name:Str}{CP DC:Pos}{T id:String}{r:V->Tr->Hp->VK->Prop}
def PL(pa:PlainAttrs T)(slot:Slot T name id)(hty:typeOf (.builtin id)=pure (.type "method_descriptor"))(hm:lG X id r)(ho:PE X o to)(ha:PA X (e::es) t)
  (hbase:wg o name X.env (eval o X.env)=eval o X.env:=by rfl)
  (hfew:((jp DC<|a_ (e::es) X.env).all (λx=> !x.1)&&(wm DC<|mx [] X.env).all (λx=>x.1.isSome)
   && decide ((e::es).length+([]:List Dt).length+(if([]:List Dt).isEmpty then 0 else 1)<30))=true:=by rfl)
  (hline:(CP.endLine==DC.line)=true:=by rfl) (hs:a_ (e::es) X.env=(false,eval e X.env)::a_ es X.env:=by rfl) (hplain:(jp DC<|a_ es X.env).any (·.1)=false:=by rfl) :
  PE X (.Call (.Attribute o name CP) (e::es) [] DC) (D8 X.K T r to t):=by
 refine λAA s σ H Q I h=>wpAny_Call_method_late hbase hfew hline rfl<|AO (ho _ s σ H _ I h) λv s1 hzz=>?_;obtain⟨x,H1,I1,r1,ty,q1⟩:=hzz;obtain⟨h1,h2⟩:=Rb I1 r1 ty
 have hA:=ha DC _ s1 σ H1 _ I1 q1;refine x2 T id {pa,slot,hty,h1,h2,?_};rw[hs]at hA ⊢;exact nc (by show(false||(jp _ _).any _)=false;rw[hplain]<;>rfl) (lg (AO hA (by rintro us s2 ⟨vs,H2,I2,r2,q2⟩;exact hm _ s2 σ H2 x vs v us Q I2 r1 r2 q2)))
end
def PN(X:Cx)(id:String)(r:V->Tr->Hp->VK->Prop):Prop :=
 ∀ (AA:tN) (s:π) (σ:St) (H:Hp) (x:V) (xs:Tr) (v:Value) (us:Su) (Q:VK),Inv X AA σ H s->RelV x v->Vals xs us->r x xs H Q ->
  wpAny (model X.prog X.w) X.A (call (.builtin id) (v::us)) (EP X AA σ Q) X.xe s
def Vals.one:∀ {x:V} {us:Su},Vals [x] us->∃ u,us=[u]/\RelV x u
 |_,_,.cons r .nil=>⟨_,rfl,r⟩
def Vals.eraseIdx:∀ {xs:Tr} {us:Su} (i:Nat),Vals xs us->Vals (xs.eraseIdx i) (us.eraseIdx i)
 |_,_,_,.nil=>.nil
 |_,_,0,.cons _ t=>t
 |_,_,i+1,.cons r t=>.cons r<|Vals.eraseIdx i t
def Vals.rep(h:Vals xs us):∀ k:Nat,Vals (bg k xs).flatten (bg k us).flatten
 |0=>.nil
 |k+1=>Vals.append h<|Vals.rep h k
def lQ{α :Type}:∀ (l:List α) (i:Nat),(l.eraseIdx i).length<=l.length
 | [],_=>υ _
 |_::_,0=>jq _
 |_::r,i+1=>zn<|lQ r i
def SL(AJ:Su):∀ (k:Nat) (BO:Su),
  Ft (λx1 x2=>x1++x2) BO.toArray (bg k AJ.toArray)=(BO++(bg k AJ).flatten).toArray
 |0,BO=>by simp
 |k+1,BO=>by
  have e:BO.toArray++AJ.toArray=(BO++AJ).toArray:=by simp
  have e2:(BO++AJ)++(bg k AJ).flatten=BO++(bg (k+1) AJ).flatten:=by
   rw[mf,i_,gg]
  rw[<-e2,<-SL _ k _,<-e,mf,ju]
section
variable{X:Cx}{AA:tN}{σ:St}{H:Hp}{s:π}{l b:Addr}{xs ys zs:Tr}
def Inv.lset{AJ its':Su}{n:Nat}{f:Array Value->Array Value}{t':Nat}(I:Inv X AA σ H s)(hH:H l=some (.lst xs))
  (e:s.heap.get? l=some { cls:=.type "list",data:=.seq AJ.toArray n }) (hf:f AJ.toArray=its'.toArray) (hv:Vals ys its') (hz:ys.length<=sizeLine) :
  Inv X AA σ (upd H l<|.lst ys) { s with heap:=s.heap.update l<|gr f,toks:=t' }:=by
 have q:=PySem.IsL.update e f;rw[hf]at q;exact I.write   (by rw[hH];exact trivial) (.inl rfl) (λb' u hb hu=>(ck _ _<|fj hb).trans hu) ⟨_,q⟩ ({hz,x2 _ _ ⟨hv,q⟩})
def Inv.lnew(I:Inv X AA σ H s)(hv:Vals ys AJ)(hz:ys.length<=sizeLine) :
  Inv X AA σ (upd H s.heap.objs.size<|.lst ys) { s with heap:=s.heap.push { cls:=.type "list",data:=.seq AJ.toArray },toks:=t' } :=
 I.laid (λz z q=>ξ _ q) (υ _) {hz,x2 _ 0 {hv,aj _ rfl}}
def Inv.fresh(I:Inv X AA σ H s):H s.heap.objs.size=none:=I.hok.fresh<|υ _
def Inv.lstM(I:Inv X AA σ H s)(hH:H l=some (.lst xs)):xs.length<=sizeLine/\∃ (AJ:Su) (n:Nat),Vals xs AJ/\xs.length=AJ.length/\s.heap.get? l=some { cls:=.type "list",data:=.seq AJ.toArray n }:=by
 obtain⟨z,AJ,n,r,e⟩:=I.hok l _ hH;exact{z,x2 _ n ⟨r,r.length,e⟩}
def lR{n:Nat}(h:n<=sizeLine):lq n=false:=decide_eq_false<|Nat.not_lt.mpr h
end
section
variable{X:Cx}
def lS:V->Tr->Hp->VK->Prop:=λx vs H Q=>∃ l xs y,x=.ref l/\vs=[y]/\H l=some (.lst xs)/\xs.length<sizeLine/\Q .non (upd H l<|.lst<|xs++[y])
def Rc:PN X "list.append" lS:=by
 intro AA s σ H x vs v us Q I rx rv h;revert h;apply u3;rintro l xs y ⟨rfl,rfl,hH,hz,q⟩;subst rx;obtain⟨u,rfl,ru⟩:=rv.one;obtain⟨z,AJ,n,r,hl,e⟩:=I.lstM hH;refine qv Fu ⟨_,e,rfl⟩ Ee (Ci _ _) (PySem.list_append l _ n u<|oB (cr (bt hl.symm) hz) rfl) {e,(x2 (.non) _ {I.lset  hH e (by simp) (r.append<|.cons ru .nil) ?_,rfl,q})};rw[ae];exact hz
def lT:V->Tr->Hp->VK->Prop:=λx vs H Q=>∃ l xs i k y,x=.ref l/\vs=[.int i]/\H l=some (.lst xs)/\ -(2^63)<=i/\i<2^63/\Jo i xs.length=some k/\xs[k]? =some y/\Q y (upd H l<|.lst<|xs.eraseIdx k)
def Rg:PN X "list.pop" lT:=by
 intro AA s σ H x vs v us Q I rx rv h;revert h;apply u5;rintro l xs i k y ⟨rfl,rfl,hH,h1,h2,hk,hy,q⟩;cases rx;obtain⟨u,rfl,ru⟩:=rv.one;obtain⟨t,rfl⟩:=ru;obtain⟨z,AJ,n,r,hl,e⟩:=I.lstM hH;obtain⟨w,hw,rw'⟩:=r.get hy;refine qv F.slot_list_pop ⟨_,e,rfl⟩ F.entry_list_pop (F.args_list_pop_2 _ _)
  (MeetsSeq.list_pop_at l AJ.toArray n i t k w (fitsIndex_both h1 h2) (by rw[ay,<-hl];exact hk) (by rw[<-gq];exact hw) (by rw[ay];exact hl ▸ z)) {e,(x2 y _ {I.lset  hH e ?_ (r.eraseIdx k) ?_,rw',q})}
 ·rw[List.eraseIdxIfInBounds_toArray]
 ·have:=lQ xs k;exact ψ this z
def W3:R2:=λx y H Q=>∃ l b xs zs,x=.ref l/\y=.ref b/\H l=some (.lst xs)/\H b=some (.lst zs)/\xs.length+zs.length<=sizeLine/\∀ p,H p=none->Q (.ref p) (upd H p<|.lst<|xs++zs)
def Rh:BT X (jh .Add) W3:=by
 intro AA s σ H x y v u Q I rx ry h;revert h;apply u4;rintro l b xs zs ⟨rfl,rfl,hH,hB,hz,q⟩;subst rx;obtain⟨z,AJ,n,r,hl,e⟩:=I.lstM hH;subst ry;obtain⟨z2,L6,n2,r2,D3,e2⟩:=I.lstM hB
 have ea:AJ.toArray++L6.toArray=(AJ++L6).toArray:=by simp
 refine PySem.P.add_list e e2 ?_ (by rw[ay,ay];exact hl ▸ D3 ▸ hz);rw[ea];exact x2 (.ref _) _ {I.lnew  (r.append r2) (by rw[ae];exact hz),rfl,q _ I.fresh}
def W8:R2:=λx y H Q=>∃ l k xs,x=.ref l/\y=.int k/\H l=some (.lst xs)/\ -(2^63)<=k/\k<2^63/\xs.length*k.toNat<=sizeLine /\
 ∀ p,H p=none->Q (.ref p) (upd H p<|.lst (bg k.toNat xs).flatten)
def lU{α :Type}(xs:List α)(k:Nat):(bg k xs).flatten.length=k*xs.length:=by
 induction k with
 |zero=>simp
 |succ k ih=>rw[mf,i_,ae,ih,va,vb]
def Rj:BT X (jh .Mult) W8:=by
 intro AA s σ H x y v u Q I rx ry h;revert h;apply u3;rintro l k xs ⟨rfl,rfl,hH,h1,h2,hz,q⟩;subst rx;obtain⟨t,rfl⟩:=ry;obtain⟨z,AJ,n,r,hl,e⟩:=I.lstM hH
 have B9:AJ.toArray.size*k.toNat<=sizeLine:=by rw[ay,<-hl];exact hz
 have hcap:¬ AJ.toArray.size*k.toNat >(2^63-1)/8:=by
  have:sizeLine<=(2^63-1)/8:=by decide
  lia
 have hfit:¬ (!Builtin.List.listFitsIndex k)=true:=by
  rw[fitsIndex_both h1 h2];exact bc
 have hlong:¬ lq (AJ.toArray.size*k.toNat)=true:=by
  rw[lR B9];exact bc
 have hnew:Ft (λx1 x2=>x1++x2) #[] (bg (if AJ.toArray.isEmpty=true then 0 else k.toNat) AJ.toArray)=(bg k.toNat AJ).flatten.toArray:=by
  have f0:=λm=>by
   have:=SL AJ m [];rw[t_]at this;exact this
  rw[f0];cases AJ with
  |nil=>simp
  |cons a r'=>rw[if_neg (by simp)]
 refine yb   (by decide) ⟨_,e,rfl⟩ (λs'=>z_ s' k t) noFill_list_mul Mn wu repeat_list Jt.lookup
  (qv wu (z_ s k t) Ju (Hn _ _) (int___rmul___int_list k t l _ n)
   {e,rfl,⟨_,e,rfl⟩,qv F.slot_list_mul ⟨_,e,rfl⟩ F.entry_list_mul (F.args_list_mul_2 _ _) (AutoListH.list___mul___list_int_3 l _ n k t hfit hcap hlong) {e,?_}})
 rw[hnew];exact x2 (.ref _) _ {I.lnew  (r.rep _) (by rw[lU,di];exact hz),rfl,q _ I.fresh}
end
section
variable{prog:bv}{w:World}{A:dk}{E:tV}{s:π}
set_option maxRecDepth 100000 in
end
section
variable{X:Cx}
end
section
variable{κ :Type}[DecidableEq κ]
def BF(kvs:List (κ × V))(k: κ):Option V:=(kvs.find? λkv=>decide<|kv.1=k).map (·.2)
def B0(kvs:List (κ × V))(k: κ)(v:V):List (κ × V) :=
 if(kvs.any λkv=>decide<|kv.1=k)=true then kvs.map (λkv=>if kv.1=k then(kv.1,v)else kv)else kvs++[(k,v)]
def J2(kvs:List (κ × V))(k: κ):List (κ × V):=kvs.filter λkv=>decide<|kv.1≠k
def G9{p: κ × V}{r:List (κ × V)}{k: κ}(e:p.1=k):BF (p::r) k=some p.2:=by simp[BF,e]
def HA{p: κ × V}{r:List (κ × V)}{k: κ}(e:¬ p.1=k):BF (p::r) k=BF r k:=by simp[BF,e]
def J3(k: κ):∀ kvs:List (κ × V),(kvs.any λkv=>decide<|kv.1=k)=(BF kvs k).isSome
 | []=>rfl
 |p::r=>by
  rw[tf];by_cases e:p.1=k;simp only[G9 e,decide_eq_true e,xc,Option.isSome_some];rw[HA e,decide_eq_false e];exact J3 k r
def lV(k j: κ)(y:V):∀ kvs:List (κ × V),BF (kvs.map λkv=>if kv.1=k then(kv.1,y)else kv) j=(BF kvs j).map λx=>if j=k then y else x
 | []=>rfl
 |p::r=>by
  have ih:=lV k j y r;rw[ca];by_cases h:p.1=k;rw[if_pos h];by_cases e:p.1=j;rw[G9 (p:=(p.1,y)) e,G9 e,ua,if_pos<|e.symm.trans h];rw[HA (p:=(p.1,y)) e,HA e,ih];rw[if_neg h];by_cases e:p.1=j;rw[G9  e,G9 e,ua,if_neg<|λz=>h<|e.trans z];rw[HA  e,HA e,ih]
def lW(k j: κ)(y:V):∀ kvs:List (κ × V),BF kvs k=none->BF (kvs++[(k,y)]) j=if j=k then some y else BF kvs j
 | [],_=>by
  by_cases e:k=j;rw[if_pos e.symm];exact G9  e;rw[if_neg (λz=>e z.symm)];exact HA  e
 |p::r,hn=>by
  have hk:¬ p.1=k:=λz=>by rw[G9 z]at hn;cases hn
  rw[vy];rw[HA hk]at hn;by_cases e:p.1=j;rw[G9 e,G9 e,if_neg<|λz=>hk<|e.trans z];rw[HA e,HA e,(lW k j y r hn)]
def K0(kvs:List (κ × V))(k j: κ)(y:V):BF (B0 kvs k y) j=if j=k then some y else BF kvs j:=by
 unfold B0;by_cases a:(kvs.any λkv=>decide<|kv.1=k)=true;rw[if_pos a,lV];rw[J3]at a;by_cases e:j=k;obtain⟨x,hx⟩:=fg.mp a;rw[if_pos e,e,hx,ua,if_pos rfl];rw[if_neg e];cases BF _ j with
 |none=>rfl
 |some x=>rw[ua,if_neg e]
 rw[if_neg a];refine lW k j y _ ?_;rw[J3]at a;cases q:BF _ k with
 |none=>rfl
 |some x=>rw[q]at a;exact(a rfl).elim
def K1(kvs:List (κ × V))(k: κ)(v:V):(B0 kvs k v).length<=kvs.length+1:=by
 unfold B0;split;rw[ζ];exact jq _;rw[ae,dv];exact fu _
def K2{kvs:List (κ × V)}{k: κ}(v:V)(h:BF kvs k=none):B0 kvs k v=kvs++[(k,v)]:=by
 unfold B0;rw[J3,h];exact if_neg (by decide)
def RelO.isSome_eq(r:RelO o u):o.isSome=u.isSome:=by
 cases o with
 |none=>cases u with
  |none=>rfl
  |some _=>exact(r).elim
 |some _=>cases u with
  |none=>exact(r).elim
  |some _=>rfl
def RelO.getD(r:RelO o u)(rd:RelV d d'):RelV (o.getD d) (u.getD d'):=by
 cases o with
 |none=>cases u with
  |none=>exact rd
  |some _=>exact(r).elim
 |some _=>cases u with
  |none=>exact(r).elim
  |some _=>exact r
def KV.val{kvs:List (κ × V)}{vs:List (κ × Value)}(r:KV kvs vs)(k: κ):RelO (BF kvs k) (Ho vs k):=by
 induction r with
 |nil=>exact qu
 |@cons p q ps qs h t ih =>
  obtain⟨h1,h2⟩:=h;by_cases e:p.1=k
  have b:Ho (q::qs) k=some q.2:=by simp[Ho,(h1.symm.trans e)]
  rw[G9 e,b];exact h2
  have e':¬ q.1=k:=λz=>e<|h1.trans z
  have b:Ho (q::qs) k=Ho qs k:=by simp[Ho,e']
  rw[HA e,b];exact ih
def KV.any{kvs:List (κ × V)}{vs:List (κ × Value)}(r:KV kvs vs)(k: κ):(kvs.any λkv=>decide<|kv.1=k)=vs.any λkv=>decide (kv.1=k):=by
 induction r with
 |nil=>rfl
 |cons h t ih=>rw[tf,tf,ih,h.1]
def KV.repl(r:KV kvs vs)(k: κ)(ry:RelV y u) :
  KV (kvs.map λkv=>if kv.1=k then(kv.1,y)else kv) (vs.map λkv=>if kv.1=k then(kv.1,u)else kv):=by
 induction r with
 |nil=>exact .nil
 |@cons p q ps qs h t ih =>
  rw[ca,ca];refine .cons ?_ ih;obtain⟨h1,h2⟩:=h;by_cases e:p.1=k;rw[if_pos e,if_pos<|h1.symm.trans e];exact⟨h1,ry⟩;rw[if_neg e,if_neg<|λz=>e<|h1.trans z];exact⟨h1,h2⟩
def KV.put(r:KV kvs vs)(k: κ)(ry:RelV y u):KV (B0 kvs k y) (stored vs k u):=by
 unfold B0 stored;rw[r.any k];by_cases e:(vs.any λkv=>decide<|kv.1=k)=true;rw[if_pos e,if_pos e];exact r.repl k ry;rw[if_neg e,if_neg e];exact Paired.snoc r ⟨rfl,ry⟩
def KV.drop(r:KV kvs vs)(k: κ):KV (J2 kvs k) (without vs k):=by
 unfold J2 without
 induction r with
 |nil=>exact .nil
 |@cons p q ps qs h t ih =>
  obtain⟨h1,h2⟩:=h;rw[J_,J_];by_cases e:p.1=k;rw[if_neg (by simp[e]),if_neg (by simp[h1.symm.trans e])];exact ih
  have e':¬ q.1=k:=λz=>e<|h1.trans z;rw[if_pos (by simp[e]),if_pos (by simp[e'])];exact .cons ⟨h1,h2⟩ ih
def KV.length{kvs:List (κ × V)}{vs:List (κ × Value)}(r:KV kvs vs):kvs.length=vs.length:=Paired.length r
def Rk(kvs:List (κ × V))(k: κ):(J2 kvs k).length<=kvs.length:=fm _ _
end
def K3(r:RelV (kV k) u):(DE P w).is k u=true:=by
 cases k with
 |inl i=>obtain⟨t,rfl⟩:=(r);exact Hh P w i t
 |inr x=>obtain⟨t,rfl⟩:=(r);exact Hj P w x t
def lX:∀ {ks:List AM} {us:Su},Vals (ks.map kV) us->ItemsAre (DE P w) ks us
 | [],_,r=>by cases r;exact .nil
 |k::ks,_,r=>by
  cases r with
  |cons h t=>exact .cons (K3 h) (lX t)
abbrev KT(H:Hp):RJ->vD->Prop:=Paired λp q=>p.1=q.1/\H q.2.1=some (.tup<|p.1.map kV)/\RelV p.2 q.2.2
def KT.val{H:Hp}{kvs:RJ}{xs:vD}(r:KT H kvs xs)(k:List AM):RelO (BF kvs k) ((atKey xs k).map (·.2)):=by
 induction r with
 |nil=>exact qu
 |@cons p q ps qs h t ih =>
  obtain⟨h1,y,h2⟩:=h;by_cases e:p.1=k
  have b:atKey (q::qs) k=some q.2:=by simp[atKey,(h1.symm.trans e)]
  rw[G9 e,b];exact h2
  have e':¬ q.1=k:=λz=>e<|h1.trans z
  have b:atKey (q::qs) k=atKey qs k:=by simp[atKey,e']
  rw[HA e,b];exact ih
def KT.repl(r:KT H kvs xs)(k:List AM)(ry:RelV y u) :
  KT H (kvs.map λkv=>if kv.1=k then(kv.1,y)else kv) (xs.map<|putAt k u):=by
 induction r with
 |nil=>exact .nil
 |@cons p q ps qs h t ih =>
  rw[ca];obtain⟨h1,h2,h3⟩:=h;refine .cons ?_ ih;unfold putAt;by_cases e:p.1=k;rw[if_pos e,if_pos<|h1.symm.trans e];exact⟨h1,h2,ry⟩;rw[if_neg e,if_neg<|λz=>e<|h1.trans z];exact⟨h1,h2,h3⟩
def KT.put(r:KT H kvs xs)(k:List AM)(hb:H b=some (.tup<|k.map kV))(ry:RelV y u) :
  KT H (B0 kvs k y) (ym xs k b u):=by
 have e:(kvs.any λkv=>decide<|kv.1=k)=(atKey xs k).isSome:=by
  rw[J3,(r.val k).isSome_eq,yn]
 unfold B0 ym;rw[e];by_cases q:(atKey xs k).isSome=true;rw[if_pos q,if_pos q];exact r.repl k ry;rw[if_neg q,if_neg q];exact Paired.snoc r ⟨rfl,hb,ry⟩
def KT.keeps(r:KT H kvs xs)(ht:∀ b ys,H b=some (.tup ys)->H' b=some (.tup ys)):KT H' kvs xs :=
 Paired.mapP r λy y z=>{z.1,ht _ _ z.2.1,z.2.2}
section
variable{P:bv}{w:World}{H:Hp}{h:Heap}{a:Addr}
def lY(ok:HOk P w H h)(e:Rd H a u):ObjOk P w H h a u:=e.ok ok
def IZ(ok:HOk P w H h)(e:Rd H a (.dK kvs)):kvs.length<=sizeLine/\(a==ia)=false/\∃ vs,KV kvs vs/\h.DictOf (DE P w) a vs :=
 lY ok e
def W9(ok:HOk P w H h)(e:H a=some (.dK kvs)):kvs.length<=sizeLine/\(a==ia)=false/\∃ vs,KV kvs vs/\h.DictOf (DE P w) a vs:=IZ ok<|.inl e
def K4(ok:HOk P w H h)(e:H a=some (.tup<|ks.map kV)):(rj<|DE P w).is h ks a:=by
 obtain⟨z,AJ,r,o,h1,h2,n,h3⟩:=(ok a _ e)
 exact x3 o _ n {h1,h2,h3,lX r}
def K5(ok:HOk P w H h)(e:Rd H a (.dT kvs)):kvs.length<=sizeLine/\(a == ia)=false /\
  ∃ xs,KT H kvs xs/\h.DictOfH (rj<|DE P w) a xs:=by
 obtain⟨z,y,xs,r,o,es,ep,h1,h2,h3,h4,h5⟩:=(lY ok e)
 refine{z,y,xs,r,x3 o es ep {h1,h2,h3,h4,λx hx=>?_,h5}}
 have all:∀ {l:List _} {m:List _},KT H l m->∀ x∈m,(rj<|DE P w).is h x.1 x.2.1:=by
  intro l m q
  induction q with
  |nil=>intro x hx;exact nomatch hx
  |@cons p q ps qs hq t ih =>
   intro x hx;rcases ax.mp hx with e|hx
   subst e;exact K4 ok (by rw[<-hq.1];exact hq.2.1);exact ih x hx
 exact all r x hx
def SN(ok:HOk P w H h)(e:H a=some (.dT kvs)):kvs.length<=sizeLine/\(a==ia)=false /\
  ∃ xs,KT H kvs xs/\h.DictOfH (rj<|DE P w) a xs:=K5 ok<|.inl e
end
def DGet(H:Hp)(a:Addr)(y:V)(r:Option V):Prop :=
 (∃ kvs k,Rd H a (.dK kvs)/\y=kV k/\r=BF kvs k)\/∃ kvs k b,Rd H a (.dT kvs)/\y=.ref b/\H b=some (.tup<|k.map kV)/\r=BF kvs k
def DPut(H:Hp)(a:Addr)(y v:V)(H':Hp):Prop :=
 (∃ kvs k,H a=some (.dK kvs)/\y=kV k/\kvs.length<sizeLine/\H'=upd H a (.dK<|B0 kvs k v)) ∨
 ∃ kvs k b,H a=some (.dT kvs)/\y=.ref b/\H b=some (.tup<|k.map kV)/\kvs.length<sizeLine/\H'=upd H a (.dT<|B0 kvs k v)
def DGet.k{H:Hp}{a:Addr}{kvs:tZ}{k:AM}(e:H a=some (.dK kvs)):DGet H a (kV k) (BF kvs k):=.inl<|x2 _ k {.inl e,rfl,rfl}
def DGet.t{H:Hp}{a b:Addr}{kvs:RJ}{k:List AM}(e:H a=some (.dT kvs))(eb:H b=some (.tup<|k.map kV)):DGet H a (.ref b) (BF kvs k):=.inr<|x3 _ k b {.inl e,rfl,eb,rfl}
def DPut.k{H:Hp}{a:Addr}{kvs:tZ}{k:AM}{v:V}(e:H a=some (.dK kvs))(hl:kvs.length<sizeLine):DPut H a (kV k) v (upd H a<|.dK<|B0 kvs k v):=.inl<|x2 _ k ⟨e,rfl,hl,rfl⟩
def DPut.t{H:Hp}{a b:Addr}{kvs:RJ}{k:List AM}{v:V}(e:H a=some (.dT kvs))(eb:H b=some (.tup<|k.map kV))(hl:kvs.length<sizeLine) :
  DPut H a (.ref b) v (upd H a<|.dT<|B0 kvs k v):=.inr<|x3 _ k b ⟨e,rfl,eb,hl,rfl⟩
section
variable{X:Cx}{AA:tN}{σ:St}{H:Hp}{s:π}{a:Addr}{y v:V}{u r:Value}{o:Option V}{A:dk}{E:tV}
def Inv.big(I:Inv X AA σ H s):ia<s.heap.objs.size:=Aa (by decide) ((I.mod.glob.keeps I.bk).lt)
def Rl(hu:A.units+1<cLine)(I:Inv X AA σ H s)(g:DGet H a y (some v))(ry:RelV y u)(h:∀ w' s',Inv X AA σ H s'->RelV v w'->Q w' s') :
  wpAny (model X.prog X.w) A (zw (.ref a) u) Q E s:=by
 rcases g with⟨kvs,k,e,ey,l⟩|⟨kvs,k,b,e,ey,eb,l⟩
 obtain⟨z,hd,vs,rel,dd⟩:=IZ I.hok e;obtain⟨w',hw,rw'⟩:=RelO.some_of   (by rw[l];exact rel.val k);subst ey;exact wpAny_getItem_of (K3 ry) dd.mapOf hw (h w' _ (I.tok _) rw');subst ey;obtain⟨z,hd,xs,rel,dd⟩:=K5 I.hok e;obtain⟨w',hw,rw'⟩:=RelO.some_of   (by rw[l];exact rel.val k);cases (ry);obtain⟨p,hp,JW⟩:=au.mp hw;refine wpAny_getItem_heap (jm hu) (K4 I.hok eb) dd hp ?_;rw[JW];exact h w' _ (I.tok _) rw'
def Rm(hu:A.units+1<cLine)(I:Inv X AA σ H s)(g:DGet H a y o)(ry:RelV y u)(h:∀ s',Inv X AA σ H s'->Q (.bool o.isSome) s') :
  wpAny (model X.prog X.w) A (dt .In u<|.ref a) Q E s:=by
 rcases g with⟨kvs,k,e,ey,l⟩|⟨kvs,k,b,e,ey,eb,l⟩
 subst ey;obtain⟨z,hd,vs,rel,dd⟩:=IZ I.hok e;refine wpAny_in_of (K3 ry) hd dd.mapOf ?_;rw[<-(rel.val k).isSome_eq,<-l];exact h _<|I.tok _;subst ey;obtain⟨z,hd,xs,rel,dd⟩:=K5 I.hok e;cases (ry)
 have q:=(rel.val k).isSome_eq;refine wpAny_in_heap (jm hu) (K4 I.hok eb) hd dd ?_;rw[yn]at q;rw[<-q,<-l];exact h _<|I.tok _
def Rp(hu:A.units+1<cLine)(I:Inv X AA σ H s)(g:DGet H a y o)(ry:RelV y u)(h:∀ s',Inv X AA σ H s'->Q (.bool<|!o.isSome) s') :
  wpAny (model X.prog X.w) A (dt .NotIn u<|.ref a) Q E s:=by
 rcases g with⟨kvs,k,e,ey,l⟩|⟨kvs,k,b,e,ey,eb,l⟩
 subst ey;obtain⟨z,hd,vs,rel,dd⟩:=IZ I.hok e;refine wpAny_notIn_of (K3 ry) hd dd.mapOf ?_;rw[<-(rel.val k).isSome_eq,<-l];exact h _<|I.tok _;subst ey;obtain⟨z,hd,xs,rel,dd⟩:=K5 I.hok e;cases (ry)
 have q:=(rel.val k).isSome_eq;refine wpAny_notIn_heap (jm hu) (K4 I.hok eb) hd dd ?_;rw[yn]at q;rw[<-q,<-l];exact h _<|I.tok _
def PQ(I:Inv X AA σ H s)(mu:OV (H a))(hs:gy a s.heap h')(he:∃ q,h'.get? a=some q)(new:ObjOk X.prog X.w (upd H a ob) h' a ob) :
  Inv X AA σ (upd H a ob) { s with heap:=h',toks:=t' } :=
 I.write   mu (.inl rfl) (λb q hb z=>(hs.2 b hb).trans z) he new
def XA(z:kvs.length<=sizeLine)(hd:(a==ia)=false)(rel:KV kvs vs)(dd:h'.DictOf (DE P w) a vs) :
  ObjOk P w H' h' a (.dK kvs):=⟨z,hd,vs,rel,dd⟩
def Rq(hu:A.units+1<cLine)(I:Inv X AA σ H s)(g:DPut H a y v H')(ry:RelV y u)(rv:RelV v r)(h:∀ s',Inv X AA σ H' s'->Q () s') :
  wpAny (model X.prog X.w) A (Qa (.ref a) u r) Q E s:=by
 rcases g with⟨kvs,k,e,ey,l,eH⟩|⟨kvs,k,b,e,ey,eb,l,eH⟩
 obtain⟨z,hd,vs,rel,dd⟩:=W9 I.hok e;subst ey eH;exact wpAny_setItem_pairs (hsz:=(by rw[<-rel.length];exact z)) (K3 ry) dd λh' dd' hs=>h _ (PQ I (by rw[e];exact qu) hs (let ⟨q,_,_,hq,_⟩:=dd';⟨q,hq⟩) (XA (ψ (K1 _ k v) l) hd (rel.put k rv) dd'));subst ey eH;obtain⟨z,hd,xs,rel,dd⟩:=SN I.hok e;cases (ry);refine wpAny_setItem_heap (hsz:=(by rw[<-Paired.length rel];exact z)) (jm hu) (K4 I.hok eb) dd λh' dd' hs=>h _ ?_;revert dd';apply u3;rintro q es ep ⟨hq,h2,h3,h4,_,h5⟩;refine PQ I (by rw[e];exact qu) hs ⟨q,hq⟩ {(ψ (K1 _ k v) l),hd,_,(rel.put k eb rv).keeps λc ys ec=>?_,x3 q es ep ⟨hq,h2,h3,h4,h5⟩};rw[AG (BD ec e (λz=>nomatch z))];exact ec
end
section
variable{X:Cx}{AA:tN}{σ:St}{H:Hp}{s:π}{a:Addr}{kvs:tZ}{k:AM}{u:Value}{A:dk}{E:tV}
def Rv(I:Inv X AA σ H s)(e:H a=some (.dK kvs))(ry:RelV (kV k) u)(l:BF kvs k=some v)(hm:more=[]\/∃ x,more=[x])
  (h:∀ w' s',Inv X AA σ (upd H a<|.dK<|J2 kvs k) s'->RelV v w'->Q w' s'):wpAny (model X.prog X.w) A (call (.builtin "dict.pop") (.ref a::u::more)) Q E s:=by
 obtain⟨z,hd,vs,rel,dd⟩:=W9 I.hok e
 have hp:(keyPart u).isSome=true:=by
  cases k with
  |inl i=>obtain⟨t,rfl⟩:=(ry);rfl
  |inr x=>obtain⟨t,rfl⟩:=(ry);rfl
 have ha:argsOk "dict.pop" {.ref a::u::more,[]}:=by
  rcases hm with q|⟨x,q⟩
  subst q;exact PySem.F.args_dict_pop_2 _ _;subst q;exact PySem.F.args_dict_pop_3 _ _ _
 obtain⟨w',hw,rw'⟩:=RelO.some_of   (by rw[<-l];exact rel.val k);exact vc PySem.F.slot_dict_pop dd.typeIs PySem.F.entry_dict_pop ha (meets_dict_pop_there _ a (K3 ry) _ hm hp)
  {vs,w',dd,by rw[<-rel.length];exact z,hw,λh' dd' hs=>h w' _ (PQ I (by rw[e];exact qu) hs (let ⟨q,_,_,hq,_⟩:=dd';⟨q,hq⟩) (XA (ψ (Rk _ k) z) hd (rel.drop k) dd')) rw'}
def Rw(I:Inv X AA σ H s)(e:Rd H a (.dK kvs))(h:∀ t s',Inv X AA σ H s'->Q (.int kvs.length t) s'):wpAny (model X.prog X.w) A (call (.builtin "len") [.ref a]) Q E s:=by
 obtain⟨z,hd,vs,rel,dd⟩:=IZ I.hok e;refine call_len_dict hd dd (by rw[<-rel.length];rw[qt]at z;lia) ?_;rw[<-rel.length];exact h _ _<|I.tok _
end
def lZ(i:Expr):Prop:=∀ ov iv,Cf i false ov iv=operate [ov,iv] (zw ov iv)
def Rx{prog:bv}{w:World}{A:dk}{E:tV}{s:π}{env:Env}{value slice:Expr}{pos:Pos}{T id:String}{Q:tV}
  (hl:Od (.type T) "__getitem__"=pure (some<|.builtin id)) (hs:lZ slice)
  (h:wpAny (model prog w) A (eval value env) (λo s₁=>wpAny (model prog w) A (eval slice env) (λi s₂=>s₂.TypeIs o T/\wpAny (model prog w) A (zw o i) Q E s₂) E s₁) E s) :
  wpAny (model prog w) A (eval (.Subscript value slice pos) env) Q E s:=by
 refine Oe<|p_ h (λo s₁ h₁=>p_ h₁ (λi s₂ h₂=>?_) λz z x=>x) λz z x=>x;obtain⟨hT,h₂⟩:=h₂
 have fin:wpAny (model prog w) A (Cf slice false o i) (λr s₃=>wpAny (model prog w) A (letTemporaryGo value o r>>=λz=>pure r) Q E s₃) E s₂:=by
  rw[hs o i];exact wpAny_operating<|p_ h₂ (λr s₃ h₃=>δ<|wpAny_letTemporaryGo<|ν h₃) λz z x=>x
 refine δ<|δ<|ub hT hl ?_
 first
  |exact ν<|δ fin
  |exact δ _
  |exact δ _
def Ry(I:Inv X AA σ H s)(g:DGet H a y o):s.TypeIs (.ref a) "dict":=by
 rcases g with⟨kvs,k,e,_,_⟩|⟨kvs,k,b,e,_,_,_⟩
 obtain⟨z,z,vs,z,dd⟩:=IZ I.hok e;exact dd.typeIs;obtain⟨z,z,xs,z,dd⟩:=K5 I.hok e;exact dd.typeIs
def PR(td ty:TE):TE:=λσ H Q=>td σ H λx H1=>ty σ H1 λy H2=>∃ a v,x=.ref a/\DGet H2 a y (some v)/\Q v H2
def PU(ty td:TE):TE:=λσ H Q=>ty σ H λy H1=>td σ H1 λx H2=>∃ a o,x=.ref a/\DGet H2 a y o/\Q (.bl o.isSome) H2
def PY(ty td:TE):TE:=λσ H Q=>ty σ H λy H1=>td σ H1 λx H2=>∃ a o,x=.ref a/\DGet H2 a y o/\Q (.bl<|!o.isSome) H2
def PZ(td ty tv:TE):TS:=λD σ H=>tv σ H λv H1=>td σ H1 λx H2=>ty σ H2 λy H3=>∃ a H4,x=.ref a/\DPut H3 a y v H4/\D.nx σ H4
section
variable{X:Cx}{o i e value:Expr}{pos pos' tpos:Pos}{td ty tv:TE}
def Rz(hu:X.A.units+1<cLine)(ho:PE X o td)(hi:PE X i ty)(hs:lZ i):PE X (.Subscript o i pos) (PR td ty):=by
 refine λAA s σ H Q I h=>Rx PySem.F.slot_dict_getitem.lookup hs<|AO (ho _ s σ H _ I h) λu s1 ⟨x,H1,I1,rx,q1⟩=>AO (hi _ s1 σ H1 _ I1 q1) λiv s2 hzz=>?_;obtain⟨y,H2,I2,ry,a,v,rfl,g,q2⟩:=hzz;obtain rfl:u=gk a:=rx;exact{Ry I2 g,Rl hu I2 g ry λw' s3 I3 rw'=>x2 v H2 ⟨I3,rw',q2⟩}
def Sb(hu:X.A.units+1<cLine)(hi:PE X i ty)(ho:PE X o td):PC X .In i o (PU ty td):=by
 refine λAA s σ H Q I h=>AO (hi _ s σ H _ I h) λiv s1 ⟨y,H1,I1,ry,q1⟩=>AO (ho _ s1 σ H1 _ I1 q1) λu s2 hzz=>?_;obtain⟨x,H2,I2,rx,a,ov,rfl,g,q2⟩:=hzz;obtain rfl:u=gk a:=rx;exact Rm hu I2 g ry λs3 I3=>x2 (.bl _) H2 ⟨I3,rfl,q2⟩
def Sc(hu:X.A.units+1<cLine)(hi:PE X i ty)(ho:PE X o td):PC X .NotIn i o (PY ty td):=by
 refine λAA s σ H Q I h=>AO (hi _ s σ H _ I h) λiv s1 ⟨y,H1,I1,ry,q1⟩=>AO (ho _ s1 σ H1 _ I1 q1) λu s2 hzz=>?_;obtain⟨x,H2,I2,rx,a,ov,rfl,g,q2⟩:=hzz;obtain rfl:u=gk a:=rx;exact Rp hu I2 g ry λs3 I3=>x2 (.bl _) H2 ⟨I3,rfl,q2⟩
def Sd(hu:X.A.units+1<cLine)(ho:PE X o td)(hi:PE X i ty)(hv:PE X value tv)(hs:xl value (some<|.Subscript o i pos') pos.line X.env=pure false) :
  PS X (.Assign [.Subscript o i pos'] value pos) (PZ td ty tv):=by
 refine λAA s σ H D I h=>wpAny_Assign_Subscript (AO (hv _ s σ H _ I h) λr s1 ⟨v,H1,I1,rv,q1⟩=>AO (ho _ s1 σ H1 _ I1 q1) λu s2 ⟨x,H2,I2,rx,q2⟩=>AO (hi _ s2 σ H2 _ I2 q2) λiv s3 hzz=>?_) hs;obtain⟨y,H3,I3,ry,a,H4,rfl,g,q3⟩:=hzz;obtain rfl:u=gk a:=rx;exact Rq hu I3 g ry rv λs4 I4=>x2 σ H4 ⟨I4,q3⟩
end
def Sg(h:Heap)(hb:ia<h.objs.size):ObjOk P w H (h.push { cls:=.type "dict",data:=.dict #[] }) h.objs.size (.dK []) :=
 {bu _,beq_eq_false_iff_ne.mpr<|fj<|bd hb,[],.nil,Heap.DictOf.new h}
def mB(h:Heap)(hb:ia<h.objs.size):ObjOk P w H (h.push { cls:=.type "dict",data:=.dict #[] }) h.objs.size (.dT []) :=
 {bu _,beq_eq_false_iff_ne.mpr<|fj<|bd hb,[],.nil,_,_,0,aj _ rfl,⟨rfl,rfl,rfl⟩,rfl,rfl,mj}
def HZ:TE:=λ_ H Q=>∀ p,H p=none->Q (.ref p) (upd H p<|.dK [])
def P7:TE:=λ_ H Q=>∀ p,H p=none->Q (.ref p) (upd H p<|.dT [])
section
variable{X:Cx}{pos:Pos}
def Sh:PE X (.Dict [] [] pos) HZ:=λAA s σ H Q I h =>
 Ka (x2 (.ref _) _ {I.laid    (λz z q=>ξ _ q) (υ _) (Sg _ I.big),rfl,h _<|I.hok.fresh<|υ _})
def Sj:PE X (.Dict [] [] pos) P7:=λAA s σ H Q I h =>
 Ka (x2 (.ref _) _ {I.laid    (λz z q=>ξ _ q) (υ _) (mB _ I.big),rfl,h _<|I.hok.fresh<|υ _})
end
def ME:List (TE × TE)->St->Hp->(List (V × V)->Hp->Prop)->Prop
 | [],_,H,Q=>Q [] H
 |(tk,tv)::r,σ,H,Q=>tk σ H λx H1=>tv σ H1 λy H2=>ME r σ H2 λps H3=>Q ((x,y)::ps) H3
abbrev VV:List (V × V)->List (Value × Value)->Prop:=Paired λp q=>RelV p.1 q.1/\RelV p.2 q.2
def SO(X:Cx)(pos:Pos)(keys:List (Option Expr))(values:Vu)(trs:List (TE × TE)):Prop :=
 ∀ (AA:tN) (s:π) (σ:St) (H:Hp) (Q:List (V × V)->Hp->Prop),Inv X AA σ H s->ME trs σ H Q ->
  wpAny (model X.prog X.w) X.A (evalPairs<|pairTrees keys values X.env pos) (λvs s'=>∃ ps H',Inv X AA σ H' s'/\VV ps vs/\Q ps H') X.xe s
def Sk:SO X pos [] [] []:=λAA s σ H Q I h=>pairTrees_nil_walk<|x2 [] H {I,.nil,h}
def Sl(hk:PE X k tk)(hv:PE X v tv)(hr:SO X pos ks vs trs) :
  SO X pos (some k::ks) (v::vs) ((tk,tv)::trs):=λAA s σ H Q I h =>
 pairTrees_cons_walk (AO (hk _ s σ H _ I h) (by rintro u s1 ⟨x,H1,I1,rx,q1⟩;exact AO (hv _ s1 σ H1 _ I1 q1) (by rintro w2 s2 ⟨y,H2,I2,ry,q2⟩;exact AO (hr _ s2 σ H2 _ I2 q2) (by rintro ws s3 ⟨ps,H3,I3,rel,q3⟩;exact x2 _ H3 {I3,.cons ⟨rx,ry⟩ rel,q3}))))
structure M1(X:Cx)(o:Expr)(m:Str)(CP:Pos)(e:Expr)(DC:Pos):Prop where
 base:wg o m X.env (eval o X.env)=eval o X.env
 few:((jp DC<|a_ [e] X.env).all (λx=> !x.1)&&(wm DC<|mx [] X.env).all (λx=>x.1.isSome)
  && decide (([e]:Vu).length+([]:List Dt).length+(if([]:List Dt).isEmpty then 0 else 1)<30))=true
 line:(CP.endLine==DC.line)=true
 trees:jp DC (a_ [e] X.env)=[(false,eval e X.env)]
structure M2(X:Cx)(o:Expr)(m:Str)(CP:Pos)(e f:Expr)(DC:Pos):Prop where
 base:wg o m X.env (eval o X.env)=eval o X.env
 few:((jp DC<|a_ [e,f] X.env).all (λx=> !x.1)&&(wm DC<|mx [] X.env).all (λx=>x.1.isSome)
  && decide (([e,f]:Vu).length+([]:List Dt).length+(if([]:List Dt).isEmpty then 0 else 1)<30))=true
 line:(CP.endLine==DC.line)=true
 trees:jp DC (a_ [e,f] X.env)=[(false,eval e X.env),(false,eval f X.env)]
def MF(H:Hp)(a:Addr):Prop:=(∃ kvs,Rd H a<|.dK kvs)\/∃ kvs,Rd H a<|.dT kvs
def XB(I:Inv X AA σ H s)(d:MF H a) :
  s.TypeIs (.ref a) "dict"/\(∀ b,gk a=.ref b->∃ ob,s.heap.get? b=some ob/\ob.dict=none)/\(a==ia)=false:=by
 rcases d with⟨kvs,e⟩|⟨kvs,e⟩
 obtain⟨z,hd,vs,z,dd⟩:=IZ I.hok e;refine{dd.typeIs,λb q=>?_,hd};cases q;revert dd;apply u3;rintro ob z z ⟨h1,h2,z⟩;exact⟨ob,h1,h2.2.1⟩;obtain⟨z,hd,xs,z,dd⟩:=K5 I.hok e;refine{dd.typeIs,λb q=>?_,hd};cases q;revert dd;apply u3;rintro ob z z ⟨h1,h2,z⟩;exact⟨ob,h1,h2.2.1⟩
section
variable{X:Cx}{AA:tN}{σ:St}{H:Hp}{s:π}{a:Addr}{y d:V}{u r:Value}{o:Option V}{A:dk}{E:tV}
def Sm(hu:A.units+1<cLine)(I:Inv X AA σ H s)(g:DGet H a y o)(ry:RelV y u)(h:∀ w' s',Inv X AA σ H s'->RelV (o.getD .non) w'->Q w' s') :
  wpAny (model X.prog X.w) A (call (.builtin "dict.get") [.ref a,u]) Q E s:=by
 rcases g with⟨kvs,k,e,ey,l⟩|⟨kvs,k,b,e,ey,eb,l⟩
 subst ey;obtain⟨z,hd,vs,rel,dd⟩:=IZ I.hok e;refine vc PySem.F.slot_dict_get dd.typeIs PySem.F.entry_dict_get (PySem.F.args_dict_get_2 _ _) (meets_dict_get _ a (K3 ry) hd) {_,dd.mapOf,h _ _ (I.tok _) ?_};rw[l];exact(rel.val k).getD rfl;subst ey;obtain⟨z,hd,xs,rel,dd⟩:=K5 I.hok e;cases (ry);refine vc PySem.F.slot_dict_get dd.typeIs PySem.F.entry_dict_get (PySem.F.args_dict_get_2 _ _) (meetsH_dict_get _ a b hd) {jm hu,x2 k xs {K4 I.hok eb,dd,h _ _ (I.tok _) ?_}};rw[l];exact(rel.val k).getD rfl
def Sq(hu:A.units+1<cLine)(I:Inv X AA σ H s)(g:DGet H a y o)(ry:RelV y u)(rd:RelV d r)(h:∀ w' s',Inv X AA σ H s'->RelV (o.getD d) w'->Q w' s') :
  wpAny (model X.prog X.w) A (call (.builtin "dict.get") [.ref a,u,r]) Q E s:=by
 rcases g with⟨kvs,k,e,ey,l⟩|⟨kvs,k,b,e,ey,eb,l⟩
 subst ey;obtain⟨z,hd,vs,rel,dd⟩:=IZ I.hok e;refine vc PySem.F.slot_dict_get dd.typeIs PySem.F.entry_dict_get (PySem.F.args_dict_get_3 _ _ _) (meets_dict_get_default _ a (K3 ry) hd r) {_,dd.mapOf,h _ _ (I.tok _) ?_};rw[l];exact(rel.val k).getD rd;subst ey;obtain⟨z,hd,xs,rel,dd⟩:=K5 I.hok e;cases (ry);refine vc PySem.F.slot_dict_get dd.typeIs PySem.F.entry_dict_get (PySem.F.args_dict_get_3 _ _ _) (meetsH_dict_get_default _ a b hd r) {jm hu,x2 k xs {K4 I.hok eb,dd,h _ _ (I.tok _) ?_}};rw[l];exact(rel.val k).getD rd
end
def SQ(td ty:TE):TE:=λσ H Q=>td σ H λx H1=>∃ a,x=.ref a/\MF H1 a/\ty σ H1 λy H2=>∃ o,DGet H2 a y o/\Q (o.getD .non) H2
def XC(td ty tx:TE):TE:=λσ H Q=>td σ H λx H1=>∃ a,x=.ref a/\MF H1 a/\ty σ H1 λy H2=>tx σ H2 λz H3=>∃ o,DGet H3 a y o/\Q (o.getD z) H3
def P8(td ty:TE):TE:=λσ H Q=>td σ H λx H1=>∃ a,x=.ref a/\MF H1 a/\ty σ H1 λy H2=>∃ kvs k v,H2 a=some (.dK kvs)/\y=kV k/\BF kvs k=some v/\Q v (upd H2 a<|.dK<|J2 kvs k)
section
variable{X:Cx}{o e f:Expr}{CP DC:Pos}{td ty tx:TE}
def Sv(hu:X.A.units+1<cLine)(ho:PE X o td)(he:PE X e ty)(m:M1 X o "get" CP e DC):PE X (.Call (.Attribute o "get" CP) [e] [] DC) (SQ td ty):=by
 refine λAA s σ H Q I h=>yo m.base m.few m.line PySem.F.plainAttrs_dict PySem.F.slot_dict_get PySem.F.type_dict_get<|AO (ho _ s σ H _ I h) λu s1 hzz=>?_;obtain⟨x,H1,I1,rx,a,rfl,d,q1⟩:=hzz;obtain rfl:u=gk a:=rx;obtain⟨t1,t2,z⟩:=XB I1 d;refine{t1,t2,?_};rw[m.trees];exact nc rfl (lg (na (AO (he _ s1 σ H1 _ I1 q1) (by rintro iv s2 ⟨y,H2,I2,ry,ov,g,q2⟩;exact uz<|Sm hu I2 g ry λw' s3 I3 rw'=>x2 _ H2 ⟨I3,rw',q2⟩))))
def Sw(hu:X.A.units+1<cLine)(ho:PE X o td)(he:PE X e ty)(hf:PE X f tx)(m:M2 X o "get" CP e f DC):PE X (.Call (.Attribute o "get" CP) [e,f] [] DC) (XC td ty tx):=by
 refine λAA s σ H Q I h=>yo m.base m.few m.line PySem.F.plainAttrs_dict PySem.F.slot_dict_get PySem.F.type_dict_get<|AO (ho _ s σ H _ I h) λu s1 hzz=>?_;obtain⟨x,H1,I1,rx,a,rfl,d,q1⟩:=hzz;obtain rfl:u=gk a:=rx;obtain⟨t1,t2,v⟩:=XB I1 d;refine{t1,t2,?_};rw[m.trees];exact nc rfl (lg (na (AO (he _ s1 σ H1 _ I1 q1) (by rintro iv s2 ⟨y,H2,I2,ry,q2⟩;exact na (AO (hf _ s2 σ H2 _ I2 q2) (by rintro fv s3 ⟨z,H3,I3,rz,ov,g,q3⟩;exact uz<|Sq hu I3 g ry rz λw' s4 I4 rw'=>x2 _ H3 ⟨I4,rw',q3⟩))))))
def Sx(ho:PE X o td)(he:PE X e ty)(m:M1 X o "pop" CP e DC):PE X (.Call (.Attribute o "pop" CP) [e] [] DC) (P8 td ty):=by
 refine λAA s σ H Q I h=>yo m.base m.few m.line PySem.F.plainAttrs_dict PySem.F.slot_dict_pop PySem.F.type_dict_pop<|AO (ho AA s σ H _ I h) λu s1 hzz=>?_;obtain⟨x,H1,I1,rx,a,ex,d,q1⟩:=hzz;subst ex;obtain rfl:u=gk a:=rx;obtain⟨t1,t2,z⟩:=XB I1 d;refine{t1,t2,?_};rw[m.trees];refine nc rfl<|lg<|na<|AO (he AA s1 σ H1 _ I1 q1) λiv s2 ⟨y,H2,I2,ry,kvs,k,v,ea,ey,l,q2⟩=>uz ?_;subst ey;exact Rv I2 ea ry l (.inl rfl) λw' s3 I3 rw'=>x2 v _ ⟨I3,rw',q2⟩
end
section
variable{X:Cx}{AA:tN}{σ:St}{H:Hp}{s:π}{a:Addr}{kvs:tZ}{A:dk}{E:tV}
def Sy(I:Inv X AA σ H s)(e:Rd H a (.dK kvs))(h:∀ p s',H p=none->Inv X AA σ (upd H p<|.dK kvs) s'->Q (.ref p) s'):wpAny (model X.prog X.w) A (call (.type "dict") [.ref a]) Q E s:=by
 obtain⟨z,hd,vs,rel,dd⟩:=IZ I.hok e;exact kt_call_dict hd dd (by rw[<-rel.length];exact z) λh' dd' hs=>(h _ _ (I.hok.fresh<|υ _) (I.laid    (λb q hq=>((hs.2 b<|bd<|av hq).trans (ξ _ hq))) (υ _) (XA z (beq_eq_false_iff_ne.mpr<|fj<|bd I.big) rel dd')))
end
section
variable{X:Cx}{AA:tN}{σ:St}{H:Hp}{s:π}{a:Addr}{y:V}{u:Value}{A:dk}{E:tV}
end
end L2
namespace Att
open PySem PySem.W PySem.Calls PyProof.Rows
abbrev _root_.Zu:=List Int
def Sz:∀ (ns:Zu) (vs:Su),WellAll P h vs (ns.map WData.int)->uc vs ns:=by
 intro ns
 induction ns with
 |nil =>
  intro vs w;cases w;exact .nil
 |cons n ns ih =>
  intro vs w;cases w with
  |cons a b =>
   cases a;exact .cons _ _<|ih _ b
def Tb{l:OpenLaw}(hn:l.most=some n){h:Heap}
  (hpre:l.row.toRowW.claim.pre args=true) (hwl:WellAll P h vals args) :
  ∃ a vs ns,vals=[gk a]/\args=[WData.list (ns.map WData.int)]/\h.get? a=some { cls:=.type "list",data:=.seq vs.toArray }/\uc vs ns/\ns.length<=n:=by
 have hc:l.pre.holds [] _=true:=(pre_splitW hpre).2;obtain⟨d,r,rfl,h1,h2⟩:=hasAllW_cons<|(pre_splitW hpre).1;obtain rfl:=hasAllW_nil h2;obtain⟨xs,rfl,h3⟩:=hasW_list h1;obtain⟨ns,rfl⟩:=items_int h3
 have B9:ns.length<=n:=by
  have h4:(WTm.not<|.lt (.lit<|.int n) (.len<|.arg 0)).holds [] { args:=[.list (ns.map .int)] }=true:=by
   have h4:=(holds_andW hc).1;rw[hn]at h4;exact h4
  have h5:=condW_of h4<|w_not<|w_lt w_lit<|w_len_list<|w_arg rfl
  first
   |(exact absurd h5 (by decide))
   |(simp at h5;omega)
 cases hwl with
 |cons w1 w2 =>
  cases w2;cases w1 with
  |list ho hall=>exact{_,_,ns,rfl,rfl,ho,Sz ns _ hall,B9}
def Tc(l:OpenLaw)(args:List WData):l.row.toRowW.claim.post args (.bool true) args=true :=
 postW_of
  (show WShape.has [] _ _=true by first|rfl|decide|simp[WShape.armsAll])
  (w_eq_bool (w_res rfl) w_lit) rfl
def attach_call{l:OpenLaw}{XP:(Str->Option Value)->Heap->Prop}{YP:World->Heap->Prop}{d:DefRec}
  (hn:l.most=some n) (hdf:d.params.defaults=[])
  (call:∀ (w:World) (s₀ s₁:π) (mg mb:tP) (fa:Addr) (o:Obj) (pm cd doc:Value) (a:Addr) (vs:Su) (ns:Zu),
   Ground q loose [] XP w s₀ mg mb s₁.heap->YP w s₁.heap ->
   s₁.heap.get? fa=some o->o.data=.func (docDef d.name d.params d.body d.scope pm cd doc)->s₁.heap.CodeRec cd d.name->mg d.name=some (.ref fa) ->
   s₁.heap.get? a=some { cls:=.type "list",data:=.seq vs.toArray }->uc vs ns->ns.length<=n->s₁.gens= #[] →
   wf (model l.prog w) Ni (.call (.ref fa) {[.ref a],[]}) (λr s'=>r=.ok (.ret<|.bool true)/\OldK s₁.heap s'.heap/\s'.os=s₁.os/\uw s'.gens) s₁) :
  WalkO q loose XP YP l.row.toRowW d [] (λf vs=>PySem.call f vs):=by
 intro w s₀ s₁ mg mb G Y fa o pm cd doc dV kV ho hd GP hD hmg hg args vals as hpre hlay hrd hwl hlo;obtain rfl:dV=.none:=Dflts.none hD hdf;obtain rfl:kV=.none:=Dflts.noKw hD;obtain⟨a,vs,ns,rfl,rfl,hobj,hints,B9⟩:=Tb hn hpre hwl;refine enter_call<|k_ (call w _ _ mg mb fa o pm cd _ a vs ns G Y ho (fd_plain hd) GP hmg hobj hints B9 hg) λr s' hq=>?_;obtain⟨rfl,h2,h3,h4⟩:=hq;exact{.inl {_,_,[],rfl,λ_=>rfl,.bool _,Tc l _,λ_=>{Hr,λ_ hm=>(nomatch hm)}},h2,h3,h4}
section
variable{prog:bv}{w:World}{A:dk}{E:tV}{s:π}{K:Frag}
end
end Att
namespace L2
def XD:∀ {vs:Su} {ns:Zu},uc vs ns->Vals (ns.map V.int) vs
 |_,_,.nil=>.nil
 |_,_,.cons n t h=>.cons ⟨t,rfl⟩ (XD h)
def XF(H:Hp):Prop:=∀ b,H b=none\/∃ o xs,H b=some (.frz o<|.lst xs)
def Td{K:μ}{mg mb:tP}{sp:Sp}{s₁:π}{vs:Su}{ns:Zu}
  (KX:K.In s₁.heap) (hns:s₁.heap.Ns bx mg) (hb:s₁.heap.Ns No mb) (hbb:∀ x:Str,x≠"__name__"->mb x=xb x) (hlim:s₁.heap.NoLimit) (hg:s₁.gens= #[])
  (ha:s₁.heap.get? a=some { cls:=.type "list",data:=.seq vs.toArray }) (hi:uc vs ns) (hl:ns.length<=sizeLine) (hr:Room k Ni)
  (F:∀ base:Heap,K.In base->base.Ns bx mg->FnOk P w K mg base CX k fa fd [x] sp) (hbind:∀ (s:π) (u:Value),yl s fd {[u],[]} [(x,u)])
  (hsp:∀ H:Hp,XF H->SqL K H a (ns.map V.int)->sp [.ref a] H (λv y=>v=.bl true) λy y y=>False)
  (hCX:∀ H e s',CX [] H s₁ (λy y y=>False) e s'->False) :
  wf (model P w) Ni (.call (.ref fa) {[.ref a],[]}) (λr s'=>r=.ok (.ret<|.bool true)/\OldK s₁.heap s'.heap/\s'.os=s₁.os/\uw s'.gens) s₁:=by
 have core:∀ H:Hp,XF H->SqL K H a (ns.map V.int)->HOk P w H s₁.heap->(∀ b,H b≠none->b=a)->(H a≠none->K.lookup a=none) ->
   wf (model P w) Ni (.call (.ref fa) {[.ref a],[]}) (λr s'=>r=.ok (.ret<|.bool true)/\OldK s₁.heap s'.heap/\s'.os=s₁.os/\uw s'.gens) s₁:=by
  intro H hO hS hok hA hK
  have noA:∀ {b:Addr} {o:Obj} {es:Array _} {ep:Nat},s₁.heap.get? b=some o->o.data=.dict es ep->H b=none:=λ{b o es ep} e d=>by
   cases q:H b with
   |none=>rfl
   |some u =>
    have e':=hA b (by rw[q];simp);subst e';rw[ha]at e;obtain rfl:=ι e;cases d
  have base_of:∀ {b:Addr} {o:Obj},s₁.heap.get? b=some o->H b=none->(NH _ H).get? b=some o:=λe n=>Hm e n
  have nsK:∀ {b:Addr} {m:Str->Option _},s₁.heap.Ns b m->(NH _ H).Ns b m:=λ{b m} ⟨o,es,ep,e,d,r⟩=>x3 o es ep {base_of e<|noA e d,d,r}
  have hKb:=λb o e=>base_of (KX b o e) (by
   cases q:H b with
   |none=>rfl
   |some u =>
    have e':=hA b (by rw[q];simp);subst e';rw[hK (by rw[q];simp)]at e;cases e)
  refine k_ ((F _ hKb<|nsK hns).run _ [] _ H _ [.ref a] [.ref a] _ _ hr ({rfl,({hKb,nsK hns,{mb,nsK hb,hbb},let ⟨mc,h1,h2⟩:=hlim;{mc,nsK h1,h2}}),λb o e=>Hq e,bt<|Hl _ _,trivial,λb hb=>absurd (show b∈([])from hb) (by simp),hok,.of_eq hg}) (hbind _ _) (.cons rfl .nil) (hsp H hO hS)) λr s' h=>?_;cases r with
  |error e=>exact(hCX H e s' h).elim
  | ok fl =>
   cases fl with
   |next=>exact jk h
   |brk=>exact jk h
   |cont=>exact jk h
   |ret u =>
    revert h;apply u2;rintro v H' ⟨os,bare,un,hok',r',rfl⟩;obtain rfl:u=Nn _:=r';refine{rfl,OldK.of_keep λb o e=>?_,os,bare};cases q:H b with
    |none=>exact un.keep b o e q (by intro z;exact absurd (show b∈([])from z) (by simp)) (by simp)
    |some u =>
     rcases hO b with z|⟨ob,xs,z⟩
     rw[q]at z;cases z;obtain⟨e2,y⟩:=hok' b _<|un.frzs b ob _ z;obtain⟨e1,y⟩:=hok b _ z;rw[e]at e1;obtain rfl:=ι e1;exact e2
 have rv:=XD hi;cases hk:K.lookup a with
 |some o =>
  have e:=KX a o hk;rw[ha]at e;obtain rfl:=ι e;refine core (λy=>none) (λy=>.inl rfl) (.inr (x3 _ _ _ {hk,rfl,rfl,rfl,by rw[ay,hi.length];exact hl,rv})) (λb u z=>by cases z) (λb z=>absurd rfl z) λz=>absurd rfl z
 |none =>
  refine core (λb=>if b=a then some _ else none) (λb=>?_) (.inl<|.inr {{ cls:=.type "list",data:=.seq vs.toArray },if_pos rfl}) (λb u z=>?_) (λb z=>?_) λy=>hk;by_cases hb:b=a;exact .inr<|x2 _ _<|if_pos hb;exact .inl<|if_neg hb;by_cases hb:b=a
  have z':=(if_pos hb).symm.trans z;cases z';subst hb;exact{ha,by rw[ζ];exact hl,x2 vs _ ⟨rv,ha⟩};cases ((if_neg hb).symm.trans z);by_cases hb:b=a;exact hb;exact absurd (if_neg hb) z
def walk_of{l:W.OpenLaw}{XP:(Str->Option Value)->Heap->Prop}{YP:World->Heap->Prop}{d:DefRec}{K:Params->μ}{CX:World->HW}{sp:World->Sp}
  (hn:l.most=some n) (hn2:n<=sizeLine) (hdf:d.params.defaults=[]) (hr:Room k Ni)
  (hY:∀ (w:World) (h:Heap),YP w h->(K w.params).In h)
  (F:∀ (w:World) (mg:tP) (fa:Addr) (h:Heap),(K w.params).In h->h.Ns bx mg->mg d.name=some (.ref fa) ->
   ∃ fd:h_,(∀ (s:π) (u:Value),yl s fd {[u],[]} [(x,u)]) /\
    ∀ base:Heap,(K w.params).In base->base.Ns bx mg->FnOk l.prog w (K w.params) mg base (CX w) k fa fd [x] (sp w))
  (hsp:∀ (w:World) (H:Hp) (a:Addr) (ns:Zu),ns.length<=n->XF H->SqL (K w.params) H a (ns.map V.int)->sp w [.ref a] H (λv _=>v=.bl true) λ_ _ _=>False)
  (hCX:∀ (w:World) (H:Hp) (s:π) (e:Value) (s':π),CX w [] H s (λ_ _ _=>False) e s'->False) :
  W.WalkO q loose XP YP l.row.toRowW d [] (λf vs=>PySem.call f vs):=by
 refine Att.attach_call hn hdf λw s₀ s₁ mg mb fa o pm cd doc a vs ns G Y ho hd GP hmg hobj hints B9 hg=>?_
 have KX:=hY w _ Y;obtain⟨fd,hb,hF⟩:=F w mg fa _ KX G.T.g hmg;exact Td KX G.T.g G.T.b G.T.builtins G.T.nolimit hg hobj hints (ψ B9 hn2) hr hF hb (λH hO hS=>hsp w H a ns B9 hO hS) λH e s'=>hCX w H _ e s'
def BQ(s:Stmt)(j:Nat):Stmt:=match s with
 |.ClassDef _ _ _ body _ _ _ _ _ _ _=>body.getD j<|.Pass {0,0,0,0}
 |_=>.Pass {0,0,0,0}
def J5(s:Stmt):Arguments:=match s with
 |.FunctionDef _ a _ _ _ _ _ _ _ _=>a
 |_=>{ posonlyargs:=[],args:=[],vararg:=none,kwonlyargs:=[],kw_defaults:=[],kwarg:=none,defaults:=[] }
def HB(s:Stmt):List Stmt:=match s with
 |.FunctionDef _ _ b _ _ _ _ _ _ _=>b
 |_=>[]
def AU(s:Stmt):Scope:=match s with
 |.FunctionDef _ _ _ _ _ _ sc _ _ _=>sc
 |_=>{ kind:=.function,names:=[],isGenerator:=false,isCoroutine:=false }
abbrev E0:XK:=λ_ _ _=>False
structure Fun(K:μ)(x qual:Str)(st:Stmt)(f:Addr)(fd:h_):Prop where
 ex:∃ (oc:Value) (od:Option Addr) (kV doc pm:Value) (an:Option Addr) (CA ct:Value) (osl:Array (Option Value)),
  fd=zd x qual (J5 st) (HB st) (AU st) .none kV doc pm an CA ct/\K.lookup f=some {oc,od,.func fd,osl}/\Ca K CA qual=true
 kp:s_ K (.ref f)=true
section
variable{P:bv}{w:World}{K:μ}{mg:tP}{base:Heap}
def Fun.binds{x qual:Str}{st:Stmt}{f:Addr}{fd:h_}{ps:Xu}(F:Fun K x qual st f fd)
  (h:∀ (kV doc pm:Value) (an:Option Addr) (CA ct:Value) (us:Su),us.length=ps.length->bindArgs (zd x qual (J5 st) (HB st) (AU st) .none kV doc pm an CA ct) {us,[]}=pure (ps.zip us)):Binds K fd ps []:=by
 refine u9 ?_ F.ex;rintro oc od kV doc pm an CA ct osl ⟨rfl,lk,GP⟩;exact .all<|h kV _ pm an _ ct
def mC{x qual:Str}{st:Stmt}{f:Addr}{oc:Value}{od an:Option Addr}{osl:Array (Option Value)}{kV doc pm CA ct:Value}(l:K.lookup f=some {oc,od,.func<|zd x qual (J5 st) (HB st) (AU st) .none kV doc pm an CA ct,osl})
  (c:Ca K CA qual=true) (k:s_ K (.ref f)=true):Fun K x qual st f (zd x qual (J5 st) (HB st) (AU st) .none kV doc pm an CA ct):={x9 oc od kV _ pm an _ ct _ ⟨rfl,l,c⟩,k}
end
def K6(hr:Room k A):A.units+1<cLine:=cr (Nat.add_le_add_left (by decide) _) hr.units
section
variable{X:Cx}
def pv(i:Nat)(hN:X.N[i]? =some x:=by rfl)(hv:SC X.env.scope x:=by first|exact Ke rfl|exact Cn (Ke rfl)|exact Cn<|Cn rfl)(hd:(x ==("__debug__":Str))=false:=by decide)
  (GP:(x ==("__classdict__":Str))=false:=by decide):PE X (.Name x pos) (SD i):=kI hN hv hd GP
def Tg:DT X (.builtin "len") (λxs H Q=>∃ a kvs,xs=[V.ref a]/\H a=some (.dK kvs)/\Q (.int kvs.length) H):=by
 intro AA s σ H xs us Q I r h;revert h;apply u2;rintro a kvs ⟨rfl,ha,q⟩;obtain⟨u,rfl,ru⟩:=FT r;cases ru;exact Rw I (.inl ha) λt s' I'=>x2 (.int kvs.length) H {I',⟨t,rfl⟩,q}
end
def Same(H H':Hp):Prop:=∀ b o,H b=some o->H' b=some o
def Same.refl(H:Hp):Same H H:=λz z h=>h
def Same.trans{H H1 H2:Hp}(a:Same H H1)(b:Same H1 H2):Same H H2:=λc o h=>b c o<|a c o h
def Same.free{H H':Hp}(e:Same H H'){l:Addr}(h:H' l=yp):H l=yp:=by
 cases q:H l with
 |none=>rfl
 |some o =>
  rw[e l o q]at h;cases h
def Same.seq{K:μ}{H H':Hp}{a:Addr}{xs:Tr}(e:Same H H')(h:SqL K H a xs):SqL K H' a xs:=by
 rcases h with(h|⟨o,h⟩)|h
 exact .inl<|.inl<|e _ _ h;exact .inl<|.inr {o,e _ _ h};exact .inr h
section
variable{κ :Type}[DecidableEq κ]
def Th{kvs:List (κ × V)}(h:BF kvs k=none):¬ k∈kvs.map (·.1):=by
 intro m;obtain⟨p,hp,e⟩:=af.mp m
 have q:(kvs.any λkv=>decide<|kv.1=k)=true:=e_.mpr {p,hp,decide_eq_true e};rw[J3,h]at q;exact absurd q (by simp)
def mD:∀ {l:List κ} {k: κ},l.Nodup->¬ k∈l->(l++[k]).Nodup
 | [],k,_,_=>by simp
 |a::r,k,h,hk=>by
  obtain⟨h1,h2⟩:=fq.mp h;refine fq.mpr {λm=>?_,mD h2 λm=>hk<|ax.mpr<|Cn m};rcases ao.mp m with q|q
  exact h1 q;exact hk<|ax.mpr<|Ke (ρ.mp q).symm
def Tj{kvs:List (κ × V)}(v:V)(hn:(kvs.map (·.1)).Nodup)(h:BF kvs k=none):((B0 kvs k v).map (·.1)).Nodup:=by
 rw[K2 v h,χ];exact mD hn<|Th h
end
def XG:∀ (names:List (Str × zk)) (cs:List (Str × Addr)),
  (∀ x∈names,x.2=.free->∃ c,env.cells.lookup x.1=some c)->(∀ x c,cs.lookup x=some c->env.cells.lookup x=some c) ->
  ∃ cl,(forIn names cs λx r=>(if(x.2==gu)=true then do let a ← cellOf env x.1;pure (jv ((x.1,a)::r))else pure (jv r):Sem (ForInStep<|List<|Str × Addr)))=pure cl /\
   (∀ x c,cl.lookup x=some c->env.cells.lookup x=some c)/\(∀ x,(cs.lookup x).isSome=true->(cl.lookup x).isSome=true) /\
   ∀ x∈names,x.2=.free->(cl.lookup x.1).isSome=true
 | [],cs,_,h=>{cs,rfl,h,λ_ z=>z,λ_ z=>nomatch z}
 |(n,k)::r,cs,hf,h=>by
  by_cases hk:k=.free;subst hk;obtain⟨c,hc⟩:=hf _ ai rfl;obtain⟨cl,e,h1,h2,h3⟩:=XG r ((n,c)::cs) (λx hx=>hf x<|ω _ hx) (λx c' hx=>by
   by_cases hxn:x=n;subst hxn;simp only[aw,beq_self_eq_true]at hx;obtain rfl:=ι hx;exact hc
   have  :=beq_eq_false_iff_ne.mpr hxn;simp only[aw,this]at hx;exact h x c' hx)
  refine{cl,?_,h1,λx hx=>h2 x ?_,λx hx hxf=>?_};rw[As]
  show(((match env.cells.lookup n with|some a=>pure a|none=>_)>>=_)>>=_)=_;rw[hc];exact e;by_cases hxn:x=n;subst hxn;simp
  have  :=beq_eq_false_iff_ne.mpr hxn;simp only[aw,this];exact hx;rcases ax.mp hx with rfl|hx
  exact h2 n (by simp);exact h3 x hx hxf;obtain⟨cl,e,h1,h2,h3⟩:=XG r cs (λx hx=>hf x<|ω _ hx) h;refine{cl,?_,h1,h2,λx hx hxf=>?_};rw[As,if_neg (by simp[(hk)])];exact e;rcases ax.mp hx with rfl|hx
  exact absurd hxf hk;exact h3 x hx hxf
def XH(hf:∀ x∈scope.names,x.2=.free->∃ c,env.cells.lookup x.1=some c) :
  ∃ cl,closureFor scope env=pure cl/\(∀ x c,cl.lookup x=some c->env.cells.lookup x=some c)/\∀ x∈scope.names,x.2=.free->(cl.lookup x.1).isSome=true:=by
 obtain⟨cl,e,h1,z,h3⟩:=XG  _ [] hf (λx c h=>by simp at h);refine{cl,?_,h1,h3}
 have:(forIn scope.names ([]) λx r=>(if(x.2==gu)=true then do let a ← cellOf env x.1;pure (jv ((x.1,a)::r))else pure (jv r))) >>=(λr=>(pure r))=(pure cl:Sem _):=by rw[e];rfl
 exact this
def mE{env:Env}:∀ {names:List (Str × zk)} {x:Str},names.lookup x=some .free ->
  (names.map λ(n,k)=>if(k==gu&&env.scope.kind == .function&&env.kindOf n==some .cell)then(n,gx)else(n,k)).lookup x=some .cell ∨
  (names.map λ(n,k)=>if(k==gu&&env.scope.kind == .function&&env.kindOf n==some .cell)then(n,gx)else(n,k)).lookup x=some .free
 | [],_,h=>by simp at h
 |(n,k)::r,x,h=>by
  by_cases hx:x=n;subst hx;simp only[aw,beq_self_eq_true]at h;obtain rfl:=ι h
  show ig x ((if _ then(x,gx)else(x,gu))::_)=_\/ig x ((if _ then(x,gx)else(x,gu))::_)=_;split;exact .inl (by simp);exact .inr (by simp)
  have hb:=beq_eq_false_iff_ne.mpr hx;simp only[aw,hb]at h
  show ig x ((if _ then(n,gx)else(n,k))::_)=_\/ig x ((if _ then(n,gx)else(n,k))::_)=_;split<;>(simp only[aw,hb];exact(mE  h))
def mF{env:Env}:∀ {names:List (Str × zk)} {x:Str},
  ((names.map λ(n,k)=>if(k==gu&&env.scope.kind == .function&&env.kindOf n==some .cell)then(n,gx)else(n,k)).lookup x=some .cell ∨
  (names.map λ(n,k)=>if(k==gu&&env.scope.kind == .function&&env.kindOf n==some .cell)then(n,gx)else(n,k)).lookup x=some .free)->(x,gu)∈names\/(x,gx)∈names
 | [],_,h=>by simp at h
 |(n,k)::r,x,h=>by
  by_cases hx:x=n;subst hx
  have h:ig x ((if(k==gu&&env.scope.kind == .function&&env.kindOf x==some _)=true then(x,gx)else(x,k))::_)=some _\/ig x ((if(k==gu&&env.scope.kind == .function&&env.kindOf x==some _)=true then(x,gx)else(x,k))::_)=some _:=h;split at h;rename_i hc;rw[cb,cb]at hc
  have:k=.free:=by simpa using hc.1.1
  subst this;exact .inl ai;simp only[aw,beq_self_eq_true]at h;rcases h with h|h
  cases h;exact .inr ai;cases h;exact .inl ai
  have h:ig x ((if(k==gu&&env.scope.kind == .function&&env.kindOf n==some _)=true then(n,gx)else(n,k))::_)=some _\/ig x ((if(k==gu&&env.scope.kind == .function&&env.kindOf n==some _)=true then(n,gx)else(n,k))::_)=some _:=h
  have h':=h;split at h'
  all_goals
   simp only[aw,(beq_eq_false_iff_ne.mpr hx)]at h';exact(mF h').imp (ω _) (ω _)
def FF{a b:Addr}{n:Nat}(h:a<n)(h2:n<=b):a≠b:=bd<|aa h h2
def Cx.block(X:Cx)(AA:tN)(s:π)(H:Hp)(Nc:Xu)(scope:Scope)(cl:List (Str × Addr))(C:Addr)(fp:Uu):Cx where
 prog:=X.prog
 w:=X.w
 K:=X.K
 mg:=X.mg
 base:=X.base
 A:=X.A
 N:=Nc
 s₀:=s
 H₀:=H
 env:=compEnvC scope cl C X.env
 outer:=X.stack
 stack:=X.stack
 ex:=fp
 fn:=λ_=>false
 calm:=X.calm
 pn:=X.pn++AA
 xe:=λ_ _=>False
abbrev _root_.ad:=List Nat
structure IA(X:Cx)(scope:Scope)(tn cn:Xu)(AY:ad):Prop where
 kind:scope.kind=.function
 nocell:∀ y∈scope.names,y.2≠.cell
 names:∀ y∈scope.names,y.2=.local->scope.names.lookup y.1=some .local
 free:∀ y∈scope.names,y.2=.free->X.env.kindOf y.1=some .cell\/X.env.kindOf y.1=some .free
 drawn:∀ x∈cn,scope.names.lookup x=some .free
 caps:AY.map (λi=>X.N[i]?)=cn.map some
def K7(k:Nat)(AY:ad)(σ:St):St:=bg k none++AY.map λi=>(σ[i]?).join
def HOk.track(x:HOk P w H h)(hn:H a=none)(new:ObjOk P w (upd H a o) h a o):HOk P w (upd H a o) h:=λb u e=>by
 by_cases hb:b=a;subst hb;rw[AE]at e;obtain rfl:=ι e;exact new;rw[AG hb]at e;refine(x b u e).stay (λz z z q=>q) (λc q=>?_) λc xs q=>?_;rw[AG (BE q hn)];exact q;rw[AG (BE q hn)];exact q
section
variable{X:Cx}{AA:tN}{σ:St}{H:Hp}{s:π}
def Inv.pinlt(I:Inv X AA σ H s)(hp:p∈X.pn++AA):p.1<s.heap.objs.size:=av (I.pin p hp).1
def Inv.stkne(I:Inv X AA σ H s)(h1:b≠X.env.locals)(h2:b∉X.fs):b∉D5 X.stack:=λz=>(ax.mp<|I.stkSub b z).elim h1 h2
def Inv.stklt(I:Inv X AA σ H s)(h:b∈D5 X.stack):b<s.heap.objs.size:=by
 obtain⟨z,o,ho,z⟩:=I.stack.mem h;exact av ho
def Inv.block{scope:Scope}{tn cn:Xu}{cl:List (Str × Addr)}{s1:π}(I:Inv X AA σ H s)(S:IA X scope tn cn AY)
  (BC:∀ x c,cl.lookup x=some c->X.env.cells.lookup x=some c) (F8:∀ x∈scope.names,x.2=.free->(cl.lookup x.1).isSome=true)
  (hf:∀ b∈fp,FpOk X AA H b) (hfl:∀ b∈fp,b<s.heap.objs.size) (hC:s.heap.objs.size<=C) (k:∀ b o,s.heap.get? b=some o->s1.heap.get? b=some o)
  (hos:s1.os=s.os) (hg:s1.gens=s.gens) (hns:∃ m,s1.heap.Ns C m)
  (hp:∀ p∈pins',s1.heap.get? p.1=some p.2/\H p.1=none/\p.1≠C/\p.1∉D5 X.stack/\∀ v,p.2.data≠.cell v) :
  Inv (X.block AA s H (tn++cn) scope cl C fp) pins' (K7 tn.length AY σ) H s1:=by
 have ok:(X.block AA s H (tn++cn) scope cl C fp).Ok:=by
  refine{I.ok.mod,S.kind,I.ok.glob,I.ok.blt,hC,λx y c h1 h2=>I.ok.inj x y c (BC x c h1) (BC y c h2),λx hx=>?_,λx c z t=>(by cases z),I.ok.hd,I.ok.frames,.inl rfl,λb hb=>{(bd<|aa (hfl b hb) hC),λx c e=>(hf b hb).2.2.2.2.1 x c (BC x c e)},I.bs,ψ I.ok.bsz I.sz,λb o e hb=>?_,λb hb=>I.stkne (hf b hb).2.1 (hf b hb).2.2.1,I.stack,I.stkFree};rcases mF  hx with z|z
  exact fg.mp<|F8 _ z rfl;exact absurd rfl<|S.nocell _ z;rcases(hf b hb).2.2.2.1 with z|z
  exact I.ok.noex b o e z;exact absurd (aa (av e) (ψ I.ok.bsz z)) (kd _)
 refine{ok,hos,by rw[hg];exact I.bare,Un.kept k,?_,λx c e=>?_,I.hok.fresh hC,λx c e=>I.freeC x c<|BC x c e,λp hp'=>?_,I.hok.kept k,?_};obtain⟨m,hm⟩:=hns;refine{m,hm,λi x v h1 h2 h3=>?_}
 have hi:tn.length<=i:=by
  rcases fe i _ with z|z
  unfold K7 at h2;rw[ba (by simpa using z),zl]at h2;split at h2<;>cases h2;exact z
 unfold K7 at h2;rw[ci (by simpa using hi),vk,τ]at h2
 have h1':cn[i-tn.length]? =some x:=by
  have:(tn++cn)[i]? =some x:=h1
  rwa [ci hi]at this
 cases hq:AY[i-tn.length]? with
 |none=>rw[hq]at h2;cases h2
 |some j =>
  rw[hq]at h2
  have hj:X.N[j]? =some x:=by
   have:=congrArg (λl=>l[i-tn.length]?) S.caps;simp only[τ,hq,h1']at this;exact ι this
  have hv:σ[j]? =some (some v):=by
   cases hs:σ[j]? with
   |none=>simp[hs]at h2
   |some y=>simp only[ua,hs]at h2;obtain rfl:=ι h2;rfl
  have hxf:=PySem.mem_of_lookup<|S.drawn x<|η h1';obtain⟨m0,t,hl0⟩:=I.loc
  have hk:=S.free _ hxf rfl;obtain⟨u,r,q⟩:=hl0 j x v hj hv<|hk.elim (λz=>.inr<|.inl z) λz=>.inr<|.inr z;refine{u,r,.inr {mE<|S.drawn x<|η h1',?_}};rcases q with⟨kl,_⟩|⟨_,c,hc,z⟩
  rcases hk with hk|hk<;>(rw[kl]at hk;cases hk)
  obtain⟨c',hc'⟩:=fg.mp<|F8 _ hxf rfl
  have:=BC _ _ hc';rw[hc]at this;obtain rfl:=ι this;exact{c,hc',z.keeps k}
 obtain⟨v,z⟩:=I.cell x c<|BC x c e;exact{v,z.keeps k};rcases ao.mp hp' with z|z
 obtain⟨e,n,ne,nf,d⟩:=I.pin p z;exact{k _ _ e,n,bd<|aa (av e) hC,I.stkne ne nf,d};exact hp p z;unfold K7
 have:=congrArg lb S.caps
 show _=(tn++cn).length;simp only[ζ]at this;simp[this]
end
def CG:TT:=λ_ H Q=>Q true H
def JA(X:Cx)(DY:Vu)(t:TT):Prop :=
 ∀ (AA:tN) (s:π) (σ:St) (H:Hp) (Q:tX),Inv X AA σ H s->t σ H Q ->
  wpAny (model X.prog X.w) X.A (forIn DY true λc r=>if r=true then do let ok ← Ps c X.env (eval c X.env);pure (jv ok)else pure (jv r)) (TP X AA σ Q) X.xe s
def Tk:JA X [] CG:=λAA s σ H Q I h=>wpAny_tests_nil ⟨H,I,h⟩
def Tl(h:PT X c t):JA X [c] t:=λAA s σ H Q I q=>wpAny_tests_one<|h _ s σ H Q I q
def Tm (Jn:Nat->π->Prop)
    (turn:∀ n s,Jn n s->wpAny (model prog w) A (za it) (λr s₁=>match r with
      |none=>R (.ok .next) s₁
      | some v=>wpAny (model prog w) A (Ao target it v) (λ_ s₂=>wpAny (model prog w) A (P_ target env v) (λ_ s₃ =>
          wpAny (model prog w) A (forIn DY true λc r=>if r=true then do let ok ← Ps c env (eval c env);pure (jv ok)else pure (jv r)) (λok s₄ =>
            if ok=true then wpAny (model prog w) A (eval DX env) (λx s₅ =>
              wpAny (model prog w) A (call (.builtin "list.append") [BO,x]) (λ_ s₆=>∃ m,m<n/\Jn m s₆) (λ_ _=>False) s₅) (λ_ _=>False) s₄
            else ∃ m,m<n/\Jn m s₄) (λ_ _=>False) s₃) (λ_ _=>False) s₂) (λ_ _=>False) s₁) (λ_ _=>False) s)
    (n:Nat) (h:Jn n s):wf (model prog w) A (.compLoop (.ListComp DX [{target,iter,DY,0}] scope pos) 0 it BO env) R s:=by
  refine codeAny_loop rfl Jn (λn' s' hJ=>(wpAny_noted<|wpAny_noRaise<|δ<|y_<|δ<|AO (turn n' s' hJ) λr s₁ h₁=>?_)) n h;cases r with
  |none=>exact ν h₁
  |some v =>
    refine δ<|AO h₁ λ_ s₂ h₂=>(δ<|AO h₂ λ_ s₃ h₃=>δ<|AO h₃ λok s₄ h₄=>?_);cases ok with
    |false=>exact ν ⟨rfl,h₄⟩
    |true=>exact δ<|δ<|AO h₄ λx' s₅ h₅=>δ<|AO h₅ λ_ s₆ h₆=>ν<|ν ⟨rfl,h₆⟩
def BX(wi:TI)(g:TG)(tt:TT)(te:TE)(k:Nat)(AY:ad):TE:=λσ H Q=>wi σ H λJ H1 =>
 ∃ W:Nat->Nat->St->Tr->Hp->Prop,(∃ m,W 0 m (K7 k AY σ) [] H1)/\∀ i m σ' ys H,W i m σ' ys H ->
  (J.stop i H/\∀ p,H p=none->Q (.ref p) (upd H p<|.lst ys)) ∨
  (J.go i H/\ys.length<sizeLine/\∀ x H',J.yld i H x H'->g x σ' H' λσ2 H2=>tt σ2 H2 λb H3 =>
   if b=true then ∃ N:VK,(∀ y H4,N y H4->∃ m',m'<m/\W (i+1) m' σ2 (ys++[y]) H4)/\te σ2 H3 N else ∃ m',m'<m/\W (i+1) m' σ2 ys H3)
structure CompDone(X:Cx)(fp:Uu)(H:Hp)(s:π)(Q:VK)(BO:Value)(C:Addr)(r:Result)(s':π):Prop where
 ok:r=.ok .next
 ex:∃ (D:Addr) (ys:Tr) (AJ:Su) (n:Nat) (H':Hp),BO=.ref D/\Vals ys AJ/\ys.length<=sizeLine/\s'.heap.get? D=some { cls:=.type "list",data:=.seq AJ.toArray n }/\s.heap.objs.size<=D/\D≠C/\H' D=none/\H' C=none ∧
  (∃ m,s'.heap.Ns C m)/\Un (D5 X.stack) fp H H' s.heap s'.heap/\HOk X.prog X.w H' s'.heap/\∀ p,H' p=none->Q (.ref p) (upd H' p<|.lst ys)
 ge:s.heap.objs.size<=C
 os:s'.os=s.os
 bare:uw s'.gens
section
variable{X:Cx}{AA:tN}{σ:St}{H:Hp}{s:π}
def XI {scope:Scope} {tt:TT} {te:TE} {tn cn:Xu} {cl:List (Str × Addr)} {tn':Nat->Heap->Prop} {J:It} {Q:VK} {E:tV}
    (I:Inv X AA σ H s) (S:IA X scope tn cn AY) (hc:X.calm=true)
    (BC:∀ x c,cl.lookup x=some c->X.env.cells.lookup x=some c) (F8:∀ x∈scope.names,x.2=.free->(cl.lookup x.1).isSome=true)
    (T:KW X.prog X.w X.K tg J fp it tn') (st:tn' 0 s.heap) (hf:∀ b∈fp,FpOk X AA H b)
    (hg:∀ C,PG (X.block AA s H (tn++cn) scope cl C fp) tg g) (ht:∀ C,JA (X.block AA s H (tn++cn) scope cl C fp) DY tt) (he:∀ C,PE (X.block AA s H (tn++cn) scope cl C fp) DX te)
    (W:Nat->Nat->St->Tr->Hp->Prop) (w0:W 0 m0 (K7 tn.length AY σ) [] H)
    (step:∀ i m σ' ys H,W i m σ' ys H ->
      (J.stop i H/\∀ p,H p=none->Q (.ref p) (upd H p<|.lst ys)) ∨
      (J.go i H/\ys.length<sizeLine/\∀ x H',J.yld i H x H'->g x σ' H' λσ2 H2=>tt σ2 H2 λb H3 =>
        if b=true then ∃ N:VK,(∀ y H4,N y H4->∃ m',m'<m/\W (i+1) m' σ2 (ys++[y]) H4)/\te σ2 H3 N else ∃ m',m'<m/\W (i+1) m' σ2 ys H3)) :
    wpAny (model X.prog X.w) X.A (newList []) (λBO s₃=>wpAny (model X.prog X.w) X.A (newFunctionEnv scope X.env.globals cl [] X.env.qual none .none (some X.env)) (λcenv s₄ =>
      wf (model X.prog X.w) X.A (.compStart (.ListComp DX [{tg,iter,DY,0}] scope pos) 0 (.ref it) BO { cenv with scope:=relabel scope X.env }) (CompDone X fp H s Q BO cenv.locals) s₄) E s₃) E s:=by
  refine dh (wpAny_newFunctionEnv S.nocell (by intro y hy;simp at hy) (λh₁ hns₁ hsb₁=>?_) S.kind);generalize hH2:s.heap.push _=H2 at hns₁ hsb₁ ⊢;generalize hCe:H2.objs.size=C at hns₁ hsb₁ ⊢
  have hC:=hCe.symm.trans (by rw[<-hH2,Bu]);generalize hD:s.heap.objs.size=D at *
  have hDC:D≠C:=by rw[hC];exact bd<|fu _
  have old:∀ b o,s.heap.get? b=some o->h₁.get? b=some o:=λb o e=>by
    have hb:b<D:=by rw[<-hD];exact av e
    exact hsb₁.extBut b o (FF hb (by rw[hC];exact jq _)) (ξ _<|hH2 ▸ ξ _ e)
  have hDo:h₁.get? D=some { cls:=.type "list",data:=.seq ([]).toArray }:=by
    refine hsb₁.extBut _ _ hDC<|ξ _ ?_;rw[<-hH2,<-hD];exact aj _ rfl
  have hDs:=λz=>FF (I.stklt z) (bt hD) rfl
  have hfl:∀ b∈fp,b<s.heap.objs.size:=λb hb=>by
    obtain⟨o,e,_⟩:=T.obj 0 _ st b hb;exact av e
  have I0:Inv _ [(D,{ cls:=.type _,data:=.seq _ 0 })] _ H { s with heap:=h₁,toks:=s.toks+([]:tL).length } :=
    I.block S BC F8 hf hfl (by lia) old rfl rfl ⟨_,hns₁⟩ λp hp=>by
      rw[ρ]at hp;subst hp;exact{hDo,(by rw[<-hD];exact I.hok.fresh<|υ _),hDC,hDs,λv z=>nomatch z}
  have st1:=T.keep _ _ _ st λb _ o e=>old b o e
  have fpok:∀ {H':Hp} {o:Obj},(∀ b∈fp,H' b=none)->∀ b∈fp,FpOk (X.block AA s H (tn++cn) scope cl C fp) [(D,o)] H' b:=λ{H' o} hn b hb=>by
    obtain⟨_,f1,f2,f3,f4,f5⟩:=hf b hb
    have hbl:=hfl b hb;refine{hn b hb,?_,I.stkne f1 f2,.inl hb,λx c e=>f4 x c<|BC x c e,λp hp=>?_}
    ·exact FF hbl (by rw[hD,hC];exact jq _)
    · rcases ao.mp hp with z|z
      ·exact f5 p z
      ·rw[ρ]at z;subst z;exact fj<|FF hbl<|bt hD
  have loop:∀ s₃:π,s₃={ s with heap:=h₁,toks:=s.toks+([]:tL).length } ->
      wf (model X.prog X.w) X.A (.compLoop (.ListComp DX [{tg,iter,DY,0}] scope pos) 0 (.ref it) (.ref D) (compEnvC scope cl C X.env)) (CompDone X fp H s Q (.ref D) C) s₃:=by
    rintro s₃ rfl;refine Tm (λn s'=>∃ i σ' ys AJ nn H',Inv (X.block AA s H (tn++cn) scope cl C fp) [(D,{ cls:=.type "list",data:=.seq (AJ:Su).toArray nn })] σ' H' s'/\tn' i s'.heap/\(∀ b∈fp,H' b=none)/\Vals ys AJ/\ys.length<=sizeLine/\W i n σ' ys H') ?_ m0
      {0,_,[],[],0,H,I0,st1,λb hb=>(hf b hb).1,.nil,bu _,w0}
    rintro n s4 ⟨i,σ4,ys,AJ,nn,H4,I4,st4,fr4,r4,l4,w4⟩;rcases step i n σ4 ys H4 w4 with⟨stop,qn⟩|⟨go,A0,next⟩
    · refine AO (T.done (X.block AA s H (tn++cn) scope cl C fp) rfl rfl rfl hc i _ s4 σ4 H4 _ I4 (fpok fr4) st4 stop) λr s5 hzz=>?_
      obtain⟨hr,I5⟩:=hzz;subst hr
      have hp:=I5.pin (D,_) (bh _ ai);obtain⟨m5,hm5,_⟩:=I5.loc;exact{rfl,x5 D ys AJ nn H4 {rfl,r4,l4,hp.1,bt hD,hDC,hp.2.1,I5.free,⟨m5,hm5⟩,I5.base,I5.hok,qn},by lia,I5.os,I5.bare}
    · refine AO (T.item (X.block AA s H (tn++cn) scope cl C fp) rfl rfl rfl hc i _ s4 σ4 H4 _ I4 (fpok fr4) st4 go) λr s5 hzz=> ?_
      obtain⟨u,hr,h5⟩:=hzz;subst hr;refine AO h5 λ_ s6 hzz=>?_;obtain⟨x,H6,I6,r6,y6,st6,fr6⟩:=hzz
      have I6':=I6.pinned (fpok fr6) (T.obj _ _ st6);refine AO (hg C _ s6 σ4 H6 x u _ I6' r6<|next x H6 y6) λ_ s7 hzz=>?_;obtain⟨σ7,H7,I7,q7⟩:=hzz;refine AO (ht C _ s7 σ7 H7 _ I7 q7) λok s8 hzz=>?_;obtain⟨H8,I8,q8⟩:=hzz
      have keepst:∀ {σ9:St} {H9:Hp} {s9:π},Inv (X.block AA s H (tn++cn) scope cl C fp) ([(D,{ cls:=.type "list",data:=.seq AJ.toArray nn })]++OZ fp s6.heap) σ9 H9 s9->(∀ b∈fp,∀ o,s6.heap.get? b=some o->s9.heap.get? b=some o)/\∀ b∈fp,H9 b=none:=λ{σ9 H9 s9} I9=>by
        refine{λb hb o e=>(I9.pin (b,o) (bh _<|bh _<|NK hb e)).1,λb hb=>?_};obtain⟨o,e,_⟩:=T.obj _ _ st6 b hb;exact(I9.pin (b,o) (bh _<|bh _<|NK hb e)).2.1
      cases ok with
      |false =>
        obtain⟨m',hm',w'⟩:=q8;obtain⟨k1,k2⟩:=keepst I8;exact{m',hm',x6 (i+1) σ7 ys AJ nn H8 {I8.unpinned,T.keep _ _ _ st6 k1,k2,r4,l4,w'}}
      | true =>
        obtain⟨Nw,hN,q8⟩:=q8;refine AO (he C _ s8 σ7 H8 Nw I8 q8) λv s9 hzz=>?_;obtain⟨y,H9,I9,r9,n9⟩:=hzz;obtain⟨m',hm',w'⟩:=hN y H9 n9;obtain⟨k1,k2⟩:=keepst I9
        have hp:=I9.pin (D,_) (bh _<|cf _ ai)
        have e:=hp.1
        have B9:=r4.length;refine qv Fu ⟨_,e,rfl⟩ Ee (Ci _ _) (PySem.list_append D AJ.toArray nn v (by rw[ay];exact oB (cr (bt B9.symm) A0) rfl)) {e,?_}
        have q:=PySem.IsL.update e<|λxs=>xs.push v
        have Ia:Inv (X.block AA s H (tn++cn) scope cl C fp) [] σ7 H9 s9:=I9.pins_of λp hp=>nomatch hp
        have Ib:=Ia.turned (h':=s9.heap.update D (gr (·.push v))) (t':=s9.toks) (it:=D) (λb o hb eb=>(ck _ _<|fj hb).trans eb) hp.2.1 hDC (.inr (by show s.heap.objs.size<=D;exact bt hD))
          (λx c ec z=>by
            obtain⟨vv,zc⟩:=I.cell x c<|BC x c ec;exact FF zc.lt (bt hD) z)
          (λp hp'=>by
            rw[kx]at hp';exact FF (I.pinlt hp') (bt hD))
        have q':(s9.heap.update D (gr (·.push v))).get? D=some { cls:=.type "list",data:=.seq (AJ++[v]).toArray (nn+1) }:=by
          rw[if_neg (by simp)]at q;rw[<-List.push_toArray];exact q
        refine{m',hm',x6 (i+1) σ7 (ys++[y]) (AJ++[v]) (nn+1) H9 {Ib.pins_of<|λp hp'=>?_,T.keep _ _ _ st6 λb hb o eb=>?_,k2,r4.append<|.cons r9 .nil,?_,w'}}
        · rw[ρ]at hp'
          subst hp';exact{q',hp.2.1,hDC,hDs,λv' z=>nomatch z}
        · have hbl:=hfl b hb
          exact(ck _ _<|fj<|FF hbl<|bt hD).trans (k1 b hb o eb)
        · rw[ae,ji]
          exact A0
  exact codeAny_compStart_list (loop _ rfl) (T.self _ 0 _ _ _ st1<|loop _ rfl)
def CompDone.inv{Q:VK}{s':π}(I:Inv X AA σ H s)(hf:∀ b∈fp,FpOk X AA H b)(h:CompDone X fp H s Q BO C r s') :
  ∃ D H',BO=.ref D/\Inv X AA σ H' s'/\Q (.ref D) H'/\H' C=none/\∃ m,s'.heap.Ns C m:=by
 obtain⟨z,⟨D,ys,AJ,n,H',rfl,r4,l4,e,hD,hDC,hDn,hCn,hm,u,ok,q⟩,hC,os,bare⟩:=h
 have ltH:∀ b o,H b=some o->b≠D:=λb o eb=>FF (I.hok.lt eb) hD;refine x2 D (upd H' D<|.lst ys) {rfl,I.call'  os {u.keep,u.slot,λb o eb n' hx=>?_,u.there,λb xs eb=>?_,λb o x eb=>?_,λb ps eb=>?_} (ok.track hDn {l4,x2 _ n ⟨r4,e⟩}) bare (λb hb=>?_),q D hDn,?_,hm};rw[AG ((λb o eb=>FF (av eb) hD) b o eb)];exact u.free b o eb n' hx;rw[AG (ltH b _ eb)];exact u.tups b xs eb;rw[AG (ltH b _ eb)];exact u.frzs b o x eb;rw[AG (ltH b _ eb)];exact u.tbls b ps eb;obtain⟨z,f1,f2,f3,f4,f5⟩:=hf b hb;exact⟨f3,f1,f4,f5⟩;rw[AG (fj hDC)];exact hCn
def Inv.letgo{s1:π}(I:Inv X AA σ H s)(hC:s.heap.objs.size<=C)(I1:Inv X AA σ1 H1 s1)(hn:H1 C=none)(hs:gy C s1.heap h'):Inv X AA σ1 H1 { s1 with heap:=h' }:=by
 refine I1.turned   (λb o hb e=>(hs.2 b hb).trans e) hn (λz=>(FF I.lt hC z.symm)) (.inr<|ψ I.sz hC) (λx c e z=>?_) λp hp z=>(FF (I.pinlt hp) hC z)
 obtain⟨v,zc⟩:=I.cell x c e;exact FF zc.lt hC z
variable{tg iter DX:Expr}{DY:Vu}{scope:Scope}{pos:Pos}{wi:TI}{g:TG}{tt:TT}{te:TE}{tn cn:Xu}{AY:ad}
def Tp(S:IA X scope tn cn AY)(hc:X.calm=true)(hi:PI X tg iter wi)
  (hg:∀ AA s H cl C fp,PG (X.block AA s H (tn++cn) scope cl C fp) tg g) (ht:∀ AA s H cl C fp,JA (X.block AA s H (tn++cn) scope cl C fp) DY tt) (he:∀ AA s H cl C fp,PE (X.block AA s H (tn++cn) scope cl C fp) DX te)
  (hs:∀ x,iz iter X.env x=pure x:=by intro z;rfl):PE X (.ListComp DX [{tg,iter,DY,0}] scope pos) (BX wi g tt te tn.length AY):=by
 intro AA s σ H Q I h;obtain⟨cl,ecl,BC,F8⟩:=XH   λx hx hxf=>I.ok.has _<|S.free x hx hxf;refine tj  rfl hs ecl S.kind S.names (AO (hi _ s σ H _ I h) λv s1 h1=>AO h1 λitv s2 h2=>?_);revert h2;apply u5;rintro it fp tn' J H2 ⟨rfl,I2,T,st2,f2,W,⟨m0,w0⟩,turn⟩;refine AO (XI I2 S hc BC F8 T st2 f2 (λC=>hg _ _ _ _ C _) (λC=>ht _ _ _ _ C _) (λC=>he _ _ _ _ C _) W w0 turn) λBO s3 h3=>AO h3 λcenv s4 h4=>k_ h4 λr s5 h5=>?_
 have hr:=h5.ok;subst hr;refine u2 ?_<|h5.inv I2 f2;rintro D H' ⟨rfl,I5,q5,hCn,m,hm⟩;exact{m,hm,λh' hs'=>x2 (.ref D) H' {I2.letgo h5.ge I5 hCn hs',rfl,q5}}
def Tq{x:Str}{px spos:Pos}(S:IA X scope tn cn AY)(hc:X.calm=true)(hN:X.N.Nodup)(hi':X.N[i]? =some x)(hx:X.env.scope.names.lookup x=some .local)(hi:PI X tg iter wi)
  (hg:∀ AA s H cl C fp,PG (X.block AA s H (tn++cn) scope cl C fp) tg g) (ht:∀ AA s H cl C fp,JA (X.block AA s H (tn++cn) scope cl C fp) DY tt) (he:∀ AA s H cl C fp,PE (X.block AA s H (tn++cn) scope cl C fp) DX te)
  (hsw:xl (.ListComp DX [{tg,iter,DY,0}] scope pos) (some<|.Name x px) spos.line X.env=pure true:=by rfl)
  (hs:∀ x,iz iter X.env x=pure x:=by intro y;rfl):PS X (.Assign [.Name x px] (.ListComp DX [{tg,iter,DY,0}] scope pos) spos) (AQ (BX wi g tt te tn.length AY) (AF i)):=by
 intro AA s σ H D I h;obtain⟨cl,ecl,BC,F8⟩:=XH   λx hx hxf=>I.ok.has _<|S.free x hx hxf;rw[exec_Assign_Name_used _ _ _ _ hsw];refine δ<|y_<|δ<|δ<|tj  rfl hs ecl S.kind S.names (AO (hi _ s σ H _ I h) λv s1 h1=>AO h1 λitv s2 h2=>?_);revert h2;apply u5;rintro it fp tn' J H2 ⟨rfl,I2,T,st2,f2,W,⟨m0,w0⟩,turn⟩;refine AO (XI (Q:=λx' H1=>AF i x' σ H1 _) I2 S hc BC F8 T st2 f2 (λC=>hg _ _ _ _ C _) (λC=>ht _ _ _ _ C _) (λC=>he _ _ _ _ C _) W w0 turn) λBO s3 h3=>AO h3 λcenv s4 h4=>k_ h4 λr s5 h5=>?_
 have hr:=h5.ok;subst hr;refine u2 ?_<|h5.inv I2 f2;rintro Da H' ⟨rfl,I5,q5,hCn,m,hm⟩;refine Gu<|kG I5 hN hi' (.inl hx) (show RelV (.ref Da) _ from rfl) (λs6 I6 ⟨a,hsb,ha⟩=>{m,hm.sameBut hsb ?_,λh' hs'=>(ν<|ν<|x2 _ H' {I2.letgo h5.ge I6 hCn hs',q5})}) (.inr hx);rcases ha with z|z
 exact fj<|z ▸ FF I2.lt h5.ge;obtain⟨vv,zc⟩:=I2.cell x a z;exact fj<|FF zc.lt h5.ge
end
def ObjOk.there(x:ObjOk P w H h a o):∃ ob,h.get? a=some ob:=by
 cases o with
 |lst xs=>obtain⟨z,z,z,z,e⟩:=x;exact⟨_,e⟩
 |tup xs=>obtain⟨z,z,z,ob,e,z⟩:=x;exact⟨_,e⟩
 |dK kvs=>obtain⟨z,z,z,z,ob,z,z,e,z⟩:=x;exact⟨_,e⟩
 |dT kvs=>obtain⟨z,z,z,z,ob,z,z,e,z⟩:=x;exact⟨_,e⟩
 |set S n=>revert x;apply u4;rintro ob z z z ⟨e,z⟩;exact⟨_,e⟩
 |ins C dx fs=>obtain⟨z,z,z,e,z⟩:=x;exact⟨_,e⟩
 |own y=>exact x
 |xd fs=>obtain⟨z,⟨ob,z,z,e,z⟩,z⟩:=x;exact⟨_,e⟩
 |rng lo hi=>revert x;apply u3;rintro z z z e;exact⟨_,e⟩
 |frz ob u=>obtain⟨e,z⟩:=x;exact⟨_,e⟩
 |tbl ps=>exact⟨_,x⟩
 |met f y=>exact⟨_,x⟩
 |ext φ =>exact x.2.1
def HOk.nh(x:HOk P w H h)(e:h.get? a=none):H a=none:=by
 cases q:H a with
 |none=>rfl
 |some o =>
  obtain⟨ob,e'⟩:=(x a o q).there;rw[e]at e';cases e'
section
variable{X:Cx}{AA:tN}{σ:St}{H H':Hp}{s:π}{h':Heap}
def Inv.stepN{g':Array Gs}{t':Nat}{d':Drawn}{ch:Uu}(I:Inv X AA σ H s)
  (DO:∀ b∈ch,(b∈X.ex\/X.s₀.heap.get? b=none)/\b≠X.env.locals/\(∀ x c,X.env.cells.lookup x=some c->c≠b)/\∀ p∈X.pn++AA,p.1≠b)
  (keep:∀ b o,b≠X.env.locals->b∉X.fs->b∉ch->s.heap.get? b=some o->H b=none->h'.get? b=some o)
  (slot:∀ b o,b≠X.env.locals->b∈X.fs->b∉ch->s.heap.get? b=some o->H b=none->∃ sl,h'.get? b=some { o with slots:=sl }) (free:∀ b o,b∉ch->s.heap.get? b=some o->H b=none->H' b=none)
  (there:∀ b o,b∉ch->s.heap.get? b=some o->∃ o',h'.get? b=some o')
  (tups:∀ b xs,H b=some (.tup xs)->H' b=some (.tup xs)) (frzs:∀ b o u,H b=some (.frz o u)->H' b=some (.frz o u)) (tbls:∀ b ps,H b=some (.tbl ps)->∃ more,H' b=some (.tbl<|ps++more))
  (ns:∀ m,s.heap.Ns X.env.locals m->h'.Ns X.env.locals m) (hok:HOk X.prog X.w H' h') (hg:uw g') :
  Inv X AA σ H' { s with heap:=h',gens:=g',drawn:=d',toks:=t' }:=by
 have neL:∀ b o,X.s₀.heap.get? b=some o->b≠X.env.locals:=λb o e=>bd<|aa (av e) I.ok.above
 have neC:∀ b o,X.s₀.heap.get? b=some o->b∉X.ex->b∉ch:=λb o e hx hb=>by
  rcases(DO b hb).1 with z|z
  exact hx z;rw[e]at z;cases z
 have cellK:∀ x c,X.env.cells.lookup x=some c->∀ v,s.heap.IsCell c v->h'.IsCell c v:=λx c e v ⟨o,ho,hd⟩=>by
  have nch:=λz=>(DO c z).2.2.1 x c e rfl;by_cases hc:c∈X.fs;obtain⟨sl,q⟩:=slot c o (I.cne x c e) hc nch ho (I.freeC x c e);exact⟨_,q,hd⟩;exact{o,keep c o (I.cne x c e) hc nch ho (I.freeC x c e),hd}
 refine{I.ok,I.os,hg,{λb o e n hb hx=>(keep b o (neL b o e) hb (neC b o e hx) (I.base.keep b o e n hb hx) (I.base.free b o e n hx)),λb o e n hb hx=>?_,λb o e n hx=>?_,λb o e hx=>?_,λb xs e=>tups b xs<|I.base.tups b xs e,λb o xs e=>frzs b o xs<|I.base.frzs b o xs e,λb ps e=>?_},?_,λx c e=>?_,?_,λx c e=>?_,λp hp=>?_,hok,I.len};obtain⟨sl,e1⟩:=I.base.slot b o e n hb hx;obtain⟨sl',e2⟩:=slot b _ (neL b o e) hb (neC b o e hx) e1 (I.base.free b o e n hx);exact⟨_,e2⟩;obtain⟨o',e1⟩:=I.base.there b o e hx;exact free b o' (neC b o e hx) e1 (I.base.free b o e n hx);obtain⟨o',e1⟩:=I.base.there b o e hx;exact there b o' (neC b o e hx) e1;obtain⟨m1,e1⟩:=I.base.tbls b ps e;obtain⟨m2,e2⟩:=tbls b _ e1;exact{_,by rw[e2,Fo]};obtain⟨m,hn,hl⟩:=I.loc;refine{m,ns m hn,λi x v e1 e2 e3=>?_};obtain⟨u,r,l⟩:=hl i x v e1 e2 e3;refine{u,r,?_};rcases l with l|⟨k,c,e,z⟩
 exact .inl l;exact .inr {k,c,e,cellK x c e _ z};obtain⟨v,z⟩:=I.cell x c e;exact{v,cellK x c e v z};obtain⟨m,⟨o,y,y,ho,y⟩,y⟩:=I.loc;exact free _ o (λz=>(DO _ z).2.1 rfl) ho I.free;obtain⟨v,o,ho,hd⟩:=I.cell x c e;exact free c o (λz=>(DO c z).2.2.1 x c e rfl) ho (I.freeC x c e)
 have nch:=λz=>(DO _ z).2.2.2 p hp rfl;obtain⟨e,n,ne,nf,d⟩:=I.pin p hp;exact{keep _ _ ne nf nch e n,free _ _ nch e n,ne,nf,d}
end
structure Fly(bad:Addr->Prop)(H:Hp)(h:Heap)(e:Addr)(cls:Value):Prop where
 nb:¬ bad e
 free:H e=none
 ex:∃ (oe:Obj) (vs:Array Value),h.get? e=some oe/\oe.cls=cls/\oe.dict=none/\oe.data=.fields vs/\(vs[1]? =some .none ∨
  ∃ (T:Addr) (oT:Obj) (ts:Array Value),vs[1]? =some (.ref T)/\¬ bad T/\H T=none/\T≠e/\h.get? T=some oT/\oT.data=.fields ts/\ts[3]? =some .none)
def Fly.mono(F:Fly bad H h e cls)(k:∀ a,bad' a->bad a):Fly bad' H h e cls:=by
 obtain⟨nb,fr,oe,vs,h1,h2,h3,h4,h5⟩:=F;refine{λz=>nb<|k _ z,fr,x2 oe vs {h1,h2,h3,h4,?_}};rcases h5 with z|⟨T,oT,ts,a,b,c⟩
 exact .inl z;exact .inr<|x3 T oT ts {a,λz=>b<|k _ z,c}
section
variable{M:Model}{A:dk}{E:tV}{s:π}
def mG
  (OP:A.frames=some (env::outer)) (hl:s.heap.FunFrames base (env::outer)) (hf:env.frame=some L) (he:s.heap.get? e=some oe) (hdt:oe.data=.fields vs) (hsz:1<vs.size)
  (h:∀ h' T oT ts,(∀ b o,s.heap.get? b=some o->b≠e->b∉D5 (env::outer)->h'.get? b=some o)->(∀ b o,s.heap.get? b=some o->b≠e->∃ sl,h'.get? b=some { o with slots:=sl }) ->
   h'.get? e=some (oe.mapFields (·.setIfInBounds 1 (.ref T)))->s.heap.objs.size<=T->h'.get? T=some oT->oT.data=.fields ts->ts[3]? =some (mn L)->Q () { s with heap:=h' }) :
  wpAny M A (do let a ← frameOf env;let pl ← entryPlaceOf L nx;let b ← EntryCells.newEntry hd a .none (mn L) .none pl;setField (.ref e) 1 b) Q E s:=by
 have hne:e∉(env::outer).filterMap _:=λz=>by
  obtain⟨y,o,ho,hn⟩:=hl.mem z;rw[he]at ho;obtain rfl:=ι ho;exact hn vs hdt
 refine δ<|wpAny_frameOf_fun OP hl hf λh1 hs1=>(δ<|wpAny_entryPlaceOf λpl CB=>(δ<|dh ?_<|CB.sizeOk5 _ _ _ _ _))
 have he1:=(hs1.2.1 e hne).trans he
 have keep:∀ b o,b≠e->h1.get? b=some o->((h1.push { cls:=.type "traceback",dict:=none,data:=.fields ([hd,.ref L,.none,mn L,.none]++(if pl.isEmpty then bg 6 ix else pl)).toArray }).update e (wk (·.setIfInBounds 1 (gk h1.objs.size)))).get? b=some o:=λb o hb e1=>by
  rw[ck _ _ (fj hb)];exact ξ _ e1
 refine mo (ξ _ he1) hdt hsz ?_;refine h _ _ _ _ (λb o e1 hb hnf=>keep b o hb<|(hs1.2.1 b hnf).trans e1) (λb o e1 hb=>?_) (c_ _ (ξ _ he1) (pd<|ip hdt _)) (by rw[hs1.1];exact υ _)
  ((ck _ _<|fj<|g_<|av he1).trans (aj _ rfl)) rfl ?_
 obtain⟨sl,e2⟩:=hs1.2.2 b o e1;exact{sl,keep b _ hb e2}
 first|(done)|(rcases CB with rfl|⟨_,_,_,_,_,_,_,rfl⟩<;>simp)
structure XJ(fr:Uu)(bad:Addr->Prop)(H:Hp)(e:Addr)(cls:Value)(h h':Heap):Prop where
 ch:∃ ch:Uu,(∀ b∈ch,¬ bad b/\H b=none/\∃ o vs,h.get? b=some o/\o.data=.fields vs)/\(∀ b o,h.get? b=some o->b∉ch->b∉fr->h'.get? b=some o) /\
  (∀ b o,h.get? b=some o->b∉ch->∃ sl,h'.get? b=some { o with slots:=sl })
 fly:Fly bad H h' e cls
def mH
  (OP:A.frames=some (env::outer)) (hl:s.heap.FunFrames base (env::outer)) (hf:env.frame=some L) (F:Fly bad H s.heap e cls) (hb:∀ a,s.heap.objs.size<=a->¬ bad a) (hH:∀ a,s.heap.objs.size<=a->H a=none)
  (h:∀ h',XJ (D5 (env::outer)) bad H e cls s.heap h'->Q () { s with heap:=h' }) :
  wpAny M A (Pf (.ref e) env) (λy s2=>wpAny M A2 (Kf (.ref e) none) Q E2 s2) E s:=by
 obtain⟨nb,fr,oe,vs,he,WJ,WH,hd,htb⟩:=F
 have CU:∀ (s1:π) (ch:List _) (h':Heap) (T:Addr) (oT:Obj) (ts:Array _) (oe1:Obj),(∀ b o,s.heap.get? b=some o->s1.heap.get? b=some o\/b∈ch)->s1.heap.objs.size=s.heap.objs.size->e∈ch->(∀ b∈ch,¬ bad b/\H b=none/\∃ o vs,s.heap.get? b=some o/\o.data=.fields vs) ->
   oe1.cls=cls->oe1.dict=none->oe1.data=.fields vs->1<vs.size ->
   (∀ b o,s1.heap.get? b=some o->b≠e->b∉D5 (env::outer)->h'.get? b=some o)->(∀ b o,s1.heap.get? b=some o->b≠e->∃ sl,h'.get? b=some { o with slots:=sl }) ->
   h'.get? e=some (oe1.mapFields (·.setIfInBounds 1 (.ref T)))->s1.heap.objs.size<=T->h'.get? T=some oT->oT.data=.fields ts->ts[3]? =some (mn L)->wpAny M A2 (Kf (.ref e) none) Q E2 { s with heap:=h' }:=by
  intro s1 ch h' T oT ts oe1 hk1 hsz hech DO hcls1 hdict1 hd1 hv k1 k2 e1 hT e2 hdT h3
  have hT':=hsz ▸ hT
  have hTe:=fj<|FF (av he) hT'
  have hde:=ip hd1 (·.setIfInBounds 1 (gk T))
  have hs3:=(ja.mp h3).1;refine δ (jr e1 hde (x:=.ref T) (by simp[hv]) (mo e2 hdT hs3<|h _ ?_))
  have oth:∀ b,b≠T->(h'.update T (wk (·.setIfInBounds 3 ((none:Option Addr).elim ix λf=>mn f)))).get? b=h'.get? b:=λb hb'=>ck _ _<|fj hb'
  have ltT:∀ b o,s.heap.get? b=some o->b≠T:=λb o eb=>FF (av eb) hT';refine{{ch,DO,λb o eb hbc hbf=>?_,λb o eb hbc=>?_},nb,fr,y2 {(oth e<|fj hTe).trans e1,(Ht _ _).trans hcls1,?_,hde,.inr (x3 T _ _ {by simp[hv],hb T hT',hH T hT',hTe,c_ _ e2<|pd<|ip hdT _,ip hdT _,by simp[hs3]})}};rw[oth b (ltT b o eb)];rcases hk1 b o eb with z|z
  exact k1 b o z (λz'=>hbc<|z' ▸ hech) hbf;exact absurd z hbc;rw[oth b (ltT b o eb)];rcases hk1 b o eb with z|z
  exact k2 b o z<|λz'=>hbc<|z' ▸ hech;exact absurd z hbc;obtain⟨c1,c2,c3,c4⟩:=oe1;subst hd1;exact hdict1
 unfold Pf;simp only[hf];rcases htb with h1|⟨T0,oT0,ts0,h1,nbT,frT,neT,eT,dT,h3⟩
 have hv:=(ja.mp h1).1;refine δ<|jr he hd h1 ?_;exact mG OP hl hf he hd hv λh' T oT ts k1 k2 e1 hT e2 hdT h3=>(CU s [e] h' T oT ts oe (λb o eb=>.inl eb) rfl (by simp) (λb hb'=>by rw[ρ]at hb';subst hb';exact{nb,fr,x2 oe vs ⟨he,hd⟩}) WJ WH hd hv k1 k2 e1 hT e2 hdT h3)
 have hv:=(ja.mp h1).1;refine δ<|jr he hd h1 ?_;refine δ<|jr eT dT h3 ?_;refine δ<|mo eT dT (ja.mp h3).1 ?_
 have oth:∀ b,b≠T0->(s.heap.update T0 (wk (·.setIfInBounds 3 ix))).get? b=s.heap.get? b:=λb hb'=>ck _ _<|fj hb';refine mG OP (hl.of_keeps λb o eb hn=>{o,(oth b ((λb o eb hn z=>by rw[z,eT]at eb;obtain rfl:=ι eb;exact hn _ dT) b o eb hn)).trans eb,rfl}) hf ((oth e<|fj neT).trans he) hd hv λh' T oT ts k1 k2 e1 hT e2 hdT h3'=>?_;exact CU _ [e,T0] h' T oT ts oe
  (λb o eb=>by
   by_cases z:b=T0;exact .inr (by simp[z]);exact .inl<|(oth b z).trans eb)
  (Heap.size_after_update ..) (by simp)
  (λb hb'=>by
   rcases ax.mp hb' with z|z
   subst z;exact{nb,fr,x2 oe vs ⟨he,hd⟩}
   ·rw[ρ]at z;subst z;exact{nbT,frT,x2 oT0 ts0 ⟨eT,dT⟩})
  WJ WH hd hv k1 k2 e1 hT e2 hdT h3'
end
def Cx.bad(X:Cx)(AA:tN):Addr->Prop:=λa=>X.s₀.heap.get? a≠none\/∃ p∈X.pn++AA,p.1=a
structure XOk(X:Cx)(E:St->XK):Prop where
 po:Oy (model X.prog X.w) X.A X.env X.xe
 ex:X.ex=[]
 calm:X.calm=true
 go:∀ (AA:tN) (σ:St) (H:Hp) (s:π) (e:Addr) (cls:Value),Inv X AA σ H s->Fly (X.bad AA) H s.heap e cls->E σ cls none H->X.xe (.ref e) s
section
variable{X:Cx}{AA:tN}{σ:St}{H:Hp}{s:π}
def Inv.notbad(I:Inv X AA σ H s)(hx:X.ex=[])(h:s.heap.get? a=none):¬ X.bad AA a:=λz=>by
 rcases z with z|⟨p,hp,rfl⟩
 cases q:X.s₀.heap.get? a with
 |none=>exact z q
 |some o =>
  obtain⟨o',e⟩:=I.base.there a o q (by rw[hx];simp);rw[h]at e;cases e
 have:=(I.pin p hp).1;rw[h]at this;cases this
def mI{h:Heap}(z:h.objs.size<=a):h.get? a=none:=by
 cases q:h.get? a with
 |none=>rfl
 |some o=>exact absurd (aa (av q) z) (kd _)
def Inv.noted{e:Addr}{cls:Value}{h':Heap}(I:Inv X AA σ H s)(N:XJ (D5 X.stack) (X.bad AA) H e cls s.heap h'):Inv X AA σ H { s with heap:=h' }:=by
 obtain⟨⟨ch,DO,k1,k2⟩,y⟩:=N;obtain⟨mL,⟨oL,esL,epL,hoL,dL,rL⟩,y⟩:=id I.loc
 have chne:∀ b∈ch,∀ o,s.heap.get? b=some o->∃ vs,o.data=.fields vs:=λb hb o eb=>by
  obtain⟨y,y,o',vs,e',d⟩:=DO b hb;rw[eb]at e';obtain rfl:=ι e';exact⟨vs,d⟩
 have hL:X.env.locals∉ch:=λz=>by
  obtain⟨vs,d⟩:=chne _ z _ hoL;rw[dL]at d;cases d
 refine I.stepN     (λb hb=>{.inr ?_,λz=>hL<|z ▸ hb,λx c ec z=>?_,λp hp z=>(DO b hb).1 (.inr ⟨p,hp,z⟩)})
  (λb o hbL hbf hbc eb y=>k1 b o eb hbc λz=>(ax.mp<|I.stkSub b z).elim hbL hbf) (λb o y y hbc eb y=>k2 b o eb hbc) (λy y y y n=>n) (λb o hbc eb=>?_) (λy y q=>q) (λy y y q=>q) (λb ps q=>{#[],by rw[q];simp}) (λm hm=>?_) (λb o eb=>?_) I.bare
 cases q:X.s₀.heap.get? b with
 |none=>rfl
 |some o=>exact absurd (.inl (by rw[q];simp)) (DO b hb).1
 obtain⟨v,oc,hoc,hd⟩:=I.cell x c ec;obtain⟨vs,d⟩:=chne c (z ▸ hb) oc hoc;rw[hd]at d;cases d;obtain⟨sl,q⟩:=k2 b o eb hbc;exact⟨_,q⟩;revert hm;apply u3;rintro o' es' ep' ⟨ho',r'⟩;rw[hoL]at ho';obtain rfl:=ι ho';obtain⟨sl,q⟩:=k2 _ _ hoL hL;exact x3 _ _ _ ⟨q,r'⟩;refine(I.hok b o eb).stay (λc u hc q=>k1 c u q ?_ ?_) (λy q=>q) λy y q=>q;intro z
 have fr:=(DO c z).2.1;rcases hc with rfl|hc
 rw[eb]at fr;cases fr;rw[hc]at fr;cases fr;intro z
 have fr:=I.stkFree c z;rcases hc with rfl|hc
 rw[eb]at fr;cases fr;rw[hc]at fr;cases fr
def D6(P:bv)(w:World):HW:=λouter H s E e s'=>∃ (ea:Addr) (cls:Value) (H':Hp),e=.ref ea/\s'.os=s.os/\uw s'.gens/\Un (D5 outer) [] H H' s.heap s'.heap/\HOk P w H' s'.heap/\Fly (λa=>s.heap.get? a≠none) H' s'.heap ea cls/\E cls none H'
def mJ(h:D6 P w outer H s (λ_ _ _=>False) e s'):False:=by
 revert h;apply u3;rintro z z z ⟨z,z,z,z,z,z,f⟩;exact f
def XOk.passes(x:XOk X E):G7 (D6 X.prog X.w) X E:=λAA σ H s e s' I h=>by
 revert h;apply u3;rintro ea cls H' ⟨rfl,os,bare,un,hok,F,q⟩;refine x.go _ σ H' s' ea _ (I.call'  os un hok bare λb z=>absurd z (by simp)) (F.mono λa z=>?_) q;rcases z with z|⟨p,hp,rfl⟩
 cases q0:X.s₀.heap.get? a with
 |none=>exact absurd q0 z
 |some o =>
  obtain⟨o',e⟩:=I.base.there a o q0 (by rw[x.ex];simp);rw[e];simp
 rw[(I.pin p hp).1];simp
def mK:G7 (D6 P w) X (λ_=>E0):=λz z z z z z z h=>(mJ h).elim
end
def Tv{P:bv}{w:World}{K:μ}{mg:tP}{base:Heap}{N:Xu}{qual:Str}{scope:Scope}{f:Addr}{cd:Value}{A:dk}{outer:Yu}{s:π}{H:Hp}{E:XK} :
  XOk (IY (D6 P w) P w K mg base N qual scope f cd A outer s H E) (λ_=>E) where
 po:=PassesOwn.leaving
 ex:=rfl
 calm:=rfl
 go:=λAA σ H' s' e cls I F q=>by
  refine δ<|mH I.ok.frames I.stack rfl F (λa z=>I.notbad rfl<|mI z) (λa z=>I.hok.fresh z) λh' N=>?_
  have I':=I.noted N;exact x3 e _ H' {rfl,I'.os,I'.bare,I'.base,I'.hok,N.fly.mono λa z=>.inl z,q}
structure Exc(K:μ)(C:Addr):Prop where
 ex:W.excIn K C [.type "ValueError",.type "Exception",.type "BaseException",.type "object"] "ValueError.__new__"=true
set_option tactic.hygienic true in
def Exc.obj{K:μ}{h:Heap}(x:Exc K C)(X:K.In h):∃ (tl:Su) (N:Addr) (nm q:Str) (bs:Su) (hdct:Bool) (sn:Xu) (sub:Su) (ab:Bool) (col:Option Bool) (dd:Option Addr) (k0 k1 k2 k3 k5:Option Value) (mN:tP),
  h.get? C=some (excClassObj nm q C N bs tl hdct sn sub ab col dd k0 k1 k2 k3 k5 "ValueError.__new__")/\h.Ns N mN/\mN "__init__"=none/\OwnTail h [.type "ValueError",.type "Exception",.type "BaseException",.type "object"] tl:=by
 have q:=x.ex;unfold W.excIn at q;split at q
 ·rename_i dd cd sl ho;split at q
  ·rename_i C' bm k0 k1 k2 k3 n k5 hm hs;simp only[cb,beq_iff_eq,vd]at q;obtain⟨⟨⟨⟨⟨rfl,rfl⟩,hdel⟩,ht⟩,hok⟩,hni⟩:=q;obtain⟨nm,bs,mro,ns,qn,hd,sn,sub,ab,col,del⟩:=cd;subst hm hdel;obtain⟨l⟩:=sl;subst hs;exact OS bm ns nm qn bs hd sn sub ab col dd k0 k1 k2 {k3,k5,_,X _ _ ho,.of_isNs<|W.isNs_of_in X hok,W.nsMap_none_of_in X hok hni,W.tail_of_in X ht}
  ·cases q
 ·cases q
def GD(C:Addr)(E:St->XK)(t:TA):TS:=λ_ σ H=>t σ H λvs H1=>vs.length<=sizeLine/\E σ (.ref C) none H1
section
variable{X:Cx}{E:St->XK}{C:Addr}{x:Str}{np DC pos:Pos}{e:Expr}{es:Vu}{t:TA}
def MG(hx:XOk X E)(c:Exc X.K C)(hg:Gl X x)(hm:X.mg x=some (.ref C))(ha:PA X (e::es) t)(hdb:(x ==("__debug__":Str))=false:=by decide)
  (he:a_ (e::es) X.env=(false,eval e X.env)::a_ es X.env:=by rfl) (CB:(jp DC<|a_ es X.env).any (·.1)=false:=by rfl) :
  PS X (.Raise (some<|.Call (.Name x np) (e::es) [] DC) none pos) (GD C E t):=by
 refine λAA s σ H D I h=>OU ?_<|c.obj I.mod.kin;rintro tl N nm q bs hdct sn sub ab col dd k0 k1 k2 ⟨k3,k5,mN,hC,hN,hni,T⟩
 have hpl2:(jp DC<|a_ (e::es) X.env).any (·.1)=false:=by
  rw[he]
  show(false||(jp _ _).any _)=false;rw[CB];rfl
 have hq:=ha DC _ s σ H _ I h;refine wpAny_Raise_call_subT  (nm:=nm) (q:=q) (N:=N) (bs:=bs)  (hdct:=hdct) (sn:=sn) (sub:=sub) (ab:=ab) (col:=col) (dd:=dd) (k0:=k0) (k1:=k1) (k2:=k2) (k3:=k3) (k5:=k5)
  PySem.F.excBase_ValueError  (T.hasType PySem.F.excBase_ValueError.hasBase) (I.ok.hd hx.calm) hpl2 hni (OW I hg hm {rfl,?_} hdb)
 rw[he]at hq ⊢;refine lg<|AO hq λus s1 ⟨vs,H1,I1,r,hz,q1⟩=>{rfl,?_,I1.bk _ _ hC,hN.keeps I1.bk,T.keeps I1.bk,λh' ea hM=>?_};rw[<-r.length];exact hz
 have I2:Inv X _ σ H1 { s1 with heap:=h' }:=I1.kept  hM.keeps;obtain⟨tt,h1,h2,h3⟩:=hM.there;refine hx.go _ σ H1 _ ea _ I2 {λz=>I1.notbad hx.ex hM.new z,I1.hok.nh hM.new,y2 {h1,rfl,rfl,rfl,.inl rfl}} q1
end
section
variable(P:bv)(w:World)(K:μ)(mg:tP)(base:Heap)
structure SR(k:Nat)(x:Str)(ps:Xu)(sp:Sp):Prop where
 ex:∃ (f:Addr) (fd:h_),FnOk P w K mg base (D6 P w) k f fd ps sp/\mg x=some (.ref f)/\s_ K (.ref f)=true/\Binds K fd ps []
structure NN(C:Addr)(k:Nat)(m:Str)(ps:Xu)(sp:Sp):Prop where
 ex:∃ (f:Addr) (fd:h_),FnOk P w K mg base (D6 P w) k f fd ps sp/\SI K C m f/\Binds K fd ps []
structure XL(C:Addr)(k:Nat)(x:Str)(ps:Xu)(sp:Sp):Prop where
 ex:∃ (f:Addr) (fd:h_),FnOk P w K mg base (D6 P w) k f fd ps sp/\Mk K C f/\mg x=some (.ref C)/\Binds K fd ps []
end
section
variable{X:Cx}{E:St->XK}{k:Nat}{x m:Str}{ps:Xu}{sp:Sp}{C:Addr}{p pos CP:Pos}{e o:Expr}{es:Vu}{ta:TE}{t:TA}
def mM(c:SR X.prog X.w X.K X.mg X.base k x ps sp)(hr:Room k X.A)(hp:G7 (D6 X.prog X.w) X E)(hg:Gl X x)(ha:PA X (e::es) t)(hdb:(x ==("__debug__":Str))=false:=by decide)
  (he:a_ (e::es) X.env=(false,eval e X.env)::a_ es X.env:=by rfl) (CB:(jp pos<|a_ es X.env).any (·.1)=false:=by rfl):PE X (.Call (.Name x p) (e::es) [] pos) (MB sp [] E t):=by
 refine u2 ?_ c.ex;rintro f fd ⟨F,hm,hk,hb⟩;exact Pb F hr hg hm hk hb .nil hp ha hdb he CB
def XM(he:PE X o ta)(cl:Cls X.K C)(c:NN X.prog X.w X.K X.mg X.base C k m ps sp)(hr:Room k X.A)(hp:G7 (D6 X.prog X.w) X E)(ha:PA X (e::es) t)
  (hst:a_ (e::es) X.env=(false,eval e X.env)::a_ es X.env:=by rfl) (CB:(jp pos<|a_ es X.env).any (·.1)=false:=by rfl)
  (ht:eval (.Call (.Attribute o m CP) (e::es) [] pos) X.env=(do
   let ov ← eval o X.env
   zu CP.atName
   let (f,first) ← ux [ov] (vx ov m pl)
   B_ pos f first (jp pos<|a_ (e::es) X.env) (wm pos<|mx [] X.env)):=by rfl):PE X (.Call (.Attribute o m CP) (e::es) [] pos) (IX C m sp [] E ta t):=by
 refine u2 ?_ c.ex;rintro f fd ⟨F,hm,hb⟩;exact Pc he cl hm F hr hb .nil hp ha hst CB ht
def Tw(he:PE X o ta)(cl:Cls X.K C)(c:NN X.prog X.w X.K X.mg X.base C k m ps sp)(hr:Room k X.A)(hp:G7 (D6 X.prog X.w) X E)
  (ht:eval (.Call (.Attribute o m CP) [] [] pos) X.env=(do
   let ov ← eval o X.env
   zu CP.atName
   let (f,first) ← ux [ov] (vx ov m pl)
   B_ pos f first (jp pos<|a_ [] X.env) (wm pos<|mx [] X.env)):=by rfl):PE X (.Call (.Attribute o m CP) [] [] pos) (IX C m sp [] E ta BL):=by
 refine u2 ?_ c.ex;rintro f fd ⟨F,hm,hb⟩;exact Pd he cl hm F hr hb .nil hp ht
def Tx(c:XL X.prog X.w X.K X.mg X.base C k x ps sp)(hr:Room (k+1) X.A)(hp:G7 (D6 X.prog X.w) X E)(hg:Gl X x)(ha:PA X (e::es) t)(hdb:(x ==("__debug__":Str))=false:=by decide)
  (he:a_ (e::es) X.env=(false,eval e X.env)::a_ es X.env:=by rfl) (CB:(jp pos<|a_ es X.env).any (·.1)=false:=by rfl):PE X (.Call (.Name x p) (e::es) [] pos) (NL C sp [] E t):=by
 refine u2 ?_ c.ex;rintro f fd ⟨F,M,hm,hb⟩;exact Ph M F hr hg hm hb .nil hp ha hdb he CB
end
def Fun.okE{P:bv}{w:World}{K:μ}{mg:tP}{base:Heap}{x qual:Str}{st:Stmt}{f:Addr}{fd:h_}{N ps:Xu}{k:Nat}{sp:Sp}(F:Fun K x qual st f fd)(S:FnScope N ps (AU st))(len:∀ vs H Q E,sp vs H Q E->vs.length=ps.length)
  (kC:∀ (CA:Value) (A:dk) (outer:Yu) (s:π) (H:Hp) (vs:Tr) (Q:VK) (E:XK),Room k (A.deeper<|zb qual (AU st) s.heap.objs.size f CA)->sp vs H Q E ->
   ∃ t,FC (IY (D6 P w) P w K mg base N qual (AU st) f CA A outer s H E) (HB st) t/\t { nx:=λz H'=>Q .non H',rt:=Q } (AZ N vs) H):FnOk P w K mg base (D6 P w) (k+1) f fd ps sp:=by
 refine u9 ?_ F.ex;rintro oc od kV doc pm an CA ct osl ⟨rfl,l,c⟩;exact Pk l c S len λA outer s H vs Q E hr h=>kC _ A _ s H vs Q E hr h
def GV(mg:tP)(x:Str)(v:V):Prop:=∃ u,mg x=some u/\RelV v u
def XN(g:GV X.mg x v)(hg:Gl X x)(hd:(x ==("__debug__":Str))=false:=by decide):PE X (.Name x pos) (tC v):=by
 obtain⟨u,hm,r⟩:=g;exact Jc hg hm r hd
abbrev Cx.tri(X:Cx)(pn:tN)(xe:tV):Cx:={ X with pn:=pn,xe:=xe }
abbrev Cx.hand(X:Cx)(e:Addr):Cx:={ X with A:=X.A.mark<|some<|.ref e,calm:=false,xe:=λ_ _=>False }
section
variable{X:Cx}{AA:tN}{σ:St}{H:Hp}{s:π}
def Cx.Ok.tri{pn:tN}{xe:tV}(ok:X.Ok):(X.tri pn xe).Ok :=
 ⟨ok.mod,ok.kind,ok.glob,ok.blt,ok.above,ok.inj,ok.has,ok.cab,ok.hd,ok.frames,ok.stk,ok.exf,ok.bs,ok.bsz,ok.noex,ok.exfs,ok.funs,ok.frf⟩
def Inv.tri(I:Inv X AA σ H s):Inv (X.tri (X.pn++AA) xe) [] σ H s :=
 {I.ok.tri,I.os,I.bare,I.base,I.loc,I.cell,I.free,I.freeC,λp hp=>I.pin p (by simpa using hp),I.hok,I.len}
def Cx.Ok.untri{pn:tN}{xe:tV}(ok:(X.tri pn xe).Ok):X.Ok :=
 ⟨ok.mod,ok.kind,ok.glob,ok.blt,ok.above,ok.inj,ok.has,ok.cab,ok.hd,ok.frames,ok.stk,ok.exf,ok.bs,ok.bsz,ok.noex,ok.exfs,ok.funs,ok.frf⟩
def Inv.untri(I:Inv (X.tri (X.pn++AA) xe) pl σ H s):Inv X AA σ H s :=
 {I.ok.untri,I.os,I.bare,I.base,I.loc,I.cell,I.free,I.freeC,λp hp=>I.pin p<|cf _ hp,I.hok,I.len}
def Cx.Ok.hand(ok:X.Ok):(X.hand e).Ok :=
 {ok.mod,ok.kind,ok.glob,ok.blt,ok.above,ok.inj,ok.has,ok.cab,(λz=>nomatch z),ok.frames,ok.stk,ok.exf,ok.bs,ok.bsz,ok.noex,ok.exfs,ok.funs,ok.frf}
def Inv.hand(I:Inv X AA σ H s):Inv (X.hand e) AA σ H s:=⟨I.ok.hand,I.os,I.bare,I.base,I.loc,I.cell,I.free,I.freeC,I.pin,I.hok,I.len⟩
def Inv.unhand(ok:X.Ok)(I:Inv (X.hand e) AA σ H s):Inv X AA σ H s:=⟨ok,I.os,I.bare,I.base,I.loc,I.cell,I.free,I.freeC,I.pin,I.hok,I.len⟩
end
abbrev TH:=Value->Ends->St->Hp->Prop
def XO:TH:=λ_ _ _ _=>False
def J6(p:Value->Option Bool)(ts:TS)(CU:TH):TH:=λcls D σ H=>(p cls=some true/\ts D σ H)\/(p cls=some false/\CU cls D σ H)
def Ends.drop(D:Ends)(i:Nat):Ends:={ nx:=λσ H=>D.nx (σ.set i none) H,rt:=D.rt,bk:=λσ H=>D.bk (σ.set i none) H,ct:=λσ H=>D.ct (σ.set i none) H }
def PH(X:Cx)(hs:List ze)(th:TH):Prop :=
 ∀ (AA:tN) (s:π) (σ:St) (H:Hp) (D:Ends) (e:Addr) (cls:Value),X.ex=[]->Inv X AA σ H s->Fly (X.bad AA) H s.heap e cls->th cls D σ H ->
  wpAny (model X.prog X.w) X.A (handleBy (.ref e) X.env hs) (SP X AA D) X.xe s
def PX(X:Cx)(t:Expr)(p:Value->Option Bool):Prop :=
 ∀ (AA:tN) (s:π) (σ:St) (H:Hp) (e:Addr) (cls:Value) (b:Bool) (Q:Bool->π->Prop) (E:tV),Inv X AA σ H s->Fly (X.bad AA) H s.heap e cls->p cls=some b ->
  (∀ s',Inv X AA σ H s'->Fly (X.bad AA) H s'.heap e cls->Q b s')->wpAny (model X.prog X.w) (X.A.mark<|some<|.ref e) (eval t X.env) (λc s1=>wpAny (model X.prog X.w) (X.A.mark<|some<|.ref e) (excMatches (.ref e) c) Q E s1) E s
def XQ(tb:(St->XK)->TS)(th:TH):TS:=λD σ H=>tb (λσ' cls _ H'=>th cls D σ' H') D σ H
section
variable{X:Cx}{hs:List ze}{h₀:ze}{th:TH}{body:List Stmt}{tb:(St->XK)->TS}{pos:Pos}
def Ty:PH X [] XO:=λz z z z z z z z z z h=>h.elim
def Tz(F:Fly bad H h e cls):W.Looks M h (typeOf<|.ref e) cls:=by
 obtain⟨z,z,oe,vs,h1,rfl,z⟩:=F;exact(W.Looks.ld h1).andThen .now
def SS(hg:Gl X x)(hm:X.mg x=some C)(hd:(x ==("__debug__":Str))=false:=by decide):PX X (.Name x np) (λcls=>fk X.K cls C):=λAA s σ H e cls b Q E I F hp h=>OW  I.hand hg hm (W.exm_one I.kIn (Tz F) hp _ _ _ s (λy y z=>z) (h s I F)) hd
def Ub(F:Fly bad H s.heap e cls)
  (h:∀ h',XJ fr bad H e cls s.heap h'->Q () { s with heap:=h' }):wpAny M A (Kf (.ref e) none) Q E s:=by
 have F0:=F;obtain⟨nb,frr,oe,vs,he,WJ,WH,hd,htb⟩:=F;rcases htb with h1|⟨T,oT,ts,h1,nbT,frT,neT,eT,dT,h3⟩
 exact δ (jr he hd h1 (ν (h _ {{[],(λb hb=>nomatch hb),λb o eb _ _=>eb,λb o eb _=>⟨_,eb⟩},F0})));refine δ<|jr he hd h1 ?_
 have hs3:=(ja.mp h3).1
 have oth:∀ b,b≠T->(s.heap.update T (wk (·.setIfInBounds 3 (none.elim ix λf=>mn f)))).get? b=s.heap.get? b:=λb hb'=>ck _ _<|fj hb';refine mo eT dT hs3 (h _ ({{[T],λb hb=>?_,λb o eb hb _=>(oth b λz=>hb (by simp[z])).trans eb,λb o eb hb=>{_,(oth b λz=>hb (by simp[z])).trans eb}},nb,frr,x2 oe vs {(oth e<|fj neT).trans he,WJ,WH,hd,.inr (x3 T _ _ {h1,nbT,frT,neT,c_ _ eT<|pd<|ip dT _,ip dT _,by simp[hs3]})}}));rw[ρ]at hb;subst hb;exact{nbT,frT,x2 oT ts ⟨eT,dT⟩}
def SP.unhand(ok:X.Ok)(h:SP (X.hand e) AA D f s):SP X AA D f s:=by
 cases f with
 |next=>revert h;apply u2;rintro σ1 H1 ⟨I1,q⟩;exact x2 _ H1 {I1.unhand ok,q}
 |brk=>revert h;apply u2;rintro σ1 H1 ⟨I1,q⟩;exact x2 _ H1 {I1.unhand ok,q}
 |cont=>revert h;apply u2;rintro σ1 H1 ⟨I1,q⟩;exact x2 _ H1 {I1.unhand ok,q}
 |ret u=>revert h;apply u3;rintro v σ1 H1 ⟨I1,r,q⟩;exact x3 v _ H1 {I1.unhand ok,r,q}
def Uc{t:Expr}{b₀:Stmt}{suite:List Stmt}{hp:Pos}{p:Value->Option Bool}{ts:TS}{CU:List ze}{tr:TH}(ht:PX X t p)(hsu:∀ e,FC (X.hand e) (b₀::suite) ts)(hr:PH X CU tr) :
  PH X (.ExceptHandler (some t) none (b₀::suite) hp::CU) (J6 p ts tr):=by
 intro AA s σ H D e cls hx I F h
 have hmain:∃ b,p cls=some b/\(b=true->ts D σ H)/\(b=false->tr cls D σ H):=by
  rcases h with⟨h1,h2⟩|⟨h1,h2⟩
  exact{_,h1,λ_=>h2,λz=>nomatch z};exact{_,h1,(λz=>nomatch z),λ_=>h2}
 obtain⟨b,hp',hT,hF⟩:=hmain;refine wpAny_handleBy_cons (codeAny_handlers_test<|ht _ s σ H e _ b _ _ I F hp' λs' I' F'=>?_) (by intro z;cases z);cases b with
 |false=>exact hr _ s' σ H D e _ hx I' F'<|hF rfl
 |true =>
  refine codeAny_handlers_suite<|Ub (fr:=D5 X.stack) F' λh' N=>?_
  have I2:Inv (X.hand e) _ σ H _:=(I'.noted N).hand;refine p_ (hsu e _ _ σ H D I2<|hT rfl) (λf s2 h2=>h2.unhand I.ok) λ_ _ z=>z.elim
def Ud(hx:X.ex=[])(hcalm:X.calm=true)(hst:X.stack=X.env::X.outer)(OP:X.env.frame=some X.env.locals)(hb:∀ (E:St->XK) (pn:tN) (xe:tV),XOk (X.tri pn xe) E->FC (X.tri pn xe) body (tb E))(hh:PH X (h₀::hs) th) :
  PS X (.Try body (h₀::hs) [] [] pos) (XQ tb th):=by
 refine λAA s σ H D I h=>wpAny_Try_except ?_
 let xe:Value->π->Prop:=λe s₁=>wpAny (model X.prog X.w) X.A (Pf e X.env) (λy s₂=>wpAny (model X.prog X.w) X.A (Kf e none) (λy s₃=>wpAny (model X.prog X.w) X.A (handleBy e X.env (h₀::hs)) (SP X AA D) X.xe s₃) X.xe s₂) X.xe s₁
 have xok:XOk (X.tri (X.pn++AA) xe) (λσ' cls y H'=>th cls D σ' H'):=by
  refine{PassesOwn.looking,hx,hcalm,λpl σ' H' s' e cls I' F' q=>?_}
  have Iu:=I'.untri;refine mH (hst ▸ Iu.ok.frames) (hst ▸ Iu.stack) OP F' (λa z=>I'.notbad hx<|mI z) (λa z=>I'.hok.fresh z) λh' N=>?_;rw[<-hst]at N
  have I2:Inv _ pl _ H' _:=I'.noted N;exact hh _ _ _ H' D e _ hx I2.untri (N.fly.mono λa z=>by
   rcases z with z|⟨p,hp,z⟩
   exact .inl z;exact .inr {p,cf _ hp,z}) q
 refine p_ (hb _ _ xe xok [] s σ H D I.tri h) (λf s1 hs1=>?_) λy y z=>z;cases f with
 |next =>
  revert hs1;apply u2;rintro σ1 H1 ⟨I1,q⟩;exact t9<|x2 _ H1 ⟨I1.untri,q⟩
 |brk=>revert hs1;apply u2;rintro σ1 H1 ⟨I1,q⟩;exact x2 _ H1 ⟨I1.untri,q⟩
 |cont=>revert hs1;apply u2;rintro σ1 H1 ⟨I1,q⟩;exact x2 _ H1 ⟨I1.untri,q⟩
 |ret u=>revert hs1;apply u3;rintro v σ1 H1 ⟨I1,r,q⟩;exact x3 v _ H1 ⟨I1.untri,r,q⟩
end
mutual
inductive Rep(K:μ)(H:Hp):V->vz->Prop
 |non:Rep K H .non .none
 |bl (b:Bool):Rep K H (.bl b) (.bool b)
 |int (i:Int):Rep K H (.int i) (.int i)
 |str (x:Str):Rep K H (.str x) (.str x)
 |lst {a:Addr} {xs:Tr} {ds:List vz}:SqL K H a xs->RepAll K H xs ds->Rep K H (.ref a) (.list ds)
 |tup {a:Addr} {xs:Tr} {ds:List vz}:SqT K H a xs->RepAll K H xs ds->Rep K H (.ref a) (.tuple ds)
inductive RepAll(K:μ)(H:Hp):Tr->List vz->Prop
 |nil:RepAll K H [] []
 |cons {v:V} {d:vz} {vs:Tr} {ds:List vz}:Rep K H v d->RepAll K H vs ds->RepAll K H (v::vs) (d::ds)
end
section
variable{X:Cx}{AA:tN}{σ:St}{H:Hp}{s:π}
mutual
def Rep.reads(I:Inv X AA σ H s):∀ {v:V} {d:vz} {u:Value},Rep X.K H v d->RelV v u->∃ as,Reads s.heap u d as
 |_,_,_,.non,r=>by cases (show _=ix from r);exact{_,.none}
 |_,_,_,.bl b,r=>by cases (show _=Nn b from r);exact{_,.bool b}
 |_,_,_,.int i,r=>by obtain⟨t,e⟩:=(show ∃ t,_=vq i t from r);cases e;exact{_,.int i t}
 |_,_,_,.str x,r=>by obtain⟨t,e⟩:=(show ∃ t,_=Ow x t from r);cases e;exact{_,.str x t}
 |_,_,_,.lst (a:=a) h hr,r=>by
  cases (show _=gk a from r);obtain⟨AJ,rv,p,z⟩:=I.list h;obtain⟨as,q⟩:=RepAll.reads I hr rv;obtain⟨o,e1,e2,n,e3⟩:=p.isList;exact{_,.list e1 e2 e3 q}
 |_,_,_,.tup (a:=a) h hr,r=>by
  cases (show _=gk a from r);obtain⟨AJ,rv,p,z⟩:=I.tuple h;obtain⟨as,q⟩:=RepAll.reads I hr rv;obtain⟨o,e1,e2,n,e3⟩:=p;exact{_,.tuple e1 e2 e3 q}
def RepAll.reads(I:Inv X AA σ H s):∀ {vs:Tr} {ds:List vz} {us:Su},RepAll X.K H vs ds->Vals vs us->∃ as,ReadsAll s.heap us ds as
 |_,_,_,.nil,.nil=>{_,.nil}
 |_,_,_,.cons h hr,.cons r rr=>by
  obtain⟨as,q⟩:=Rep.reads I h r;obtain⟨bs,q2⟩:=RepAll.reads I hr rr;exact{_,.cons q q2}
end
end
abbrev shp(d:vz):Prop:=PySem.SeqAt.shaped d=true
def rD(K:μ)(x y:V)(H:Hp)(R:tX):Prop:=∃ d e,Rep K H x d/\Rep K H y e/\shp d/\shp e/\R (iq d e) H
def K8(K:μ):R2:=λx y H Q=>rD K x y H λb=>Q<|.bl b
def K9(K:μ):R2:=λx y H Q=>rD K x y H λb=>Q<|.bl<|!b
section
variable{X:Cx}
def Ug(hu:X.A.units+64<cLine):BT X (dt .Eq) (K8 X.K):=by
 intro AA s σ H x y v u Q I rx ry;apply u2;rintro d e ⟨rd,re,sd,se,q⟩;obtain⟨as,ra⟩:=rd.reads I rx;obtain⟨bs,rb⟩:=re.reads I ry;exact eq_dataH ra rb sd se hu<|x2 (.bl _) H ⟨I,rfl,q⟩
def Uh(hu:X.A.units+64<cLine):BT X (dt .NotEq) (K9 X.K):=by
 intro AA s σ H x y v u Q I rx ry;apply u2;rintro d e ⟨rd,re,sd,se,q⟩;obtain⟨as,ra⟩:=rd.reads I rx;obtain⟨bs,rb⟩:=re.reads I ry;exact ne_dataH ra rb sd se hu<|x2 (.bl _) H ⟨I,rfl,q⟩
def XR(K:μ):R2:=λx y H Q=>∃ a b ys,x=.ref a/\y=.ref b/\SqT K H a []/\SqT K H b ys/\Q (.ref b) H
def Uj:BT X (jh .Add) (XR X.K):=by
 intro AA s σ H x y v u Q I rx ry h;revert h;apply u3;rintro a b ys ⟨rfl,rfl,ha,hb,q⟩;subst rx;obtain⟨AJ,r1,⟨⟨c1,c2,c3,c4⟩,e1,e2,n1,e3⟩,z⟩:=I.tuple ha;subst ry;obtain rfl:c1=_:=e2;obtain rfl:c3=_:=e3;obtain⟨L6,r2,⟨⟨d1,d2,d3,d4⟩,f1,f2,n2,f3⟩,z⟩:=I.tuple hb;obtain rfl:d1=_:=f2;cases r1;obtain rfl:d3=_:=f3;exact He ⟨_,e1,rfl⟩ ⟨_,f1,rfl⟩ zm Es PySem.F.slot_tuple_add PySem.F.entry_tuple_add (PySem.F.args_tuple_add_2 _ _) (tuple_addW0 a b _ _ n1 n2 c2 d2 c4 d4 rfl) {e1,f1,x2 (.ref b) H ⟨I,rfl,q⟩}
def BH(K:μ):R2:=λx y H Q=>match x,y with
 |.int i,.int j=>Q (.int<|i+j) H
 |.str i,.str j=>i.length+j.length<=sizeLine/\Q (.str<|i++j) H
 |.ref _,.ref _=>W3 x y H Q\/WY K x y H Q\/XR K x y H Q
 |_,_=>False
def Uk:BT X (jh .Add) (BH X.K):=by
 intro AA s σ H x y v u Q I rx ry h;cases x<;>cases y<;>simp only[BH]at h;exact Lm _ s σ H _ _ v u Q I rx ry<|y2 ⟨rfl,rfl,h⟩;exact Mw _ s σ H _ _ v u Q I rx ry<|y2 ⟨rfl,rfl,h⟩;rcases h with h|h
 exact Rh _ s σ H _ _ v u Q I rx ry h;rcases h with h|h
 exact Qb _ s σ H _ _ v u Q I rx ry h;exact Uj _ s σ H _ _ v u Q I rx ry h
def D9:R2:=λx y H Q=>match x,y with
 |.int i,.int j=>Q (.bl<|decide<|i<j) H
 |.str i,.str j=>Q (.bl<|decide<|i.cps.toList<j.cps.toList) H
 |_,_=>False
def EO:R2:=λx y H Q=>match x,y with
 |.int i,.int j=>Q (.bl<|decide<|i<=j) H
 |.str i,.str j=>Q (.bl<|!decide (j.cps.toList<i.cps.toList)) H
 |_,_=>False
end
def Ul:fillsNumberSlot (.type "tuple") "mul"=pure false :=
 PySem.fillsNumberSlot_seq   v_.lookup (by decide) Hu.lookup (by decide)
def Um:seqRepeat? (.type "tuple")=pure (some<|.builtin "tuple.__mul__"):=by
 unfold seqRepeat?;rw[PySem.seqSlot_of  (name:="__mul__")  v_.lookup (by decide),PySem.seqSlot_of  (name:="__rmul__")  Hu.lookup (by decide)]
 rfl
def Up(a:Int)(t:Tok)(l:Addr)(items:Array Value)(dd:Option Addr)(n:Nat)(sl:Array (Option Value)) :
  Meets (xf.«int.__rmul__» {[.int a t,.ref l],[]}) (λ_ R s=>s.heap.get? l=some {.type "tuple",dd,.seq items n,sl}/\R (.ok<|.ret Value.notImplemented) s) :=
 .of_wp λprog w A R s h=>by obtain⟨hl,h⟩:=h;wp_walk;exact⟨_,rfl,h⟩
def Uq(l:Addr)(items:Array Value)(dd:Option Addr)(n:Nat)(sl:Array (Option Value))(x:Int)(u:Tok)(h1:1<x)(h2:x<2 ^ 63)(hne:items.isEmpty=false)(hz:items.size * x.toNat<=sizeLine) :
  Meets (xf.«tuple.__mul__» {[.ref l,.int x u],[]}) (λ_ R s=>s.heap.get? l=some {.type "tuple",dd,.seq items n,sl} ∧
   R (.ok<|.ret<|gk s.heap.objs.size) { s with heap:=s.heap.push { cls:=jt "tuple",data:=Data.seq (Ft (λx1 x2=>x1++x2) #[] (bg x.toNat items)) } }) :=
 .of_wp λprog w A R s h=>by
  obtain⟨hl,h⟩:=h
  have hsl:sizeLine<=(2^63-1)/8:=by decide
  have hx:∃ N:Nat,items.size*x=N/\N<=sizeLine:={_,by rw[ud,ic (by lia)],hz}
  obtain⟨N,hx,hN⟩:=hx
  have B9:(Ft (λx1 x2=>x1++x2) #[] (bg x.toNat items)).size<=sizeLine:=by
   have:=SL items.toList x.toNat [];simp only[t_,Array.toArray_toList]at this;rw[this];simp only[ay,List.length_flatten,F5,List.sum_replicate_nat,cz];rw[di];exact hz
  refine ue (by simp;lia) ?_
  wp_walk
  refine ue (by simp only[hne,Ot];simp;lia) (ue (by simp only[hne,oq];simp;omega) (ue (by rw[hx];exact decide_eq_false (by omega)) (ue (by rw[hx];unfold Og;simp;exact hN) ?_)))
  wp_walk
  exact⟨_,rfl,h⟩
def Uv(l:Addr)(items:Array Value)(dd:Option Addr)(n:Nat)(sl:Array (Option Value))(u:Tok) :
  Meets (xf.«tuple.__mul__» {[.ref l,.int 1 u],[]}) (λ_ R s=>s.heap.get? l=some {.type "tuple",dd,.seq items n,sl}/\R (.ok<|.ret<|gk l) s) :=
 .of_wp λprog w A R s h=>by
  obtain⟨hl,h⟩:=h
  wp_walk
  exact⟨_,rfl,h⟩
def XS(K:μ):R2:=λx y H Q=>∃ a k xs,x=.ref a/\y=.int k/\SqT K H a xs/\xs≠[]/\1<=k/\k<2^63/\xs.length*k.toNat<=sizeLine /\
 (k=1->Q (.ref a) H)/\(k≠1->∀ p,H p=none->Q (.ref p) (upd H p<|.tup (bg k.toNat xs).flatten))
section
variable{X:Cx}
def Inv.tnew(I:Inv X AA σ H s)(hv:Vals ys AJ)(hz:ys.length<=sizeLine) :
  Inv X AA σ (upd H s.heap.objs.size<|.tup ys) { s with heap:=s.heap.push { cls:=.type "tuple",data:=.seq AJ.toArray } } :=
 I.laid  (λz z q=>ξ _ q) (υ _) {hz,_,hv,_,aj _ rfl,rfl,0,rfl}
def Uw:BT X (jh .Mult) (XS X.K):=by
 intro AA s σ H x y v u Q I rx ry h;revert h;apply u3;rintro a k xs ⟨rfl,rfl,hx,hne,h1,h2,hz,q1,q2⟩;subst rx;obtain⟨AJ,r,⟨⟨c1,c2,c3,c4⟩,e1,e2,n,e3⟩,z⟩:=I.tuple hx;obtain rfl:c1=_:=e2;obtain rfl:c3=_:=e3;obtain⟨t,rfl⟩:=ry
 have hl:=r.length
 have he:AJ.toArray.isEmpty=false:=by
  cases AJ with
  |nil=>exact absurd (fz.mp hl) hne
  |cons b t=>rfl
 refine yb   (by decide) ⟨_,e1,rfl⟩ (λs'=>z_ s' k t) Ul Mn wu Um Jt.lookup
  (qv wu (z_ s k t) Ju (Hn _ _) (Up k t a _ c2 n c4) {e1,rfl,⟨_,e1,rfl⟩,?_})
 by_cases hk:k=1;subst hk;exact qv v_ ⟨_,e1,rfl⟩ H_ (F_ _ _) (Uv a _ c2 n c4 t) {e1,x2 (.ref a) H {I,rfl,q1 rfl}};refine qv v_ ⟨_,e1,rfl⟩ H_ (F_ _ _) (Uq a _ c2 n c4 k t (by lia) h2 he (by rw[ay,<-hl];exact hz)) {e1,?_};rw[(SL _ _ [])];exact x2 (.ref _) _ {I.tnew (r.rep _) (by rw[lU,di];exact hz),rfl,q2 hk _ I.fresh}
abbrev Ux:kL:=Kp λi j=>i+j
def NO(z:Str)(k:Int):Str:=if k<1 then O_ else if(k==1||z.length==0)=true then z else{(bg k.toNat z.cps).foldl (· ++·) #[]}
def Uy(z:Str)(k:Nat):(Str.mk ((bg k z.cps).foldl (· ++·) #[])).length=k*z.length:=by
 have e:∀ (m:Nat) (BO:Array _),((bg m z.cps).foldl (· ++·) BO).size=BO.size+m*z.cps.size:=λm=>by
  induction m with
  |zero=>simp
  |succ m ih=>intro BO;rw[mf,ju,ih,Ic,va];lia
 simpa [Fs]using (e k #[])
def Uz:R2:=λx y H Q=>∃ z k,x=.str z/\y=.int k/\0<=k/\k<=1000/\z.length<=1000/\Q (.str<|NO z k) H
def Vb:BT X (jh .Mult) Uz:=by
 intro AA s σ H x y v u Q I rx ry h;revert h;apply u2;rintro z k ⟨rfl,rfl,h1,h2,h3,q⟩;obtain⟨t,rfl⟩:=rx;obtain⟨t',rfl⟩:=ry;refine PySem.P.mul_str (by simp;lia) (λa _=>?_) (λa _=>?_) ?_
 have:1000<=(2^63-1)/k:=(Int.le_ediv_iff_mul_le<|Oh.mp ‹_›).mpr (by lia)
 lia
 have h4:z.length*k.toNat<=1000*1000:=ii h3 (by omega)
 have h5:(1000*1000)<=sizeLine:=by decide
 exact decide_eq_false (by lia);unfold NO at q;split;rename_i c;rw[if_pos c]at q;exact{by decide,x2 (.str _) H {I.tok _,⟨_,rfl⟩,q}};rename_i c;rw[if_neg c]at q;split;rename_i d;rw[if_pos d]at q;exact x2 (.str _) H {I,⟨_,rfl⟩,q};rename_i d;rw[if_neg d]at q;exact⟨by rw[Uy];have:=ii (show k.toNat<=1000 by omega) h3;show _<=2^24;exact oA this rfl,x2 (.str _) H {I.tok _,⟨_,rfl⟩,q}⟩
def DP(K:μ):R2:=λx y H Q=>match x,y with
 |.int i,.int j=>CMul i j/\Q (.int<|i*j) H
 |.str z,.int k=>0<=k/\k<=1000/\z.length<=1000/\Q (.str<|NO z k) H
 |.ref _,.int _=>W8 x y H Q\/XS K x y H Q
 |_,_=>False
def Vc:BT X (jh .Mult) (DP X.K):=by
 intro AA s σ H x y v u Q I rx ry h;cases x<;>cases y<;>simp only[DP]at h;exact Lq _ s σ H _ _ v u Q I rx ry<|y2 ⟨rfl,rfl,h⟩;exact Vb _ s σ H _ _ v u Q I rx ry<|y2 ⟨rfl,rfl,h⟩;rcases h with h|h
 exact Rj _ s σ H _ _ v u Q I rx ry h;exact Uw _ s σ H _ _ v u Q I rx ry h
def IB:R2:=λx y H Q=>match x,y with
 |.int i,.int j=>Q (.bl<|decide<|j<i) H
 |_,_=>False
def XT:BT X (dt .Lt) D9:=by
 intro AA s σ H x y v u Q I rx ry h;cases x<;>cases y<;>simp only[D9]at h;exact Mb AA s σ H _ _ v u Q I rx ry<|y2 ⟨rfl,rfl,h⟩
 ·obtain⟨t,rfl⟩:=rx;obtain⟨t',rfl⟩:=ry;exact PySem.P.lt_str<|x2 (.bl _) H ⟨I,rfl,h⟩
def XU:BT X (dt .LtE) EO:=by
 intro AA s σ H x y v u Q I rx ry h;cases x<;>cases y<;>simp only[EO]at h
 ·exact Mc AA s σ H _ _ v u Q I rx ry<|y2 ⟨rfl,rfl,h⟩
 ·obtain⟨t,rfl⟩:=rx;obtain⟨t',rfl⟩:=ry;exact PySem.P.le_str<|x2 (.bl _) H ⟨I,rfl,h⟩
def Vd:BT X (dt .Gt) IB:=by
 intro AA s σ H x y v u Q I rx ry h;cases x<;>cases y<;>simp only[IB]at h;exact Mg AA s σ H _ _ v u Q I rx ry<|y2 ⟨rfl,rfl,h⟩
abbrev mO:R2:=λx y H Q=>y=.non/\Q (.bl<|decide<|x=.non) H
abbrev mP:R2:=λx y H Q=>y=.non/\Q (.bl<|!decide (x=.non)) H
variable{a:Expr}{ta:TE}{tA:TT}{pos:Pos}
abbrev mQ(K:μ)(ta:TE):TT:=λσ H Q=>ta σ H λx H'=>∃ k,KY K x H' k/\Q k H'
def BR(K:μ):R2:=lM K
def mR:IxR X (BR X.K):=Qj
def Vg:V->Option Int->Option Int->Hp->VK->Prop:=λx lo hi H Q=>∃ z,x=.str z/\z.length<=sizeLine/\Q (.str<|Txt.slice z lo hi) H
def mS{v:Value}{lo:Option Int}(p:Ce v lo):∃ l:Option (Int × Tok),v=partValue l/\l.map (·.1)=lo:=by
 cases p with
 |none=>exact⟨none,rfl,rfl⟩
 |int i t=>exact{some (i,t),rfl,rfl}
def Vh:SlR X Vg:=by
 intro AA s σ H x v vl vu lo hi sl Q I rx hs pl pu h;obtain⟨z,rfl,hz,q⟩:=h;obtain⟨t,rfl⟩:=rx;obtain⟨l,rfl,rfl⟩:=mS pl;obtain⟨u,rfl,rfl⟩:=mS pu;exact x2 "str" _ {PySem.F.slot_str_getitem.lookup,Of _ _ _,(wpAny_getItem_str_slice   (st:=none) hs rfl (post_val_or_str {ψ (Txt.slice_le z _ _) hz,λt' k=>x2 (.str _) H {I.tok k,⟨t',rfl⟩,q}}))}
def J7(K:μ):V->Option Int->Option Int->Hp->VK->Prop:=λx lo hi H Q=>match x with
 |.str z=>z.length<=sizeLine/\Q (.str<|Txt.slice z lo hi) H
 |_=>lO K x lo hi H Q\/lE K x lo hi H Q
def Vj:SlR X (J7 X.K):=by
 intro AA s σ H x v vl vu lo hi sl Q I rx hs pl pu h;cases x<;>first
  |exact Vh AA s σ H _ v vl vu lo hi sl Q I rx hs pl pu ⟨_,rfl,h⟩
  |exact(SlR.or Qq Pz) AA s σ H _ v vl vu lo hi sl Q I rx hs pl pu h
abbrev NP:V->V->V->Hp->(Hp->Prop)->Prop:=lN
def mT:WO X NP:=Ql
def P9(K:μ)(tl:TE):TI:=λσ H R=>tl σ H λx H1=>∃ a,x=.ref a/\(((∃ xs,SqL K H1 a xs)/\R (GQ K a) H1)\/((∃ xs,SqT K H1 a xs)/\R (IW K a) H1))
def XV(K:μ):Tr->Hp->VK->Prop:=λxs H Q=>∃ x n,xs=[x]/\O3 K x H n/\Q (.int n) H
def Vk:DT X (.builtin "len") (XV X.K):=Mz
def mU(K:μ):Tr->Hp->VK->Prop:=λxs H Q=>∃ p ys,xs=[.ref p]/\(SqL K H p ys\/SqT K H p ys)/\∀ l,H l=none->Q (.ref l) (upd H l<|.lst ys)
def Vl:DT X (.type "list") (mU X.K):=Qy
def mV(K:μ):Tr->Hp->VK->Prop:=λxs H Q=>∃ p ys,xs=[.ref p]/\((SqL K H p ys/\∀ l,H l=none->Q (.ref l) (upd H l<|.tup ys))\/(SqT K H p ys/\Q (.ref p) H))
def Vm:DT X (.type "tuple") (mV X.K):=Qz
def ST(K:μ):Tr->Hp->VK->Prop:=λxs H Q=>(∃ i,xs=[.int i]/\Q (.int i) H)\/∃ k,xs=[.bl k]/\Q (.int<|if k then 1 else 0) H
end
section
variable{X:Cx}{tg a:Expr}{ta:TE}{pos:Pos}
def Vp(hl:PE X l tl):PI X tg l (P9 X.K tl):=by
 refine λAA s σ H R I h=>AO (hl _ s σ H _ I h) λv s1 hzz=>?_;obtain⟨x,H1,I1,r1,⟨a,e,q1⟩⟩:=hzz;subst e
 have fp1:∀ b∈[s1.heap.objs.size],FpOk X _ H1 b:=λb hb=>by
  have e:b=s1.heap.objs.size:=by simpa using hb
  subst e;exact I1.fpOk (υ _) (I1.hok.fresh<|υ _)
 subst r1;rcases q1 with⟨⟨xs,hq⟩,q⟩|⟨⟨xs,hq⟩,q⟩
 obtain⟨AJ,rv,p,hz⟩:=I1.list hq;exact yq p.isList<|x5 _ _ _ _ H1 {rfl,I1.kept  λb o e=>ξ _ e,Kq a _,{_,aj _ rfl,rfl,rfl},fp1,q};obtain⟨AJ,rv,p,hz⟩:=I1.tuple hq;exact wpAny_pyIter_tuple (p) (x5 _ _ _ _ H1 {rfl,I1.kept  λb o e=>ξ _ e,Kv a _,{_,aj _ rfl,rfl,rfl},fp1,q})
end
def SU(scope outer:Scope)(N cn:Xu)(AY:ad):Bool :=
 scope.kind == .function&&scope.names.all (λy=>y.2 != .cell)&&scope.names.all (λy=>y.2 != .local||scope.names.lookup y.1==some .local) &&
 scope.names.all (λy=>y.2 != .free||outer.names.lookup y.1==some .cell||outer.names.lookup y.1==some .free)&&cn.all (λx=>scope.names.lookup x==some .free)&&(AY.map (λi=>N[i]?)==cn.map some)
def mW(h1:X.env.scope=outer)(h2:X.N=N)(h:SU scope outer N cn AY=true):IA X scope tn cn AY:=by
 unfold SU at h;simp only[cb,iu,At,bne_iff_ne,beq_iff_eq]at h;obtain⟨⟨⟨⟨⟨k1,k2⟩,k3⟩,k4⟩,k5⟩,k6⟩:=h;refine{k1,k2,λy hy hl=>(k3 y hy).resolve_left λz=>z hl,λy hy hf=>?_,k5,by rw[h2];exact k6}
 have z:=k4 y hy
 show X.env.scope.names.lookup _=_\/X.env.scope.names.lookup _=_;rw[h1];rcases z with(z|z)|z
 exact absurd hf z;exact .inl z;exact .inr z
structure z1k(K:μ)(C:Addr):Prop where
 ga:cm K (.ref C) "__getattribute__"=some (some<|.builtin "BaseException.__getattribute__")
 gt:cm K (.ref C) "__getattr__"=some none
 be:W.mroIn K C (.type "BaseException")=some true
 cl:W.isClsIn K C=true
 ha:cm K (.ref C) "__class__"=some (some<|.builtin "object.__class__")
 hn:L_ K (.builtin "object.__class__") "__get__"=some (some<|.builtin "getset_descriptor.__get__")
 tk:W.takesIn K (.builtin "object.__class__")=some true
 mr:W.mroIn K C (.type "object")=some true
set_option tactic.hygienic true in
inductive mX:V->Value->Prop
 |own (C:Addr):mX (.ref C) (.ref C)
 |ty (n:String):mX (.ty n) (.type n)
section
variable{X:Cx}
end
def DU(J:It)(g:TG)(tt:TT)(te:TE)(k:Nat)(AY:ad)(σ:St)(H1:Hp)(Q:VK):Prop :=
 ∃ W:Nat->Nat->St->Tr->Hp->Prop,(∃ m,W 0 m (K7 k AY σ) [] H1)/\∀ i m σ' ys H,W i m σ' ys H ->
  (J.stop i H/\∀ p,H p=none->Q (.ref p) (upd H p<|.lst ys)) ∨
  (J.go i H/\ys.length<sizeLine/\∀ x H',J.yld i H x H'->g x σ' H' λσ2 H2=>tt σ2 H2 λb H3 =>
   if b=true then ∃ N:VK,(∀ y H4,N y H4->∃ m',m'<m/\W (i+1) m' σ2 (ys++[y]) H4)/\te σ2 H3 N else ∃ m',m'<m/\W (i+1) m' σ2 ys H3)
def GR(J:It)(g:TG)(tb:TS)(D:Ends)(σ:St)(H1:Hp):Prop :=
 ∃ W:Nat->Nat->St->Hp->Prop,(∃ m,W 0 m σ H1)/\∀ i m σ H,W i m σ H ->
  (J.stop i H/\D.nx σ H)\/(J.go i H/\∃ N:St->Hp->Prop,(∀ σ' H',N σ' H'->∃ m',m'<m/\W (i+1) m' σ' H')/\∀ x H',J.yld i H x H'->g x σ H' λσ2 H2=>tb { D with nx:=N,ct:=N,bk:=D.nx } σ2 H2)
section
variable{K:μ}{ta tb tc to ti tv tl:TE}{tt tA tB' tu:TT}{s1 s2:TS}{r r':R2}{σ:St}{H:Hp}{Q:VK}{D:Ends}{QB:tX}{as:TA}{g:TG}{gs:FR}{te:TE}{k i:Nat}{AY:ad}{f m:Str}{C:Addr}{sp:Sp}{EN:Tr}{E:St->XK}{v:V}{vs:Tr}{QA:Tr->Hp->Prop}{QG:St->Hp->Prop}{QO:Option Int->Hp->Prop}
def Vq:AH s1 s2 D σ H=(s1 { D with nx:=s2 D } σ H):=rfl
def Vv:BS D σ H=(D.nx σ H):=rfl
def Vx:AQ ta g D σ H=(ta σ H λx H1=>g x σ H1 D.nx):=rfl
def Vy:CC ta D σ H=(ta σ H λ_ H1=>D.nx σ H1):=rfl
def Vz:AW ta D σ H=(ta σ H D.rt):=rfl
def Wb:BG tt s1 s2 D σ H=(tt σ H λb H1=>if b=true then s1 D σ H1 else s2 D σ H1):=rfl
def Wc:tC v σ H Q=(Q v H):=rfl
def Wd:AD r ta tb σ H Q=(ta σ H λx H1=>tb σ H1 λy H2=>r x y H2 Q):=rfl
def Wg:GA tt σ H QB=(tt σ H λc H1=>QB (!c) H1):=rfl
def Wh:HS tt tu σ H QB=(tt σ H λc H1=>if c=true then tu σ H1 QB else QB false H1):=rfl
def Wj:L7 tt tu σ H QB=(tt σ H λc H1=>if c=true then QB true H1 else tu σ H1 QB):=rfl
def Wk:WM tt ta tb σ H Q=(tt σ H λc H1=>if c=true then ta σ H1 Q else tb σ H1 Q):=rfl
def Wl:BL σ H QA=(QA [] H):=rfl
def Wm:C7 ta as σ H QA=(ta σ H λx H1=>as σ H1 λxs H2=>QA (x::xs) H2):=rfl
def Wp:CN as σ H Q=(as σ H λxs H1=>xs.length<=sizeLine/\∀ p,H1 p=none->Q (.ref p) (upd H1 p<|.tup xs)):=rfl
def Wq:BW as σ H Q=(as σ H λxs H1=>xs.length<=sizeLine/\∀ p,H1 p=none->Q (.ref p) (upd H1 p<|.lst xs)):=rfl
def Wv:O0 ru ta σ H Q=ta σ H λx H1=>ru x H1 Q:=rfl
def Ww:CO rc as σ H Q=as σ H λvs H1=>rc vs H1 Q:=rfl
def Wx:GD C E as D σ H=(as σ H λvs H1=>vs.length<=sizeLine/\E σ (.ref C) none H1):=rfl
def Wy:XQ sb th D σ H=sb (λσ' cls _ H'=>th cls D σ' H') D σ H:=rfl
def Wz:AF i v σ H QG=(QG (σ.set i<|some v) H):=rfl
def Xb:NJ to ti rs v σ H QG=to σ H λo H1=>ti σ H1 λi H2=>rs o i v H2 λH3=>QG σ H3:=rfl
def Xc:FE K k gs v σ H QG=(∃ a xs,v=.ref a/\SqT K H a xs/\xs.length=k/\gs xs σ H QG):=rfl
def Xd:FD vs σ H QG=((vs=[]/\QG σ H)):=rfl
def Xg:DF g gs vs σ H QG=(∃ v r,vs=v::r/\g v σ H λσ' H'=>gs r σ' H' QG):=rfl
def Xh:J1 rs ta ol oh σ H Q=ta σ H λx H1=>ol σ H1 λl H2=>oh σ H2 λu H3=>rs x l u H3 Q:=rfl
def Xj:J0 σ H QO=(QO none H):=rfl
def Xk:D8 K T rm ta as σ H Q=ta σ H λx H1=>W2 K T x H1/\as σ H1 λxs H2=>rm x xs H2 Q:=rfl
def Xl:CG σ H QB=(QB true H):=rfl
def Xm:SJ K ta tv rd f D σ H=(ta σ H λx H1=>∃ a C dx fs v,x=.ref a/\H1 a=some (.ins C dx fs)/\Cls K C/\NoAttr K C f/\fs.lookup f=some v/\tv σ H1 λy H2=>rd v y H2 λz H3=>∃ dx' fs',H3 a=some (.ins C dx' fs')/\fs'.length<1000/\D.nx σ (upd H3 a<|.ins C dx'<|BP f z fs')):=rfl
end
section
variable{K:μ}{σ:St}{H:Hp}{Q:VK}{P:Bool->Prop}{PI':Int->Prop}{PV:V->Prop}{QB:tX}{v:V}{x:Option V}{i j:Int}{n:Nat}{b b':Bool}{s s':Str}{p q:Addr}{f:Int->Int->V}{C:Int->Int->Prop}
def EA(i:Nat):TE:=λσ H Q=>match σ[i]? with
 |some (some v)=>Q v H
 |_=>False
def Xp:EA 0 (some v::σ) H Q=Q v H:=rfl
def Xq:EA (n+1) (x::σ) H Q=EA n σ H Q:=rfl
def Xv(i:Nat):EA i=SD i:=by
 funext σ H Q;unfold EA SD;cases σ[i]? with
 |none=>simp
 |some o=>cases o<;>simp
def Xw:BH K (.int i) (.int j) H Q=Q (.int<|i+j) H:=rfl
def Xx:BH K (.str s) (.str s') H Q=(s.length+s'.length<=sizeLine/\Q (.str<|s++s') H):=rfl
def Xy:BH K (.ref p) (.ref q) H Q=(W3 (.ref p) (.ref q) H Q\/WY K (.ref p) (.ref q) H Q\/XR K (.ref p) (.ref q) H Q):=rfl
def Xz{x y:Str}:EO (.str x) (.str y) H Q=Q (.bl<|!decide (y.cps.toList<x.cps.toList)) H:=rfl
def Yb{x y:Str}:D9 (.str x) (.str y) H Q=Q (.bl<|decide<|x.cps.toList<y.cps.toList) H:=rfl
def Yc{x:Str}{lo hi:Option Int}:J7 K (.str x) lo hi H Q=(x.length<=sizeLine/\Q (.str<|Txt.slice x lo hi) H):=rfl
def Yd:DP K (.int i) (.int j) H Q=(CMul i j/\Q (.int<|i*j) H):=rfl
def Yg:DP K (.str z) (.int j) H Q=(0<=j/\j<=1000/\z.length<=1000/\Q (.str<|NO z j) H):=rfl
def Yh:DP K (.ref p) (.int j) H Q=(W8 (.ref p) (.int j) H Q\/XS K (.ref p) (.int j) H Q):=rfl
def Yj:D9 (.int i) (.int j) H Q=Q (.bl<|decide<|i<j) H:=rfl
def Yk:EO (.int i) (.int j) H Q=Q (.bl<|decide<|i<=j) H:=rfl
def Yl:IB (.int i) (.int j) H Q=Q (.bl<|decide<|j<i) H:=rfl
def Ym:O7 (.int i) (.int j) H Q=Q (.int<|i+j) H:=by simp[O7]
def Yp:ST K [.bl b] H Q=Q (.int<|if b then 1 else 0) H:=by simp[ST]
end
def Yq(i:Nat)(hN:X.N[i]? =some x:=by rfl)(hv:SC X.env.scope x:=by first|exact Ke rfl|exact Cn (Ke rfl)|exact Cn<|Cn rfl)(hd:(x ==("__debug__":Str))=false:=by decide)
  (GP:(x ==("__classdict__":Str))=false:=by decide):PE X (.Name x pos) (EA i):=by
 rw[Xv];exact kI hN hv hd GP
abbrev AV(Q:VK):Ends:={ nx:=λ_ H'=>Q .non H',rt:=Q }
abbrev C1(AY:ad)(σ:St):St:=AY.map λi=>(σ[i]?).join
section
variable{K:μ}{te:TE}{AY:ad}{σ:St}{H:Hp}{Q:VK}
def LA{lo:Int}{n:Nat}(hn:n<=sizeLine)(Pv:Nat->Tr->Hp->Prop)(h0:Pv 0 [] H)(hs:∀ i ys H,i<n->ys.length=i->Pv i ys H->te (some (.int<|lo+i)::C1 AY σ) H λy H2=>Pv (i+1) (ys++[y]) H2)
  (hd:∀ ys H,ys.length=n->Pv n ys H->∀ p,H p=none->Q (.ref p) (upd H p<|.lst ys)) :
  DU (FS lo n) (AF 0) CG te 1 AY σ H Q:=by
 refine{λi m σ' ys H=>m=n-i/\i<=n/\ys.length=i/\(∃ x0,σ'=x0::C1 _ σ)/\Pv i ys H,{n,rfl,bu _,rfl,⟨_,rfl⟩,h0},?_};rintro i m σ' ys H ⟨rfl,hi,hl,⟨x0,rfl⟩,p⟩;by_cases A0:i<n;refine .inr {A0,by lia,λx H' y=>?_};obtain⟨e,y⟩:=y;subst e y;refine{_,λy H4 q=>{_,cq ‹_›,rfl,A0,?_,⟨_,rfl⟩,q},hs i ys _ A0 hl p};rw[ae,ji,hl]
 have e:i=n:=by lia
 subst e;exact .inl {υ _,hd ys H hl p}
def Yv(hn:xs.length<=sizeLine)(Pv:Nat->Tr->Hp->Prop)(h0:Pv 0 [] H)(hq:∀ i ys H,i<=xs.length->Pv i ys H->SqL K H b xs)
  (hs:∀ i x ys H,xs[i]? =some x->ys.length=i->Pv i ys H->te (some x::C1 AY σ) H λy H2=>Pv (i+1) (ys++[y]) H2)
  (hd:∀ ys H,ys.length=xs.length->Pv xs.length ys H->∀ p,H p=none->Q (.ref p) (upd H p<|.lst ys)) :
  DU (GQ K b) (AF 0) CG te 1 AY σ H Q:=by
 refine{λi m σ' ys H=>m=xs.length-i/\i<=xs.length/\ys.length=i/\(∃ x0,σ'=x0::C1 _ σ)/\Pv i ys H,{xs.length,rfl,bu _,rfl,⟨_,rfl⟩,h0},?_};rintro i m σ' ys H ⟨rfl,hi,hl,⟨x0,rfl⟩,p⟩
 have q:=hq i ys H hi p;by_cases A0:i<xs.length;refine .inr {x2 xs (xs[i]) {q,by simp[A0]},by lia,λx H' y=>?_};obtain⟨rfl,y⟩:=y;refine{_,λy H4 q=>{_,cq ‹_›,rfl,A0,?_,⟨_,rfl⟩,q},hs i x ys _ (y xs q) hl p};rw[ae,ji,hl]
 have e:i=xs.length:=by lia
 subst e;exact .inl {{xs,q,υ _},hd ys H hl p}
def Yw{lo:Int}{n:Nat}(hn:n<=sizeLine)(f:Nat->V)(hs:∀ i,i<n->∀ Q':VK,Q' (f i) H->te (some (.int<|lo+i)::C1 AY σ) H Q')
  (hd:∀ p,H p=none->Q (.ref p) (upd H p<|.lst<|(ο n).map f)) :
  DU (FS lo n) (AF 0) CG te 1 AY σ H Q:=by
 refine LA hn (λi ys H'=>H'=H/\ys=(ο i).map f) ⟨rfl,rfl⟩ (λi ys H' hi hl hzz=>?_) (λys H' hl hzz=>?_);obtain⟨rfl,e2⟩:=hzz;refine hs i hi _ {rfl,?_};rw[e2,bz,χ];rfl;obtain⟨rfl,rfl⟩:=hzz;exact hd
def IC(Pv:tR)(h0:Pv 0 σ H)(hl:∀ i σ H,i<=xs.length->Pv i σ H->SqL K H b xs)
  (hs:∀ i x σ H,xs[i]? =some x->Pv i σ H->g x σ H λσ2 H2=>tb { D with nx:=Pv<|i+1,ct:=Pv<|i+1,bk:=D.nx } σ2 H2) (hd:∀ σ H,Pv xs.length σ H->D.nx σ H):GR (GQ K b) g tb D σ H:=Lc Pv h0 hl hs hd
def Yx(Pv:tR)(h0:Pv 0 σ H)(hl:∀ i σ H,i<=xs.length->Pv i σ H->SqT K H b xs)
  (hs:∀ i x σ H,xs[i]? =some x->Pv i σ H->g x σ H λσ2 H2=>tb { D with nx:=Pv<|i+1,ct:=Pv<|i+1,bk:=D.nx } σ2 H2) (hd:∀ σ H,Pv xs.length σ H->D.nx σ H):GR (IW K b) g tb D σ H:=Ld Pv h0 hl hs hd
def QC{lo:Int}{n:Nat}{g:TG}{tb:TS}{D:Ends}(Pv:tR)(h0:Pv 0 σ H)
  (hs:∀ i σ H,i<n->Pv i σ H->g (.int<|lo+i) σ H λσ2 H2=>tb { D with nx:=Pv<|i+1,ct:=Pv<|i+1,bk:=D.nx } σ2 H2) (hd:∀ σ H,Pv n σ H->D.nx σ H):GR (FS lo n) g tb D σ H:=Lg Pv h0 hs hd
end
def AL(h:H p=none):Same H (upd H p o):=λb u e=>by rw[AG (BE e h)];exact e
def GS{α β :Type}{F: α -> β ->Prop}:∀ {l:List α} {m:List β} {i:Nat} {y: β},Paired F l m->m[i]? =some y->∃ x,l[i]? =some x/\F x y
 |_,_,_,_,.nil,e=>by simp at e
 |_,_,0,_,.cons r _,e=>by simp at e;subst e;exact⟨_,rfl,r⟩
 |_,_,i+1,y,.cons _ t,e=>by
  obtain⟨u,h1,h2⟩:=GS   t (e);exact⟨u,h1,h2⟩
def mY{α β :Type}{F: α -> β ->Prop}{x: α}{y: β}(r:F x y):∀ {l:List α} {m:List β} (i:Nat),Paired F l m->Paired F (l.set i x) (m.set i y)
 |_,_,_,.nil=>.nil
 |_,_,0,.cons _ t=>.cons r t
 |_,_,i+1,.cons q t=>.cons q<|mY r i t
def CW{K:μ}{H:Hp}{p:Addr}{xs:Tr}{i:Int}{n:Nat}{v:V}{Q:VK}(h:SqL K H p xs)(hi:i=n)(hx:xs[n]? =some v)(q:Q v H):BR K (.ref p) (.int i) H Q :=
 .inl (x4 p xs i v {rfl,rfl,h,hi ▸ W1 hx,q})
def CJ(n:Nat)(h:n<=100000):n<=sizeLine:=ψ h (by decide)
def mZ{α :Type}(x: α):∀ w:Nat,(bg w [x]).flatten=bg w x
 |0=>rfl
 |w+1=>by rw[mf,i_,mZ x w];rfl
def J9(h:fs.length+1<n):(BP f v fs).length<n:=cr (O4 f v fs) h
def m7(h:shp d):iq d d=true:=PySem.SeqAt.eqv_refl d<|PySem.SeqAt.canLay_of_shaped h
def ItK(k:Bool)(h:Heap)(j a:Addr)(i:Nat):Prop:=if k then h.IsListIter j a i else h.IsTupleIter j a i
def m8(k:Bool)(h:Heap)(a:Addr)(xs:Array Value):Prop:=if k then h.IsList a xs else h.IsTuple a xs
def ItK.up(x:ItK k h j a i)(q:∀ o,h.get? j=some o->h'.get? j=some o):ItK k h' j a i:=by
 cases k<;>exact(let ⟨o,e,r⟩:=x;{o,q o e,r})
def ItK.ob(x:ItK k h j a i):∃ o,h.get? j=some o/\o.data=.fields #[.ref a,.int i 0]:=by
 cases k<;>exact(let ⟨o,e,_,r⟩:=x;⟨o,e,r⟩)
section
variable{P:bv}{w:World}{A:dk}{E:tV}{s:π}
def Yy(z:A.handled=none)(c:s.heap.IsTupleIter j t i)(d:s.heap.IsTuple t AJ)(e:AJ[i]? =none)
  (q:∀ h' x,my j s.heap h'->(∃ o,h'.get? x=some o/\o.cls=.type "StopIteration")->E (.ref x) { s with heap:=h' }):wpAny (model P w) A (yc<|.ref j) Q E s:=by
 obtain⟨oj,e1,e2,e3⟩:=id c;obtain⟨ot,f1,y,n,f2⟩:=d;refine δ<|df  c.typeIs xq (dg xq c.typeIs F.entry_tuple_iterator_next ?_<|F.args_tuple_iterator_next_1 _)
 show wpAny _ _ (field _ 0>>=_) _ _ s;refine δ<|jr e1 e3  rfl (δ<|jr e1 e3  rfl (δ<|Co f1 f2 ?_));simp only[az,e];refine δ (qw (δ (mo e1 e3 (by simp) (δ (δ (dh (δ  (Cr  (by first|rfl|(rfl)) (dh (δ<|Et ?_) (by size_fits)))) (by size_fits)))))));rw[z];exact δ<|ν<|Me<|q _ _ (((eh ..).extBut.push _).push _) {_,aj _ rfl,rfl}
def Yz(z:A.handled=none)(c:ItK k s.heap j t i)(d:m8 k s.heap t AJ)(e:AJ[i]? =none)
  (q:∀ h' x,my j s.heap h'->(∃ o,h'.get? x=some o/\o.cls=.type "StopIteration")->E (.ref x) { s with heap:=h' }):wpAny (model P w) A (yc<|.ref j) Q E s:=by
 cases k;exact Yy z c d e q;exact wpAny_nextOf_list_end z c d e q
end
section
variable{P:bv}{w:World}{A:dk}{E:tV}{s:π}
end
def Inv.turnedS{X:Cx}{AA:tN}{σ:St}{H:Hp}{s:π}{h':Heap}{t':Nat}{fp:Uu}(I:Inv X AA σ H s)(k:∀ b o,b∉fp->s.heap.get? b=some o->h'.get? b=some o)(hf:∀ b∈fp,FpOk X AA H b):Inv X AA σ H { s with heap:=h',toks:=t' }:=by
 have nit:∀ b u,H b=some u->b∉fp:=λb u e z=>by rw[(hf b z).1]at e;cases e
 refine I.step    (λb hb=>?_) (λb o y y hc e y=>k b o hc e) (λb o y y hc e y=>{_,k b o hc e}) (λy y y y n=>n)
  (λb o hc e=>{o,k b o hc e}) (λy y e=>e) (λy y y e=>e) (λb ps e=>{#[],by rw[e];simp}) (λm hm=>?_) (λb u e=>?_) I.bare
 obtain⟨y,f1,y,f3,f4,f5⟩:=hf b hb;exact⟨f3,f1,f4,f5⟩;revert hm;apply u3;rintro o es ep ⟨ho,r⟩;exact x3 o es ep {k _ o (λz=>(hf _ z).2.1 rfl) ho,r};refine(I.hok b u e).stay (λc v hc q=>k c v ?_ q) (λy q=>q) λy y q=>q;rcases hc with z|z
 rw[z];exact nit b u e;exact nit c _ z
def XW(K:μ)(k:Bool)(H:Hp)(a:Addr)(xs:Tr):Prop:=if k then SqL K H a xs else SqT K H a xs
def Inv.seqK(I:Inv X AA σ H s)(q:XW X.K k H a xs):∃ AJ,Vals xs AJ/\m8 k s.heap a AJ.toArray:=by
 cases k;obtain⟨AJ,rv,p,z⟩:=I.tuple q;exact⟨_,rv,p⟩;obtain⟨AJ,rv,p,z⟩:=I.list q;exact⟨_,rv,p.isList⟩
def Inv.seqK_inj(I:Inv X AA σ H s)(p:XW X.K k H a xs)(q:XW X.K k H a ys):xs=ys:=by
 cases k;exact I.tuple_inj p q;exact I.list_inj p q
structure z1l(z T U j j':Addr):Prop where
 a1:T≠z
 a2:U≠z
 a3:j≠z
 a4:j'≠z
 a5:T≠U
 a6:T≠j
 a7:T≠j'
 a8:U≠j
 a9:U≠j'
 a10:j≠j'
def FpOk.upd(f:FpOk X AA H b)(n:b≠a):FpOk X AA (upd H a o) b:={(AG n).trans f.1,f.2}
section
variable{X:Cx}{tg:Expr}
end
def QD(z:Str):It:={λi _=>i<z.cps.size,λi H x H'=>H'=H/\∃ c,z.cps[i]? =some c/\x=.str {#[c]},λi _=>z.cps.size<=i}
def m9{P:bv}{w:World}{K:PySem.W.Frag}{tg:Expr}{it:Addr}{z:Str}{t:Tok}{nm:String}(hn:["enumerate","zip","dict_itemiterator","dict_reverseitemiterator","odict_iterator","itertools.zip_longest","itertools.pairwise"].contains nm=false)
  (W:∀ A:dk,A.handled=none->Walks P w A it [it] [it] z.cps.size (SignAt z) (λi h=>h.IsStrIter it nm z t i)) (sf:∀ (A:dk) (i:Nat) (s:π) (Q:tV) (E:tV),s.heap.IsStrIter it nm z t i->Q (.ref it) s->wpAny (model P w) A (Bs<|.ref it) Q E s) :
  KW P w K tg (QD z) [it] it (λi h=>i<=z.cps.size/\h.IsStrIter it nm z t i) where
 mem:=by simp
 obj:=λi h ⟨_,o,e,c,d⟩ b hb=>by
  have e':b=it:=by simpa using hb
  subst e';exact{o,e,λv q=>by rw[d]at q;cases q}
 keep:=λi h h' ⟨l,o,e,r⟩ k=>{l,o,k it (by simp) o e,r}
 item:=by
  intro X hP hw hK hc i AA s σ H E I hf ⟨y,st⟩ hg;obtain⟨f0,f1,f2,f3,f4,f5⟩:=hf it (by simp);refine(W _<|I.ok.hd hc).item i s _ _ hg st λv h' tk hv st' kk=>?_;revert hv;apply u2;have I1:Inv X _ σ H { s with heap:=h',toks:=tk }:=I.turned (λb o hb e=>kk b o (by simpa using hb) e) f0 f1 f3 f4 f5;rintro c u ⟨hx,rfl⟩;obtain⟨o,e,c1,d⟩:=id st';exact{_,rfl,OY  e c1 d hn (x2 (.str _) H {I1,⟨u,rfl⟩,⟨rfl,c,hx,rfl⟩,⟨hg,st'⟩,λb hb=>(hf b hb).1})}
 done:=by
  intro X hP hw hK hc i AA s σ H E I hf ⟨l,st⟩ hg;obtain⟨f0,f1,f2,f3,f4,f5⟩:=hf it (by simp)
  have e:=n_ l hg;subst e;exact(W _<|I.ok.hd hc).done s _ _ st λh' tk kk=>{rfl,I.turned (λb o hb e=>kk b o (by simpa using hb) e) f0 f1 f3 f4 f5}
 self:=λA i s Q E st h=>sf A i s Q E st.2 h
def nB:∀ bs:List Bool,(ο bs.length).all (λi=>bs.getD i false)=bs.all id
 | []=>rfl
 |b::t=>by
  rw[dv,Ae,wj,Ie,wj,<-(nB t)]
  rfl
def QE(tl:TE):TI:=λσ H R=>tl σ H λx H1=>∃ z,x=.str z/\R (QD z) H1
section
variable{X:Cx}{tg:Expr}
def Zb{l:Expr}{tl:TE}(hl:PE X l tl):PI X tg l (QE tl):=by
 refine λAA s σ H R I h=>AO (hl _ s σ H _ I h) λv s1 hzz=>?_;obtain⟨x,H1,I1,r1,⟨z,rfl,q⟩⟩:=hzz;obtain⟨t,rfl⟩:=r1
 have fp1:∀ b∈[s1.heap.objs.size],FpOk X _ H1 b:=λb hb=>by
  have e:b=s1.heap.objs.size:=by simpa using hb
  subst e;exact I1.fpOk (υ _) (I1.hok.fresh<|υ _)
 cases ha:z.cps.all _;refine wpAny_pyIter_wide ha (x5 _ _ _ _ H1 {rfl,I1.kept  λb o e=>ξ _ e,m9   (by decide) (λA hA=>Walks.strWide hA _ z t) (λA i s Q E st h=>wpAny_pyIter_striter_wide st h),{bu _,_,aj _ rfl,rfl,rfl},fp1,q});refine wpAny_pyIter_ascii ha (x5 _ _ _ _ H1 {rfl,I1.kept  λb o e=>ξ _ e,m9   (by decide) (λA hA=>Walks.strAscii hA _ z t) (λA i s Q E st h=>wpAny_pyIter_striter_ascii st h),{bu _,_,aj _ rfl,rfl,rfl},fp1,q})
def QF(K:μ):Tr->Hp->VK->Prop:=λxs H Q=>∃ x,xs=[.str x]/\x.length=1/\Q (.int (x.cps.getD 0 0:Nat)) H
def Zc:DT X (.builtin "ord") (QF X.K):=My
def NQ(K:μ):Tr->Hp->VK->Prop:=λxs H Q=>∃ (p:Addr) (bs:List Bool),xs=[.ref p]/\SqL K H p (bs.map V.bl)/\Q (.bl<|bs.all id) H
def Zd(hc:X.calm=true):DT X (.builtin "all") (NQ X.K):=by
 intro AA s σ H xs us Q I r h;revert h;apply u2;rintro p bs ⟨rfl,hp,q⟩;obtain⟨AJ,rv,pl,hz⟩:=I.list hp;obtain⟨u,rfl,rfl⟩:=FT r
 have hl:=rv.length
 have hne:p≠s.heap.objs.size:=by
  obtain⟨o,e,z⟩:=pl.isList;exact bd<|av e
 refine call_all_walk<|yq pl.isList<|x7 _ _ _ _ _ _ (λi=>bs.getD i false) {rfl,Ra (show X.A.in1.handled=none from I.ok.hd hc) _ p hne _,{{_,aj _ rfl,rfl,rfl},pl.isList.push _},?_,?_};intro i v s' Q' E' hv hq
 have hv:AJ[i]? =some v:=by simpa using hv
 rw[ζ]at hl;obtain⟨b,hb⟩:∃ b,bs[i]? =some b:={_,θ<|hl ▸ ((ε.mp hv).1)}
 obtain⟨u,hu,ru⟩:=rv.get   (by rw[τ,hb];rfl);rw[hv]at hu;cases (ru)
 have e:bs.getD i false=b:=by rw[xr,hb];rfl
 cases hu
 have hq:Q' (bs.getD i _) s':=hq;rw[e]at hq;exact ν hq;intro h' tk kk
 have e:(ο AJ.toArray.size).all (λi=>bs.getD i false)=bs.all id:=by
  rw[ζ]at hl;rw[ay,<-hl];exact nB bs
 rw[e];exact x2 (.bl _) H {I.kept  λb o eb=>kk b o (by simpa using bd (av eb)) (ξ _ eb),rfl,q}
end
def Zg{K:μ}{x:Str}{H:Hp}{Q:VK}:QF K [.str x] H Q=(x.length=1/\Q (.int (x.cps.getD 0 0:Nat)) H):=by simp[QF]
section
variable{P:bv}{w:World}{A:dk}{E:tV}{s:π}
end
section
variable{X:Cx}
def Zh(hl:ys.length=us.length)(h:∀ (i:Nat) y u,ys[i]? =some y->us[i]? =some u->RelV y u):Vals ys us:=by
 induction ys generalizing us with
 |nil=>cases us with
  |nil=>exact .nil
  |cons u t=>simp at hl
 |cons y t ih=>cases us with
  |nil=>simp at hl
  |cons u us=>exact .cons (h 0 y u rfl rfl) (ih (by simpa using hl) λi y' u' e1 e2=>h (i+1) y' u' (by simpa using e1) (by simpa using e2))
end
def Zj:BX (QE tl) g tt te k AY σ H Q=(tl σ H λx H1=>∃ z,x=.str z/\DU (QD z) g tt te k AY σ H1 Q):=rfl
def Zk(hn:z.cps.size<=sizeLine)(Pv:Nat->Tr->Hp->Prop)(h0:Pv 0 [] H)(hs:∀ i c ys H,z.cps[i]? =some c->ys.length=i->Pv i ys H->te (some (.str {#[c]})::C1 AY σ) H λy H2=>Pv (i+1) (ys++[y]) H2)
  (hd:∀ ys H,ys.length=z.cps.size->Pv z.cps.size ys H->∀ p,H p=none->Q (.ref p) (upd H p<|.lst ys)):DU (QD z) (AF 0) CG te 1 AY σ H Q:=by
 refine{λi m σ' ys H=>m=z.cps.size-i/\i<=z.cps.size/\ys.length=i/\(∃ x0,σ'=x0::C1 _ σ)/\Pv i ys H,{z.cps.size,rfl,bu _,rfl,⟨_,rfl⟩,h0},?_};rintro i m σ' ys H ⟨rfl,hi,hl,⟨x0,rfl⟩,p⟩;by_cases A0:i<z.cps.size;refine .inr {A0,by lia,λx H' y=>?_};obtain⟨e,c,hc,y⟩:=y;subst e y;refine{_,λy H4 q=>{_,cq ‹_›,rfl,A0,?_,⟨_,rfl⟩,q},hs i c ys _ hc hl p};rw[ae,ji,hl]
 have e:i=z.cps.size:=by lia
 subst e;exact .inl {υ _,hd ys H hl p}
open PySem
abbrev JB(l:ad):Prop:=l.Pairwise (· <·)
def QH{l:ad}(R:JB l){i k a b:Nat}(h:i<k)(ha:l[i]? =some a)(hb:l[k]? =some b):a<b:=by
 obtain⟨h2,rfl⟩:=ε.mp hb;obtain⟨h1,rfl⟩:=ε.mp ha;exact yd.mp R i k h1 h2 h
structure Below(xs:Array Nat)(j r:Nat):Prop where
 le:r<=xs.size
 lo:∀ i v,i<r->xs.toList[i]? =some v->v<j
 hi:∀ i v,r<=i->xs.toList[i]? =some v->j<=v
def XX{xs:Array Nat}(R:JB xs.toList):∀ (fuel lo hi:Nat),lo<=hi->hi<=xs.size->hi-lo<=fuel->(∀ i v,i<lo->xs.toList[i]? =some v->v<j)->(∀ i v,hi<=i->xs.toList[i]? =some v->j<=v) ->
  Below xs j (Ig xs j fuel lo hi)
 |0,lo,hi,h1,h2,h3,a,b=>by
  have e:lo=hi:=by lia
  subst e;exact⟨h2,a,b⟩
 |fuel+1,lo,hi,h1,h2,h3,a,b=>by
  unfold Ig;by_cases A0:lo<hi;rw[if_pos A0]
  have hm:(lo+hi)/2<xs.size:=by lia
  have ed:xs.getD ((lo+hi)/2) j=xs[(lo+hi)/2]:=by simp[hm]
  have em:xs.toList[(lo+hi)/2]? =some (xs[(lo+hi)/2]):=by simp[hm]
  simp only[ed];split;rename_i hv;refine XX R _ _ _ (by omega) h2 (by omega) (λi v hi' e=>?_) b;by_cases q:i=(lo+hi)/2;subst q;rw[em]at e;cases e;exact hv;exact Aa (QH R (show i<(lo+hi)/2 by exact ni (f_ hi') q) e em) hv;rename_i hv;refine XX R _ _ _ (by omega) (jz hm) (by omega) a λi v hi' e=>?_;by_cases q:i=(lo+hi)/2;subst q;rw[em]at e;cases e;exact cu hv
  have:=QH R (show(lo+hi)/2<i by lia) em e
  lia
  rw[if_neg A0]
  have e:lo=hi:=by lia
  subst e;exact⟨h2,a,b⟩
def XY(R:JB xs.toList):Below xs j (kh xs j) :=
 XX R _ _ _ (bu _) (υ _) (υ _) (λz z h=>absurd h<|nv _) λi v h e=>by
  rw[bq (h)]at e;cases e
def Below.uniq(a:Below xs j r)(b:Below xs j r'):r=r':=by
 rcases Nat.lt_trichotomy r r' with h|h|h
 have hs:=aa h b.le
 have e:xs.toList[r]? =some (xs[r]):=by simp[hs]
 have:=b.lo _ _ h e
 have:=a.hi _ _ (υ _) e;omega;exact h
 have hs:=aa h a.le
 have e:xs.toList[r']? =some (xs[r']):=by simp[hs]
 have:=a.lo _ _ h e
 have:=b.hi _ _ (υ _) e;omega
def NotIn(t:SetTable)(j:Nat):Prop:=t.place[kh t.place j]? ≠some j
def Zl(h:t.slot j=.empty):NotIn t j:=λe=>by
 unfold Ou at h;simp only[e,beq_self_eq_true]at h;cases h
def Zm(h:t.slot j=.dummy):NotIn t j:=λe=>by
 unfold Ou at h;simp only[e,beq_self_eq_true]at h;cases h
def nD(t:SetTable)(p:Oi):(t.advance p).dummy=p.dummy:=by
 unfold SetTable.advance;split<;>rfl
def XZ:∀ (fuel:Nat) (p:Oi) (j:Nat) (d:Option Nat),Ih t f h fuel p=some (.empty j d)->(∀ x,p.dummy=some x->NotIn t x)->NotIn t (d.getD j)
 |0,p,j,d,e,_=>by cases e
 |fuel+1,p,j,d,e,hd=>by
  unfold Ih at e;split at e;rename_i hs;cases e;cases q:p.dummy with
  |none=>exact Zl hs
  |some x=>exact hd x q
  rename_i hs;refine XZ _ _ j d e λx hx=>?_;rw[nD]at hx;obtain rfl:=ι hx;exact Zm hs;split at e;cases e;exact XZ _ _ j d e λx hx=>by rw[nD]at hx;exact hd x hx
set_option tactic.hygienic true in
def Zp(e:t.freeSlot h=some (s,b)):NotIn t s:=by
 unfold SetTable.freeSlot at e;split at e
 ·rename_i j d hp;cases e;refine XZ _ _ _ _ hp λx hx=>?_;cases hx
 ·cases e
def Zq(n:Nat):JB (Array.range n).toList:=by
 rw[Array.toList_range];exact nj
def Zv{t:SetTable}(R:JB t.place.toList)(h:NotIn t j):JB (t.put j).1.place.toList:=by
 have b:=XY (j:=j) R
 show JB (SetTable.insertAt _ _ j).toList;rw[SetTable.toList_insertAt]
 have hlo:∀ v∈t.place.toList.take (kh t.place j),v<j:=λv hv=>by
  obtain⟨i,hi,e⟩:=jy hv;refine b.lo i v (by rw[de]at hi;lia) ?_;rw[<-e];simp only[Ii];exact θ _
 have hhi:∀ v∈t.place.toList.drop _,j<v:=λv hv=>by
  obtain⟨i,hi,e⟩:=jy hv
  have e2:t.place.toList[kh t.place j+i]? =some v:=by
   rw[<-Ga,θ hi,e]
  by_cases q:j=v;subst q
  have z:i=0:=by
   by_cases z:i=0;exact z
   have hl:kh t.place j<t.place.toList.length:=by
    rw[ke]at hi;lia
   have e3:=θ hl
   have:=b.hi _ _ (υ _) e3
   have:=QH R (show kh _ j<kh _ j+i by lia) e3 e2
   lia
  subst z;rw[gq]at e2;exact absurd e2 h;exact ni (b.hi _ _ (Ki _ _) e2) q
 refine List.pairwise_append.mpr {R.sublist<|Ha ..,ki.mpr {hhi,R.sublist<|List.drop_sublist ..},λx hx y hy=>?_};rcases ax.mp hy with rfl|hy
 exact hlo x hx;exact Aa (hlo x hx) (hhi y hy)
structure Led(led:Bool)(t:SetTable):Prop where
 rise:JB t.place.toList
 led:t.led=led
def Led.standIn{led:Bool}{t:SetTable}(h:t.led=led)(n:Nat):Led led (t.standIn n):={Zq n,h}
def Led.or{led:Bool}{t:SetTable}(h:Led led t)(n:Nat):Led led (t.orStandIn n):=by
 unfold SetTable.orStandIn;split;exact h;exact .standIn h.led n
set_option tactic.hygienic true in
def Led.layNew{led:Bool}{t:SetTable}(L:Led led t)(es:Array (Int × Value))(h:Int)(x:Value):Led led (layNew t es h x).2.1:=by
 unfold PySem.layNew;split
 ·rename_i slot b e;exact Led.or {Zv L.rise<|Zp e,L.led} _
 ·exact .standIn L.led _
def Zw(owner:Array (Option Nat))(m:Nat):JB (((ο m).filterMap λj=>(owner.getD j none).map (j,·)).map (·.1)):=by
 rw[List.map_filterMap];refine(nj ).filterMap _ λa b hab x hx y hy=>?_;simp only[Cs,au]at hx hy;obtain⟨z,z,rfl⟩:=hy;obtain⟨z,z,rfl⟩:=hx;exact hab
set_option tactic.hygienic true in
def Led.relayAll{led:Bool}{t:SetTable}(h:t.led=led)(L:Led led t)(es:Array (Int × Value))(wanted:Nat):Led led (Ij t es wanted).2.1:=by
 unfold PySem.relayAll;split
 ·rename_i t' order e;dsimp only;split
  ·unfold SetTable.relaid SetTable.laid at e;simp only[Option.bind_eq_bind,zo,Option.pure_def,yr,Prod.mk.injEq]at e;obtain⟨owner,_,rfl,_⟩:=e;exact{by simpa using Zw owner _,h}
  ·exact .standIn h _
 ·exact .standIn h _
def Led.plainOff{led:Bool}{t:SetTable}(L:Led led t):Led led { t with plain:=false }:=⟨L.rise,L.led⟩
def Led.fresh(led:Bool):Led led (.fresh 0 0 led):=⟨Hr,rfl⟩
def QI(xs:Array Nat):Nat->Nat
 |0=>0
 |i+1=>xs.getD i 0+1
def Zx{xs:Array Nat}(R:JB xs.toList):∀ {i:Nat},i<=xs.size->kh xs (QI xs i)=i
 |0,_=>(XY R).uniq {bu _,λ_ _ h=>absurd h<|nv _,λ_ _ _ _=>bu _}
 |i+1,hi=>(XY R).uniq ⟨hi,λk v hk e=>by
   have hi':i<xs.size:=hi
   have ed:xs.getD i 0=xs[i]:=by simp[hi']
   have ei:xs.toList[i]? =some xs[i]:=by simp[hi']
   show v<xs.getD i 0+1;rw[ed];by_cases q:k=i;subst q;rw[ei]at e;obtain rfl:=ι e;exact fu _;exact da (QH R (show k<i by exact ni (f_ hk) q) e ei),λk v hk e=>by
   have hi':i<xs.size:=hi;exact QH R (show i<k by exact hk) (by simp[hi']) e⟩
def nH{α :Type}(next:Nat->Nat):∀ (fuel k:Nat) (left:List α) (out:Array α),left.length=fuel->rq (Ik next fuel k left out).toList (out.toList++left)
 |0,k,left,out,h=>by
  rw[fz.mp h];unfold Ik;simp
 |fuel+1,k,left,out,h=>by
  have hl:next k%left.length<left.length:=uo _ (by lia);unfold Ik;rw[θ hl];refine(nH _ _ _ _ _ (by rw[xt hl];lia)).trans ?_;rw[Il,gg];refine List.Perm.append_left _ ?_;rw[ma]
  show rq (left[next k%left.length]::(left.take _++left.drop _)) _;refine wa.symm.trans ?_;rw[<-sr hl,ku]
def Zy{α :Type}(next:Nat->Nat)(xs:Array α):rq (Pi next xs).toList xs.toList:=(nH _ _ 0 _ _<|rfl)
end L2
namespace L2
open PySem PyProof.Rows
def leads(w:World):Bool:= !w.params.followText "set-order"
def iv:Value->Int
 |.int n _=>n
 |_=>0
def IntSet(P:bv)(w:World)(h:Heap)(a:Addr)(ms:Zu):Prop :=
 ∃ (o:Obj) (es:Array (Int × Value)) (ep:Nat) (t:SetTable),h.get? a=some o/\o.ExactSet/\o.data=.set es ep t/\Du (me P w) es.toList /\
  rq (es.toList.map λe=>iv e.2) ms/\es.size<xm/\t.fits es.size=true/\Led (leads w) t
section
variable{P:bv}{w:World}{A:dk}{E:tV}{s:π}
def X0(h:Du (me P w) es)(he:e∈es):∃ t,e.2=.int (iv e.2) t:=by
 obtain⟨⟨k,hk,y⟩,y⟩:=h e he;obtain⟨t,z⟩:=uv hk;exact{t,by rw[z];rfl}
def nJ(h:Du (me P w) es)(he:e∈es):(me P w).is k e.2=true↔iv e.2=k:=by
 obtain⟨t,z⟩:=X0 h he;rw[z];refine{λq=>?_,λq=>?_}
 have q':Lr k (.int _ t)=true:=q;obtain⟨t',z'⟩:=uv q';cases z';rfl;rw[<-q];exact Oj ..
def nK(h:Du (me P w) es)(p:rq (es.map λe=>iv e.2) ms)(k:Int):k∈ms↔∃ e∈es,(me P w).is k e.2=true:=by
 rw[<-p.mem_iff,af];exact{λ⟨e,he,q⟩=>{e,he,(nJ h he).mpr q},(by rintro ⟨e,he,q⟩;exact{e,he,(nJ h he).mp q})}
def nQ{h:Heap}{o:Obj}{es es':Array (Int × Value)}{t t':SetTable}(ho:h.get? a=some o)(hex:o.ExactSet)(hd:o.data=.set es ep t)
  (hel:Du (me P w) es'.toList) (hp:rq (es'.toList.map λe=>iv e.2) ms) (hb:es'.size<xm) (hf:t'.fits es'.size=true) (L:Led (leads w) t') :
  (h.update a<|Ol es' t').get? a=some { o with data:=.set es' (ep+1) t' }/\IntSet P w (h.update a<|Ol es' t') a ms:=by
 have g:=(SetOf_store   ho hex hd hel (λk=>by rw[e_]) hb hf).1;exact{g,x4 _ _ _ t' ⟨g,hex,rfl,hel,hp,hb,hf,L⟩}
def nR{g:Bool->Sem Unit}(hg:∀ (b:Bool) (s1:π) (R:Unit->π->Prop),R () s1->wpAny (model P w) A (g b) R E s1){o:Obj}{es e1:Array (Int × Value)}{t t1:SetTable}
  (ho:s.heap.get? a=some o) (hex:o.ExactSet) (hd:o.data=.set es ep t) (hel:Du (me P w) e1.toList) (hp:rq (e1.toList.map λe=>iv e.2) ms) (hb:e1.size<xm) (hf:t1.fits e1.size=true) (L:Led (leads w) t1)
  {R:Option Bool->π->Prop} (h:∀ h',gy a s.heap h'->IntSet P w h' a ms->R (some true) { s with heap:=h' }) :
  wpAny (model P w) A (do
   storeSet a e1 t1
   if(!wd&&t1.tooFull)=true then do
    g (Ij t1 e1<|qx e1.size).2.2
    storeSet a (Ij t1 e1<|qx e1.size).1 (Ij t1 e1<|qx e1.size).2.1
    pure (some true)
   else pure (some true)) R E s:=by
 refine δ<|Im ho hd ?_<|yt hb
 have sb1:=eh s.heap a<|Ol e1 t1;obtain⟨g1,S1⟩:=nQ ho hex hd hel hp hb hf L;split
 have p2:=relayAll_perm t1 e1<|qx e1.size
 have f2:=relayAll_fits t1 e1<|qx e1.size
 have L2:=Led.relayAll L.led L e1<|qx e1.size;revert p2 f2 L2;generalize Ij t1 e1 _=r;obtain⟨e2,t2,gv⟩:=r;intro p2 f2 L2
 have z2:e2.size=e1.size:=by rw[<-cz,p2.length_eq,cz]
 have b2:=z2 ▸ hb;refine δ<|hg _ _ _<|δ<|Im g1 rfl ?_<|yt b2;obtain⟨z,S2⟩:=nQ   g1 hex rfl (hel.perm p2) ((p2.map _).trans hp) b2 f2 L2;exact ν<|h _ (sb1.trans<|eh ..) S2;exact ν<|h _ sb1 S1
def nS{ms:Zu}(h:k∈ms):xu ms k=ms:=by
 unfold xu
 have e:(ms.any λx=>x==k)=true:=e_.mpr {k,h,beq_self_eq_true k};rw[if_pos e]
def nT{ms:Zu}{k:Int}(h:¬ k∈ms):xu ms k=ms++[k]:=by
 unfold xu;rw[if_neg λz=>?_];obtain⟨x,hx,q⟩:=e_.mp z;rw[beq_iff_eq]at q;exact h<|q ▸ hx
def Zz{ms:Zu}{Q:Bool->π->Prop}(hS:IntSet P w s.heap a ms)(hr:ms.length+1<xm)
    (h:∀ (b:Bool) h',gy a s.heap h'->IntSet P w h' a (xu ms k)->Q b { s with heap:=h' }):wpAny (model P w) A (setAddHashed a (.int k tk) ((me P w).hash k)) Q E s:=by
  have hk:(me P w).is k (.int k tk)=true:=Oj ..
  have hsc:(vq k tk).scannable=true:=rfl;generalize vq k tk=x at hk hsc;revert hS;apply u4;rintro o es ep t ⟨ho,hex,hd,hel,hp,hb,hf,L⟩
  have B9:es.size=ms.length:=by rw[<-hp.length_eq,ζ,cz]
  have hivx:iv x=k:=by obtain⟨_,z⟩:=uv hk;rw[z];rfl
  refine gb<|δ<|lh ho hd hf ?_;dsimp only;rw[byScan_of hsc hb hel];refine δ<|δ<|qw<|δ<|wpAny_setScan_of hk ho hd hf hel ?_;cases hx:es.toList.findIdx? (λe=>(me P w).is k _)with
  |some j =>
    obtain⟨hj,pj,_⟩:=List.findIdx?_eq_some_iff_getElem.mp hx;refine ν<|ν ?_;exact(h _ _ (yu a _) (x4 o es ep t {ho,hex,hd,hel,by rw[nS ((nK hel hp k).mpr {_,r_ hj,pj})];exact hp,hb,hf,L}))
  | none =>
    have hm:¬ k∈ms:=λz=>by
      obtain⟨e,he,q⟩:=(nK hel hp k).mp z
      have:=List.findIdx?_eq_none_iff.mp hx e he;rw[q]at this;cases this
    have p1:=layNew_perm t es ((me P w).hash k) x
    have f1:=layNew_fits t es ((me P w).hash k) x
    have L1:=L.layNew es ((me P w).hash k) x;revert p1 f1 L1;generalize layNew t es _ x=r;obtain⟨e1,t1,wd,gv⟩:=r;intro p1 f1 L1;dsimp only at p1 f1 L1 ⊢;rw[Il]at p1
    have hel1:=(hel.push hk hsc).perm p1
    have OM:rq (e1.toList.map λe=>iv e.2) (xu ms k):=by
      rw[nT hm];refine(p1.map _).trans ?_;rw[χ,ca,xg,hivx];exact List.Perm.append_right _ hp
    have hb1:e1.size<xm:=by
      rw[<-cz,p1.length_eq,ae,cz,B9];exact hr
    have gw:∀ (b:Bool) (s1:π) (R:Unit->π->Prop),R () s1 ->
        wpAny (model P w) A (match b with
          |true=>rule "set.scan.the-table-gave-way"
          |false=>pure ()) R E s1:=λb s1 R q=>by
      cases b
      ·exact ν q
      ·exact qw q
    refine δ<|gw _ _ _ ?_;split;refine δ ?_;rw[hashByValue_scannable 8 hsc];refine ν<|nR ?_ ho hex hd hel1 OM hb1 ?_ ?_ λh' sb S'=>?_;intro b s1 R q;cases b;exact ν q;exact qw q;split;exact f1;exact SetTable.fits_plain_off f1;split;exact L1;exact L1.plainOff;exact ν<|h _ h' sb S';refine nR ?_ ho hex hd hel1 OM hb1 f1 L1 λh' sb S'=>?_;intro b s1 R q;cases b;exact ν q;exact qw q;exact ν<|h _ h' sb S'
def IntSet.at(x:IntSet P w h a ms)(k:∀ o,h.get? a=some o->h'.get? a=some o):IntSet P w h' a ms:=by
 revert x;apply u4;rintro o es ep t ⟨ho,r⟩;exact x4 o es ep t {k _ ho,r}
end
section
variable{P:bv}{w:World}{A:dk}{R:Result->π->Prop}{I:Addr}{fp wr:Uu}{G:Array Gs->Array Gs->Prop}{n:Nat}{T:Nat->Value->Prop}{St:Nat->π->Prop}
def zaa(W:WalksS P w A.in1 I fp wr G n T St)(a:Addr)(ha:a∉fp)(val:Nat->Int)(hv:∀ i v,T i v->∃ t,v=.int (val i) t)(hb:n+1<xm):∀ (k i:Nat) (s:π),n-i=k->i<=n->St i s ->
  IntSet P w s.heap a (xv val i)->(∀ s',Moved (a::wr) G s s'->IntSet P w s'.heap a (xv val n)->R (.ok<|.ret .none) s') ->
  wf (model P w) A (.builtin "set.update.loop" {[.ref a,.ref I],[]}) R s:=by
 have up:∀ b∈wr,b∈a::wr:=λb q=>ω _ q
 have haw:=λz=>ha<|W.sub _ z;intro k
 induction k with
 |zero =>
  intro i s e1 e2 st S q;obtain rfl:i=n:=by lia
  exact jw sv<|δ<|W.done s _ _ st λs' m=>(ν<|q s' (m.mono up) (S.at λo e=>m.heap a o haw e))
 |succ k ih =>
  intro i s e1 e2 st S q
  have hi:i<n:=by omega
  refine jw sv ?_;refine δ<|W.item i s _ _ hi st λv s1 tv st1 m=>?_;obtain⟨t,rfl⟩:=hv i v tv
  show wpAny _ A.in1 (ux [vq (val i) t] (setAdd a<|.int (val i) t)>>=_) _ _ s1;refine δ<|gb ?_;refine gb (δ ((me P w).pyHash (k:=val i) (Oj ..) (Zz (s:={ s1 with toks:=s1.toks+1 }) (S.at λo e=>m.heap a o haw e) (by have:=xw val i;lia) λb h' sb S2=>?_)));rw[<-firstMet_succ]at S2;refine ν {tm Ef _,ih (i+1) _ (by omega) hi (W.frame _ s1 _ _ st1 (jq _) λb hb o e=>?_) S2 λs2 m2 S3=>?_};rw[sb.2 b λz:b=a=>ha<|z ▸ hb];exact e
  ·refine q s2 (Moved.trans W.gtrans ((m.mono up).then_heap (jq _) λb o hb e=>?_) m2) S3;rw[sb.2 b λz:b=a=>hb<|z ▸ ai];exact e
end
section
variable{P:bv}{w:World}{A:dk}{E:tV}{s:π}
def zab(h:Q (.ref s.heap.objs.size) { s with heap:=s.heap.push { cls:=.type "set",dict:=none,data:=.set #[] 0 (.fresh 0 0<|leads w) } }) :
  wf (model P w) A (.call (.builtin "set.__new__") {[.type "set",x],[]}) (wants Q E) s:=by
 refine codeAny_of_tree<|δ<|Cr (PySem.F.newCall_set_1 x) (ν {tm PySem.F.plain_set_new _,jw PySem.F.entry_set_new ?_})
 have e:=sub_set_self
 wp_walk
 refine mq<|ν ?_;exact δ<|wpAny_alloc<|ν<|ν h
end
end L2
namespace L2
open PySem PyProof.Rows
abbrev KA(f:Value)(i:Nat)(a:Addr)(n ep:Nat):Obj:={ cls:=.type "set_iterator",dict:=none,data:=.fields #[f,mn i,.ref a,mn n,mn ep],slots:= #[] }
def ID:Slot "set_iterator" "__next__" "set_iterator.__next__" :=
 .of (owner:="set_iterator") (n:="__next__") (by kernel_rfl) (by decide) (by decide) (by decide)
  (by first|exact .inl (by decide)|exact .inr (by decide))
  (by kernel_rfl)
def SV:entryFor table "set_iterator.__next__"=some xf.«set_iterator.__next__» :=entryFor_of_fast (by kernel_rfl)
def SW(a:Value):argsOk "set_iterator.__next__" {[a],[]}:=by
 kernel_rfl
def nU:Slot "set_iterator" "__iter__" "set_iterator.__iter__" :=
 .of (owner:="set_iterator") (n:="__iter__") (by kernel_rfl) (by decide) (by decide) (by decide)
  (by first|exact .inl (by decide)|exact .inr (by decide))
  (by kernel_rfl)
section
variable{P:bv}{w:World}{A:dk}{E:tV}{s:π}
def zac{it a:Addr}{sl i n ep nx:Nat}{x:Value}{o:Obj}{es:Array (Int × Value)}{ep':Nat}{t:SetTable}{Q:Option Value->π->Prop}(hit:s.heap.get? it=some (KA (mn sl) i a n ep))
  (ho:s.heap.get? a=some o) (hd:o.data=.set es ep' t) (hf:t.fits es.size=true) (hn:es.size=n)
  (hs:∀ (A':dk) (E':tV) (Q':Option (Value × Nat)->π->Prop),Q' (some (x,nx)) s->wpAny (model P w) A' (Io a sl i ep) Q' E' s)
  (q:∀ h',h'.get? it=some (KA (mn nx) (i+1) a n ep)->gy it s.heap h'->Q (some x) { s with heap:=h' }):wpAny (model P w) A (za<|.ref it) Q E s:=by
 have T:s.TypeIs (.ref it) _:=⟨_,hit,rfl⟩
 refine δ<|lu<|df  T ID (dg ID T SV (δ<|ν<|δ<|qy hit rfl<|δ<|mh ho hd hf ?_) (SW _));rw[if_neg (by rw[hn];simp)];exact δ (hs _ _ _ (δ (kj hit (by simp) λh1 g1 b1=>(δ (kj g1 (by simp) λh2 g2 b2=>(ν {_,rfl,ν<|q h2 g2<|b1.trans b2}))))))
def nX{Q:Except Value (Option Value)->π->Prop}(hh:A.handled=none)(hx:my it s.heap h1)
  (q:∀ h' e,my it s.heap h'->({ s with heap:=h' }:π).TypeIs e "StopIteration"->Q (.error e) { s with heap:=h' }) :
  wpAny (model P w) A (newExc (.type "StopIteration") []>>=raiseNew (α :=Fin)) (λz z=>False) (λe=>Q<|.error e) { s with heap:=h1 }:=by
 refine δ (δ (dh (δ  (Cr  (by first|rfl|(rfl)) (dh (δ<|Et ?_) (by size_fits)))) (by size_fits)));rw[hh];refine δ<|ν<|Me ?_;exact q _ _ ((hx.push _).push _) {_,aj _ rfl,rfl}
def zad{it a:Addr}{sl i n ep:Nat}{o:Obj}{es:Array (Int × Value)}{ep':Nat}{t:SetTable}{Q:Option Value->π->Prop}(hh:A.handled=none)(hit:s.heap.get? it=some (KA (mn sl) i a n ep))
  (ho:s.heap.get? a=some o) (hd:o.data=.set es ep' t) (hf:t.fits es.size=true) (hn:es.size=n)
  (hs:∀ (A':dk) (E':tV) (Q':Option (Value × Nat)->π->Prop),Q' none s->wpAny (model P w) A' (Io a sl i ep) Q' E' s)
  (q:∀ h',my it s.heap h'->Q none { s with heap:=h' }):wpAny (model P w) A (za<|.ref it) Q E s:=by
 have T:s.TypeIs (.ref it) _:=⟨_,hit,rfl⟩
 refine δ<|lu<|df  T ID (dg ID T SV (δ<|ν<|δ<|qy hit rfl<|δ<|mh ho hd hf ?_) (SW _));rw[if_neg (by rw[hn];simp)];refine δ (hs _ _ _ (δ (kj hit (by simp) λh1 g1 b1=>?_)));exact p_ (nX    (Q:=λr s'=>match r with
  |.error e=>wpAny _ A (isInstance e _>>=λb=>if b=true then pure _ else throw e) Q E s'
  |_=>False) (hh) b1.extBut λh' e hx te=>(δ<|kf   te xx (ν<|q _ hx))) (λ_ _ z=>z.elim) (λe s' z=>z)
def zae{it a tp:Addr}{i n ep pl:Nat}{ot:Obj}{ps:Array Value}{k:Nat}{x:Int × Value}{o:Obj}{es:Array (Int × Value)}{t:SetTable}{Q:Option Value->π->Prop}(hit:s.heap.get? it=some (KA (.ref tp) i a n ep))
  (ho:s.heap.get? a=some o) (hd:o.data=.set es ep t) (hf:t.fits es.size=true) (hn:es.size=n) (ht:s.heap.get? tp=some ot) (hdt:ot.data=.seq ps k) (hp:ps[i]? =some (mn pl)) (hx:es[pl]? =some x)
  (q:∀ h',h'.get? it=some (KA (.ref tp) (i+1) a n ep)->gy it s.heap h'->Q (some x.2) { s with heap:=h' }):wpAny (model P w) A (za<|.ref it) Q E s:=by
 have T:s.TypeIs (.ref it) _:=⟨_,hit,rfl⟩
 refine δ<|lu<|df  T ID (dg ID T SV (δ<|ν<|δ<|qy hit rfl<|δ<|mh ho hd hf ?_) (SW _));rw[if_neg (by rw[hn];simp)];refine δ<|Co ht hdt ?_;dsimp only;rw[az,hp]
 show wpAny _ _ (setNextDrawn a _ _>>=_) _ _ s;rw[az];refine δ<|δ<|lh ho hd hf ?_;dsimp only;rw[if_neg (by simp),hx];exact ν (δ (kj hit (by simp) λh2 g2 b2=>(ν {_,rfl,ν<|q h2 g2 b2})))
def zaf{ot:Obj}{o:Obj}{es:Array (Int × Value)}{t:SetTable}{Q:Option Value->π->Prop}(hh:A.handled=none)(hit:s.heap.get? it=some (KA (.ref tp) i a n ep))
  (ho:s.heap.get? a=some o) (hd:o.data=.set es ep t) (hf:t.fits es.size=true) (hn:es.size=n) (ht:s.heap.get? tp=some ot) (hdt:ot.data=.seq ps k) (hp:ps[i]? =none)
  (q:∀ h',my it s.heap h'->Q none { s with heap:=h' }):wpAny (model P w) A (za<|.ref it) Q E s:=by
 have T:s.TypeIs (.ref it) _:=⟨_,hit,rfl⟩
 refine δ<|lu<|df  T ID (dg ID T SV (δ<|ν<|δ<|qy hit rfl<|δ<|mh ho hd hf ?_) (SW _));rw[if_neg (by rw[hn];simp)];refine δ<|Co ht hdt ?_;dsimp only;rw[az,hp];refine δ (kj hit (by simp) λh1 g1 b1=>(δ (kj g1 (by simp) λh2 g2 b2=>?_)));exact p_ (nX (s:=s)   (Q:=λr s'=>match r with
  |.error e=>wpAny _ A (isInstance e _>>=λb=>if b=true then pure _ else throw e) Q E s'
  |_=>False) (hh) (b1.trans b2).extBut λh' e hx te=>(δ<|kf   te xx (ν<|q _ hx))) (λ_ _ z=>z.elim) (λe s' z=>z)
def zag(ft:w.params.followText "set-order"=true)(ho:s.heap.get? a=some o)(hd:o.data=.set es ep t)(hf:t.fits es.size=true)
  (q:Q (((Pi (w.params.setOrder a ep) es)[i]?).map λe=>(e.2,0)) s):wpAny (model P w) A (Io a 0 i ep) Q E s:=by
 refine δ<|lh ho hd hf<|δ<|δ<|mq<|ν ?_
 show wpAny _ _ (if w.params.followText _=true then _ else _) _ _ s;rw[if_pos ft,if_neg (by simp)];refine δ<|δ<|lh ho hd hf<|δ<|δ<|mq<|ν ?_
 show wpAny _ _ (if w.params.followText _=true then _ else _) _ _ s;rw[if_pos ft];exact δ<|mq<|ν<|ν q
def zah(ft:w.params.followText "set-order"=false)(ho:s.heap.get? a=some o)(hd:o.data=.set es ep t)(hf:t.fits es.size=true)
  (L:Led (leads w) t) (pl:(!t.plain&&decide (es.size > 1))=false) (hi:i<=es.size) (q:Q ((es[i]?).map λe=>(e.2,QI t.place<|i+1)) s):wpAny (model P w) A (Io a (QI t.place i) i ep) Q E s:=by
 have hz:t.place.size=es.size:=by
  unfold SetTable.fits at hf;simp only[cb,beq_iff_eq]at hf;exact hf.1
 refine δ<|lh ho hd hf<|δ<|δ<|mq<|ν ?_
 show wpAny _ _ (if w.params.followText _=true then _ else _) _ _ s
 have ld:t.led=true:=by rw[L.led];unfold leads;rw[ft];rfl
 rw[if_neg (show ¬ w.params.followText _=true by rw[ft];exact bc)]
 show wpAny _ _ (if(!t.plain&&decide _)=true then _ else _) _ _ s;rw[if_neg (by rw[pl];exact bc)];refine δ (m:=if(!t.led && !es.isEmpty)=true then _ else _) ?_;rw[if_neg (by rw[ld];simp)];refine ν<|ν ?_;rw[Zx L.rise (ψ hi<|bt hz.symm)];by_cases A0:i<es.size
 have h2:=hz ▸ A0;rw[eq _,eq h2];rw[eq A0]at q
 have:QI t.place (i+1)=t.place[i]+1:=by simp[QI,h2]
 rw[this]at q;exact q;rw[ve (cu A0)];rw[ve (cu A0)]at q;exact q
end
end L2
namespace L2
open PySem PyProof.Rows
def zai:entryFor table "set.__iter__"=some xf.«frozenset.__iter__» :=entryFor_alias (id':="frozenset.__iter__") (by kernel_rfl) rfl (by decide +kernel) (by kernel_rfl)
def zaj:entryFor table "set_iterator.__iter__"=some xf.«dict_keyiterator.__iter__» :=entryFor_alias (id':="dict_keyiterator.__iter__") (by kernel_rfl) rfl (by decide +kernel) (by kernel_rfl)
def zak(a:Value):argsOk "set_iterator.__iter__" {[a],[]}:=by
 kernel_rfl
structure X1(P:bv)(w:World)(A:dk)(h h1:Heap)(a I:Addr)(ms:Zu):Prop where
 ex:∃ (fp:Uu) (ord:Su) (ks:Zu) (St:Nat->Heap->Prop),(∀ b∈fp,b=a\/h.objs.size<=b)/\Walks P w A I fp [I] ord.length (λi v=>ord[i]? =some v) St/\St 0 h1/\uc ord ks/\ks.Perm ms
 new:h.objs.size<=I
section
variable{P:bv}{w:World}{A:dk}{E:tV}{s:π}
def X2:∀ {es:List (Int × Value)},Du (me P w) es->uc (es.map (·.2)) (es.map λe=>iv e.2)
 | [],_=>.nil
 |e::r,h=>by
  obtain⟨t,z⟩:=X0 h<|ai ..;rw[ca,z];exact .cons _ _<|X2 h.tail
def nY(hit:s.heap.get? it=some (KA f i a n ep))(q:Q (.ref it) s):wpAny (model P w) A (Bs<|.ref it) Q E s:=by
 have T:s.TypeIs (.ref it) _:=⟨_,hit,rfl⟩
 exact yv T nU<|dg nU T zaj (ν {_,rfl,x2 _ _ ⟨T,ID.lookup,q⟩}) (zak _)
def zal{es:Array (Int × Value)}{t:SetTable}{o:Obj}{f:Nat->Nat}{ord:Su}(hh:A.handled=none)(hne:a≠I)(hd:o.data=.set es ep t)(hf:t.fits es.size=true)(hl:ord.length=es.size)
  (nx:∀ (s:π),s.heap.get? a=some o->∀ (i:Nat),i<=es.size->∀ (A':dk) (E':tV) (Q':Option (Value × Nat)->π->Prop),Q' ((ord[i]?).map λv=>(v,f<|i+1)) s->wpAny (model P w) A' (Io a (f i) i ep) Q' E' s) :
  Walks P w A I [I,a] [I] ord.length (λi v=>ord[i]? =some v) (λi h=>h.get? I=some (KA (mn<|f i) i a es.size ep)/\h.get? a=some o) where
 sub:=λb hb=>by simp at hb;simp[hb]
 frame:=λj j j st k=>{k I (by simp) _ st.1,k a (by simp) _ st.2}
 item:=λi s Q E hi st q=>by
  have e:=θ hi;exact zac st.1 st.2 hd hf rfl (λA' E' Q' q'=>nx s st.2 i (by lia) A' E' Q' (by rw[e];exact q')) λh' g b=>(q _ h' _ e {g,b.extBut a _ hne st.2} λc u hc z=>b.extBut c u (λy=>hc (by simp[y])) z)
 done:=λs Q E st q=>zad hh st.1 st.2 hd hf rfl (λA' E' Q' q'=>nx s st.2 _ (bt hl) A' E' Q' (by rw[bq (υ _)];exact q')) λh' x=>(q h' _ λc u hc z=>x c u (λy=>hc (by simp[y])) z)
 self:=λj j j j st q=>nY st.1 q
def zam{es:Array (Int × Value)}{t:SetTable}{o ot:Obj}{pl:ad}{ord:Su}(hh:A.handled=none)(hne:a≠I)(hnt:tp≠I)(hd:o.data=.set es ep t)(hf:t.fits es.size=true)
  (hdt:ot.data=.seq (pl.map λ(i:Nat)=>mn i).toArray k) (hl:ord.length=pl.length) (hx:∀ (i p:Nat),pl[i]? =some p->∃ e:Int × Value,es[p]? =some e/\ord[i]? =some e.2) :
  Walks P w A I [I,a,tp] [I] ord.length (λi v=>ord[i]? =some v) (λi h=>h.get? I=some (KA (.ref tp) i a es.size ep)/\h.get? a=some o/\h.get? tp=some ot) where
 sub:=λb hb=>by simp at hb;simp[hb]
 frame:=λj j j st k=>{k I (by simp) _ st.1,k a (by simp) _ st.2.1,k tp (by simp) _ st.2.2}
 item:=λi s Q E hi st q=>by
  have e:=θ<|hl ▸ hi;obtain⟨x,e1,e2⟩:=hx i _ e;exact zae st.1 st.2.1 hd hf rfl st.2.2 hdt (by rw[Be,τ,e];rfl) e1 λh' g b=>(q _ h' _ e2 {g,b.extBut a _ hne st.2.1,b.extBut tp _ hnt st.2.2} λc u hc z=>b.extBut c u (λy=>hc (by simp[y])) z)
 done:=λs Q E st q=>zaf hh st.1 st.2.1 hd hf rfl st.2.2 hdt (by rw[Be,τ,bq<|bt hl.symm];rfl) λh' x=>(q h' _ λc u hc z=>x c u (λy=>hc (by simp[y])) z)
 self:=λj j j j st q=>nY st.1 q
def zan(hn:n≠0)(q:∀ i d,i<n->Q i { s with drawn:=d }):wpAny (model P w) A (choose .order n) Q E s:=fun Γ p hΓ =>{hn,(q _ _<|uo _<|nq hn)}
def oE{α :Type}:∀ (n:Nat) (xs:List α) (s:π) (Q:List α ->π->Prop),xs.length=n->(∀ ys d,rq ys xs->Q ys { s with drawn:=d })->wpAny (model P w) A (drawOrder n xs) Q E s
 |0,xs,s,Q,hn,q=>by
  have  :=fz.mp hn;subst this;exact ν<|q [] _ .nil
 |n+1,[],s,Q,hn,q=>by cases hn
 |n+1,x::r,s,Q,hn,q=>by
  refine δ (zan (by simp) λi d hi=>?_);rw[θ hi];refine δ (oE n _ _ _ (by rw[xt hi,hn];rfl) λys d' p=>(ν<|q _ d'<|(List.Perm.cons _ p).trans ?_));rw[ma];refine wa.symm.trans ?_;rw[<-sr hi,ku]
def zao{Q:tV}(hh:A.handled=none)(S:IntSet P w s.heap a ms)
    (q:∀ I h1 d1,(∀ b o,s.heap.get? b=some o->h1.get? b=some o)->X1 P w A s.heap h1 a I ms->Q (.ref I) { s with heap:=h1,drawn:=d1 }):wpAny (model P w) A (Bs<|.ref a) Q E s:=by
  revert S;apply u4;rintro o es ep t ⟨ho,hex,hd,hel,hp,hb,hf,L⟩
  have T:s.TypeIs (.ref a) _:=⟨o,ho,hex.1⟩
  have A0:=av ho;refine yv T PySem.F.slot_set_iter<|dg PySem.F.slot_set_iter T zai (δ<|ν<|δ<|δ<|mh ho hd hf<|ν<|δ<|δ<|lh ho hd hf<|δ<|δ<|mq<|ν<|ν ?_) (PySem.F.args_set_iter_1 _)
  have plain:∀ (f:Nat->Nat) (ord:List _),f 0=0->ord.length=es.size->(∃ ks,uc _ ks/\ks.Perm ms) ->
      (∀ (s:π),s.heap.get? a=some o->∀ (i:Nat),i<=es.size->∀ (A':dk) (E':tV) (Q':Option _->π->Prop),Q' ((ord[i]?).map _) s->wpAny _ A' (Io a (f i) i ep) Q' E' s) ->
      X1 P w A _ _ a _ ms:=λf ord f0 hl ⟨ks,hi,pk⟩ nx =>
    ⟨⟨_,_,ks,_,λb hb=>by
        simp only[ax,b_,or_false]at hb;rcases hb with rfl|rfl
        exact .inr<|υ _;exact .inl rfl,zal hh (bd A0) hd hf hl nx,{aj _ rfl,ξ _ ho},hi,pk⟩,υ _⟩
  have fin:∀ (W:X1 P w A _ _ a _ ms),
      wpAny (model P w) A.in1 (do
        let first ← (pure<|mn 0)
        ret (← newFields _ [first,mn 0,.ref a,mn es.size,mn<|← setEpoch a])) (λfin s'=>∃ v,fin=.done (.ret v)/\∃ T' r,s'.TypeIs v T'/\Od (.type T') _=pure (some r)/\Q v s') E s:=λW=>δ<|ν<|δ<|Ip ho hd hf<|δ<|dh<|ν {_,rfl,x2 _ _ {{_,aj _ rfl,rfl},ID.lookup,(q _ _ _ (λb u e=>ξ _ e) W)}}
  show wpAny _ _ (if(!w.params.followText _&&(!t.plain&&decide _))=true then _ else _) _ _ s;cases ft:w.params.followText _ with
  |true =>
    have pk:=Zy (w.params.setOrder a ep) es
    have hl:(Pi (w.params.setOrder a ep) es).size=es.size:=by rw[<-cz,pk.length_eq,cz]
    refine fin (plain (λj=>0) _ rfl (by rw[ζ,cz,hl]) {_,X2<|hel.perm pk,(pk.map _).trans hp} λs1 h1 i hi A' E' Q' q'=>(zag ft h1 hd hf ?_));rw[τ,gq,Cs]at q';exact q'
  | false =>
    cases pl:(!t.plain&&decide (es.size > 1))with
    |false =>
      refine fin (plain _ (es.toList.map (·.2)) rfl (by rw[ζ,cz]) {_,X2 hel,hp} λs1 h1 i hi A' E' Q' q'=>(zah ft h1 hd hf L pl hi ?_));rw[τ,gq,Cs]at q';exact q'
    | true =>
      rw[if_pos (by simp)];refine δ<|oE es.size (ο es.size) s _ (dw) λys d p=>?_
      have hy:ys.length=es.size:=by rw[p.length_eq,dw]
      have hys:∀ x∈ys,x<es.size:=λx hx=>ak.mp<|p.mem_iff.mp hx;refine δ (wpAny_newTuple ?_ (by rw[ζ,hy];exact yt hb));refine δ<|Ip (o:=o) (ξ _ ho) hd hf ?_;refine δ<|dh<|ν {_,rfl,x2 "set_iterator" _ {{_,aj _ rfl,rfl},ID.lookup,?_}};refine q _ _ d (λb u e=>ξ _<|ξ _ e) ⟨⟨_,ys.map λp=>(es[p]?.map (·.2)).getD .none,ys.map λp=>(es[p]?.map λe=>iv e.2).getD 0,_,λb hb=>?_,
        zam hh ?_ ?_ hd hf rfl (by rw[ζ]) λi p e=>?_,{aj _ rfl,ξ _<|ξ _ ho,ξ _<|aj _ rfl},?_,?_⟩,?_⟩
      · simp only[ax,b_,or_false]at hb
        rcases hb with rfl|rfl|rfl
        ·right;rw[qz];exact jq _
        ·exact .inl rfl
        ·exact .inr<|υ _
      ·rw[qz];exact bd<|jb A0
      ·rw[qz];exact bd<|fu _
      · have hp':p<es.size:=hys p (η e)
        exact{es[p],eq hp',by rw[τ,e];simp[hp']}
      · have all:∀ (l:ad),(∀ x∈l,x<es.size)->uc (l.map λp=>(es[p]?.map (·.2)).getD .none) (l.map λp=>(es[p]?.map λe=>iv e.2).getD 0):=by
          intro l
          induction l with
          |nil=>exact λj=>.nil
          |cons x r ih =>
            intro hl
            have hx:=hl x<|ai ..;obtain⟨tk,z⟩:=X0 hel (e:=es[x]) (by simp)
            have e1:(es[x]?.map (·.2)).getD ix=vq (iv es[x].2) tk:=by rw[eq hx];exact z
            have e2:(es[x]?.map λe=>iv e.2).getD 0=iv es[x].2:=by rw[eq hx];rfl
            rw[ca,ca,e1,e2];exact .cons _ _<|ih λy hy=>hl y<|ω _ hy
        exact all ys hys
      · refine(p.map _).trans (List.Perm.trans (List.Perm.of_eq ?_) hp)
        refine List.ext_getElem (by simp) λi h1 h2=>?_
        have hi:i<es.size:=by simpa using h1
        simp[hi]
      ·rw[qz];exact jq _
def zap(T:s.TypeIs (.ref a) "set")(q:Q false s):wpAny (model P w) A (xh<|.ref a) Q E s:=by
 refine δ<|ub T PySem.F.slot_set_len.lookup ?_;generalize hid:("set.__len__")=id0;subst hid;exact δ (kf  (b:=true) T (by rw[isSubtype_type];kernel_rfl) (wv (λz=>absurd z (by decide)) (λy=>(wv (λy=>(δ<|u_ T<|ν q)) (λz=>absurd (by decide) z)))))
def zaq(hh:A.handled=none)(S:IntSet P w s.heap a ms)(hn:ms.length<=sizeLine)
  (q:∀ h' tk d vs ks,(∀ b o,s.heap.get? b=some o->h'.get? b=some o)->s.heap.objs.size<=h'.objs.size->uc vs ks->ks.Perm ms->R vs { s with heap:=h',toks:=tk,drawn:=d }):wpAny (model P w) A (collect<|.ref a) R E s:=by
 have A0:=let ⟨_,_,_,_,ho,_⟩:=S;av ho
 refine δ<|Ct<|jw Cu ?_;refine δ<|dh<|ν {tm PySem.F.plain_list_iadd _,jw Kn ?_}
 show wpAny _ A.in1 (pq (.ref s.heap.objs.size) (.ref a) (.ref s.heap.objs.size)) _ _ _;generalize eN:s.heap.objs.size=N at A0 ⊢
 have gN:(s.heap.push { cls:=.type "list",data:=.seq ([]:Su).toArray }).get? N=some { cls:=.type "list",data:=.seq #[] }:=eN ▸ aj _ rfl
 have keep1:∀ b o,s.heap.get? b=some o->(s.heap.push { cls:=.type "list",data:=.seq ([]:Su).toArray }).get? b=some o:=λb o e=>ξ _ e
 have S1:=S.at λo e=>keep1 a o e
 have big:(s.heap.push { cls:=.type "list",data:=.seq ([]:Su).toArray }).objs.size=N+1:=by rw[qz,eN]
 revert gN keep1 S1 big;generalize s.heap.push { cls:=.type "list",data:=.seq ([]:Su).toArray }=h0;intro gN keep1 S1 big
 have T1:∀ h':Heap,(∀ b o,h0.get? b=some o->h'.get? b=some o)->∀ tk d,({ s with heap:=h',toks:=tk,drawn:=d }:π).TypeIs (.ref a) "set":=λh' k tk d=>by
  revert S1;apply u4;rintro o x x x ⟨ho,hex,x⟩;exact{o,k _ _ ho,hex.1}
 have ne:lw (.ref N) (.ref a)=false:=by
  simp only[lw,beq_eq_false_iff_ne];exact g_ A0
 refine δ<|u_ (T:="set") (T1 h0 (λx x e=>e) s.toks s.drawn) ?_
 have n1:(jt "set" == jt "list")=false:=by decide
 have n2:(jt "set" == jt "tuple")=false:=by decide
 simp only[ne,n1,n2,oq,uq,if_false];refine δ (zao (A:=A.in1) (s:={ s with heap:=h0 }) (by simpa using hh) S1 λI h1 d1 k1 W=>?_);obtain⟨⟨fp,ord,ks,St,hfp,W,st,hi,pk⟩,hI⟩:=W
 have B9:ord.length=ms.length:=by rw[C_ hi,pk.length_eq]
 have hI:=big ▸ hI;refine δ<|gb<|zap (T1 h1 k1 s.toks d1) ?_;refine δ<|qw<|δ ?_
 have g1:=k1 _ _ gN
 have g2:=c_ (gr (·.push ix)) g1 rfl;refine δ (uf (s:={ s with heap:=h1,drawn:=d1 }) g1 rfl (uf (hz:=by seq_fits) g2 rfl ?_))
 have oth:∀ b o,b≠N->h1.get? b=some o->((h1.update N (gr (·.push ix))).update N (gr (·.pop))).get? b=some o:=λb o hb e =>
  (ck _ _<|fj hb).trans ((ck _ _<|fj hb).trans e)
 have Nfp:N∉fp:=λz=>by
  rcases hfp N z with y|y
  ·exact g_ A0 y
  ·have y':h0.objs.size<=N:=y;rw[big]at y';exact absurd y'<|Nat.not_succ_le_self _
 refine ν {tm PySem.F.plain_extend_loop _,(De W.toS (by rw[B9];exact hn) N Nfp (.ref N) ord.length 0 _ #[] _ rfl (bu _) (W.frame 0 _ _ st λb hb o e=>oth b o (λz=>Nfp<|z ▸ hb) e) (c_ (gr (·.pop)) g2 rfl) (Qr _) λs' BO c m g4 hacc=>?_)};refine δ<|Nt g4 ?_;refine ν ?_
 have eacc:BO.toList=ord:=by
  refine yw λi=>?_;by_cases hlt':i<ord.length
  ·have h3:i<BO.size:=by rw[hacc.1];exact hlt'
   have:=hacc.2 i BO[i] (eq h3);rw[gq,eq h3,this]
  ·have e1:BO.toList[i]? =none:=bq (by rw[cz,hacc.1];exact cu hlt')
   have e2:ord[i]? =none:=bq<|cu hlt';rw[e1,e2]
 rw[eacc];obtain⟨h3,gn3,dr3,tk3,os3⟩:=s'
 have a1:gn3=s.gens:=m.gens
 have a2:dr3=d1:=m.drawn
 have a3:os3=s.os:=m.os;subst a1;subst a2;subst a3;refine q _ _ dr3 ord ks (λb o e=>?_) (by rw[eN];exact jz<|av g4) hi pk
 have hb:b<N:=eN ▸ av e;refine m.heap b o (λz=>?_) (oth b o (bd hb) (k1 _ _<|keep1 _ _ e));simp only[ax,b_,or_false]at z;rcases z with z|z
 ·exact bd hb z
 ·exact bd (aa (jb hb) hI) z
def zar(hh:A.handled=none)(S:IntSet P w s.heap a ms)(hn:ms.length<64)
  (q:∀ D h' tk d c out ks,(∀ b o,s.heap.get? b=some o->h'.get? b=some o)->s.heap.objs.size<=D->h'.get? D=some (seqObj "list" out c)->uc out.toList ks->ks.Perm ms->ks.Pairwise (· <=·)->Q (.ref D) { s with heap:=h',toks:=tk,drawn:=d }) :
  wpAny (model P w) A (call (.builtin "sorted") [.ref a]) Q E s:=by
 refine ye kind_sorted plain_sorted entry_sorted (args_sorted1 _) (δ  (ν<|δ<|zaq  (hh) S (oB hn rfl) λh1 tk d vs ks k1 size_le hi pk=>?_))
 have hl:vs.length<64:=by rw[C_ hi,pk.length_eq];exact hn
 have g:(h1.push _).get? _=some (seqObj "list" vs.toArray 0):=aj _ rfl;refine δ<|wpAny_newList (δ<|gb<|dg slot_list_sort ⟨_,g,rfl⟩ entry_list_sort (list_sort_tree g hi hl λout ks' i1 p1 r1=>{_,rfl,?_}) (args_list_sort _)) (oB hl rfl);obtain⟨c,gc⟩:=sortedHeap_at   g;refine ν {_,rfl,q _ _ tk d c _ _ (λb o e=>?_) size_le gc i1 (p1.trans pk) r1}
 have hb:=av<|k1 _ _ e;rw[sortedHeap_old (bd hb) (by rw[qz];exact jb hb)];exact ξ _<|k1 _ _ e
end
end L2
namespace L2
open PySem PyProof.Rows
section
variable{P:bv}{w:World}{A:dk}{E:tV}{s:π}
def zas(hh:A.handled=none)(hl:s.heap.IsList l AJ)(hi:uc AJ.toList ns)(hb:AJ.size+1<xm)
  (q:∀ h' tk,IntSet P w h' s.heap.objs.size (xv (λi=>ns.getD i 0) AJ.size)->(∀ b o,s.heap.get? b=some o->h'.get? b=some o)->Q (.ref s.heap.objs.size) { s with heap:=h',toks:=tk }) :
  wpAny (model P w) A (call (.type "set") [.ref l]) Q E s:=by
 refine u2 ?_ PySem.F.called_set.mro;rintro c tl mro
 have made:=PySem.F.called_set.made
 have sub:=PySem.F.called_set.sub;refine Oa<|codeAny_of_tree ?_
 show wpAny _ _ (callAny (.type "set") _) _ _ _;refine ν {Code.quiet_builtin _ (by decide +kernel),jw PySem.F.entry_type_call ?_};rw[Around.under_plain (weight_type_call_type "set" [.ref l] []) rfl]
 have n1:=PySem.F.called_set.notType
 have n2:=PySem.F.called_set.canCreate
 have n3:=PySem.F.typeCall_set_1<|.ref l
 repeat (any_goals (first|assumption|wp_step))
 generalize eS:({ cls:=.type "set",dict:=none,data:=.set #[] 0 (.fresh 0 0<|leads w) }:Obj)=oS;refine k_ (zab (E:=E) (Q:=λx s1=>x=.ref s.heap.objs.size/\s1={ s with heap:=s.heap.push oS }) {rfl,by rw[<-eS]}) λr s1 hr=>?_;cases r with
 |error e=>exact hr
 | ok fl =>
  cases fl with
  | ret x =>
   obtain⟨rfl,rfl⟩:=hr
   have g0:(s.heap.push oS).get? s.heap.objs.size=some oS:=aj _ (by rw[<-eS];rfl)
   have T0:Shared.TypeIs { s with heap:=s.heap.push oS } (.ref s.heap.objs.size) "set":={_,g0,by rw[<-eS]}
   have i1:=PySem.F.called_set.init.lookup
   have i2:=PySem.F.called_set.init.bind<|.ref s.heap.objs.size
   repeat (any_goals (first|assumption|wp_step))
   refine k_ (codeAny_call_builtin (R:=wants (λr s2=>r=.none/\∃ h' tk,s2={ s with heap:=h',toks:=tk }/\IntSet P w h' s.heap.objs.size (xv (λi=>ns.getD i 0) AJ.size) /\
    (∀ b o,s.heap.get? b=some o->h'.get? b=some o)) E) PySem.F.called_set.init.plain PySem.F.entry_set_init (check_set_init_1 T0 ?_)) λr2 s2 R7=>?_
   ·obtain⟨ol,gl,cl,nl,dl⟩:=hl;obtain⟨c1,d1,dt1,sl1⟩:=ol;simp only at cl dl;subst cl;subst dl
    have gl':=ξ oS gl
    have e1:=PySem.F.sub_list_set
    have e2:=PySem.F.sub_list_frozenset
    have e3:(jt "list" == jt "dict")=false:=by decide
    have DN:(s.heap.push oS).IsList l AJ:=⟨_,gl',rfl,nl,rfl⟩
    have A0:l<s.heap.objs.size:=av gl
    have big:=qz s.heap oS;revert gl' DN g0 T0 big
    have keep0:∀ b o,s.heap.get? b=some o->(s.heap.push oS).get? b=some o:=λb o e=>ξ _ e;revert keep0;generalize s.heap.push oS=h0;intro keep0 g0 T0 gl' DN big;subst eS;unfold xf.«set.__init__» noKeywords Mo;generalize hPI:Bs=PI
    wp_walk
    subst hPI;refine yq DN ?_;refine δ<|Ct ?_
    have hh3:A.in1.in1.in1.handled=none:=by simp[hh]
    have ne1:l≠h0.objs.size:=bd (by rw[big];exact jb A0)
    have nin:s.heap.objs.size∉[h0.objs.size,l]:=by
     simp only[ax,b_,or_false,not_or];exact{bd (by rw[big];exact fu _),g_ A0}
    refine zaa ((Ra hh3 _ l ne1 AJ).toS) s.heap.objs.size nin (λi=>ns.getD i 0) (λi v e=>IntsAre.int_at hi i v (by rw[gq];exact e)) hb (AJ.size-0) 0 _ (by omega) (bu _)
     {{_,aj _ rfl,rfl,rfl},DN.push _} (x4 _ (#[]) 0 _ {ξ _ g0,⟨rfl,rfl,rfl⟩,rfl,λe he=>by simp at he,by exact .nil,by decide,by rfl,Led.fresh _}) λs3 m S3=>?_
    obtain⟨h3,g3,d3,tk3,os3⟩:=s3
    have a1:g3=s.gens:=m.gens
    have a2:d3=s.drawn:=m.drawn
    have a3:os3=s.os:=m.os;subst a1;subst a2;subst a3
    show wpAny _ _ _ _ _ _;refine ν ?_
    show wpAny _ _ (ret ix) _ _ _;refine ν {rfl,x2 h3 tk3 {rfl,S3,λb o e=>?_}}
    have hb:=av e;refine m.heap b o ?_<|ξ _<|keep0 _ _ e;simp only[ax,b_,or_false,not_or];exact{bd hb,bd (by rw[big];exact jb hb)}
   ·cases r2 with
    |error e=>exact R7
    |ok fl2 =>
     cases fl2 with
     |ret r =>
      obtain⟨rfl,h',tk,rfl,S',k'⟩:=R7
      repeat (any_goals (first|assumption|wp_step))
      exact q _ _ S' k'
     |_=>exact R7.elim
  |_=>exact hr.elim
end
end L2
namespace L2
section
variable{X:Cx}
def Inv.drawn(I:Inv X AA σ H s)(d):Inv X AA σ H { s with drawn:=d } :=
 { ok:=I.ok,os:=I.os,bare:=I.bare,base:=I.base,loc:=I.loc,cell:=I.cell,free:=I.free,freeC:=I.freeC,pin:=I.pin,hok:=I.hok,len:=I.len }
def X3:∀ {ns:Zu} {us:Su},Vals (ns.map V.int) us->uc us ns
 | [],_,.nil=>.nil
 |n::r,_,.cons h t=>by
  obtain⟨tk,rfl⟩:=h;exact .cons _ _<|X3 t
abbrev oF(X:Cx)(a:Addr)(ms:Zu):HO:=.ext λh=>IntSet X.prog X.w h a ms
def zat(hc:X.calm=true):DT X (.type "set") (λxs H Q=>∃ (p:Addr) (ns:Zu),xs=[.ref p]/\SqL X.K H p (ns.map V.int)/\ns.length<=1000 ∧
  ∀ (a:Addr),H a=none->Q (.ref a) (upd H a<|oF X a<|xv (λi=>ns.getD i 0) ns.length)):=by
 intro AA s σ H xs us Q I r h;revert h;apply u2;rintro p ns ⟨rfl,hq,hn,q⟩;obtain⟨u,rfl,rfl⟩:=FT r;obtain⟨AJ,r',pl,hz⟩:=I.list hq
 have hi:=X3 r'
 have B9:=C_ hi
 have hz2:AJ.toArray.size=ns.length:=by rw[ay,B9]
 refine zas (I.ok.hd hc) pl.isList hi (by rw[ay,B9];exact cr (zn hn) (by decide)) λh' tk S k=>?_;rw[hz2]at S;refine x2 (.ref _) _ {I.laid k (υ _) ?_,rfl,q _<|I.hok.fresh<|υ _};exact{S,⟨_,S.choose_spec.choose_spec.choose_spec.choose_spec.1⟩,λh1 h2 z e=>z.at e}
def zau(hc:X.calm=true):DT X (.builtin "sorted") (λxs H Q=>∃ (a:Addr) (ms:Zu),xs=[.ref a]/\H a=some (oF X a ms)/\ms.length<64 ∧
  ∀ (D:Addr) (ks:Zu),H D=none->rq ks ms->ks.Pairwise (· <=·)->Q (.ref D) (upd H D<|.lst<|ks.map V.int)):=by
 intro AA s σ H xs us Q I r h;revert h;apply u2;rintro a ms ⟨rfl,ha,hn,q⟩;obtain⟨S,z,z⟩:=I.hok a _ ha;obtain⟨u,rfl,rfl⟩:=FT r;refine zar (I.ok.hd hc) S hn λD h' tk d c out ks k hD g hi pk hr=>(x2 (.ref D) _ {(I.laid  k hD ?_).drawn d,rfl,q D ks (I.hok.fresh hD) pk hr})
 exact{by rw[ζ];exact oB (by rw[pk.length_eq];exact hn) rfl,x2 _ c {XD hi,g}}
def zav(val:Nat->Int)(n:Nat)(x:Int):x∈xv val n↔∃ i,i<n/\val i=x:=by
 have h:=firstMet_any val n x;rw[oa,e_,e_]at h;constructor;intro hx;obtain⟨y,hy,e⟩:=h.mp {x,hx,beq_self_eq_true x};obtain⟨i,hi,rfl⟩:=af.mp hy;exact{i,ak.mp hi,eq_of_beq e};rintro ⟨i,hi,rfl⟩;obtain⟨y,hy,e⟩:=h.mpr {_,af.mpr {i,ak.mpr hi,rfl},beq_self_eq_true _};exact eq_of_beq e ▸ hy
def X4(val:Nat->Int):∀ n,(xv val n).Nodup
 |0=>mj
 |n+1=>by
  rw[firstMet_succ];by_cases h:val n∈xv val n;rw[nS h];exact X4 _ n;rw[nT h];exact gi.mpr {X4 _ n,by simp,λa ha b hb e=>by rw[ρ]at hb;subst hb e;exact h ha}
def oI:∀ {l:Zu},l.Pairwise (· <=·)->l.Nodup->l.Pairwise (· <·)
 | [],_,_=>.nil
 |x::r,h,n=>by
  obtain⟨n1,n2⟩:=fq.mp n;obtain⟨h1,h2⟩:=ki.mp h;refine ki.mpr {λy hy=>?_,oI h2 n2}
  have:=h1 y hy
  have:x≠y:=λz=>n1<|z ▸ hy
  lia
def SY(K:μ)(te:TE):TE:=λσ H Q=>te σ H λx H1=>∃ (p:Addr) (ns:Zu),x=.ref p/\SqL K H1 p (ns.map V.int)/\ns.length<64 /\
 ∀ (a:Addr) (o:HO) (D:Addr) (ks:Zu),H1 a=none->upd H1 a o D=none->ks.Pairwise (· <·)->(∀ x,x∈ks↔x∈ns)->ks.length<=ns.length->Q (.ref D) (upd (upd H1 a o) D (.lst<|ks.map V.int))
def clo(te:TE):TE:=λσ H Q=>∃ C:VK,te σ H C/\∀ x H1,C x H1->Q x H1
def PE.clo(h:PE X e te):PE X e (clo te):=(by rintro AA s σ H Q I ⟨C,q,m⟩;exact AO (h _ s σ H C I q) (by rintro v s' ⟨x,H1,I1,r1,q1⟩;exact x2 x H1 {I1,r1,m _ _ q1}))
def zaw(hc:X.calm=true)(g1:Gl X "sorted")(m1:X.mg "sorted"=none)(g2:Gl X "set")(m2:X.mg "set"=none)(h:PE X e te)
  (he:a_ [e] X.env=[(false,eval e X.env)]:=by rfl) :
  PE X (.Call (.Name "sorted" p1) [.Call (.Name "set" p2) [e] [] p3] [] p4) (SY X.K te):=λAA s σ H Q I q=>by
 refine(KZ (zau hc) g1 m1 (rfl) (MA (O8 (zat hc) g2 m2 (rfl) (MA h.clo SK he) (he:=he)) SK)) _ s σ H Q I ({_,q,λx H1 hzz=>?_});obtain⟨p,ns,rfl,hq,hn,q1⟩:=hzz;refine x2 p ns {rfl,hq,oB hn rfl,λa ha=>x2 a _ {rfl,AE,(cr (xw ..) hn),λD ks hD pk hr=>?_}};refine q1 a _ D ks ha hD (oI hr<|pk.nodup_iff.mpr<|X4 (λi=>ns.getD i 0) _) (λx=>?_) (by rw[pk.length_eq];exact xw ..);rw[pk.mem_iff,zav];refine{λhzz=>?_,λhx=>?_};obtain⟨i,hi,e⟩:=hzz;rw[<-e];simp[hi];obtain⟨i,hi,e⟩:=jy hx;exact{i,hi,by simp[hi,e]}
end
def oJ(K:μ)(a:Addr)(n:Nat):It :=
 {λi H=>i<n/\∃ xs,SqL K H a xs/\xs.length=n,λi H x H'=>H'=H/\∀ xs,SqL K H a xs->xs[n-1-i]? =some x,λi _=>n<=i}
def oM(K:μ)(ta:TA):TI:=λσ H R=>ta σ H λvs H1=>∃ a xs,vs=[.ref a]/\SqL K H1 a xs/\R (oJ K a xs.length) H1
section
variable{X:Cx}{tg:Expr}
def QJ(K:μ):Tr->Hp->VK->Prop:=λxs H Q=>∃ (p:Addr) (kvs:tZ),xs=[.ref p]/\H p=some (.dK kvs)/\∀ l,H l=none->Q (.ref l) (upd H l<|.dK kvs)
def zax:DT X (.type "dict") (QJ X.K):=by
 intro AA s σ H xs us Q I r h;revert h;apply u2;rintro p kvs ⟨rfl,hp,q⟩;obtain⟨u,rfl,rfl⟩:=FT r;exact Sy I (.inl hp) λl s' hl I'=>x2 (.ref l) _ {I',rfl,q l hl}
def zay{K:μ}{p:Addr}{H:Hp}{Q:VK}:QJ K [.ref p] H Q=∃ kvs,H p=some (.dK kvs)/\∀ l,H l=none->Q (.ref l) (upd H l<|.dK kvs):=by simp[QJ]
end
def zaz{K:μ}{as:TA}{g:TG}{s1:TS}{D:Ends}{σ:St}{H:Hp}:DG (oM K as) g s1 D σ H=(as σ H λvs H1=>∃ a xs,vs=[.ref a]/\SqL K H1 a xs/\GR (oJ K a xs.length) g s1 D σ H1):=rfl
section
variable{K:μ}{tt:TT}{AY:ad}{σ:St}{H:Hp}{Q:VK}
end
section
variable{K:μ}{td ty tv te:TE}{D:Ends}{σ:St}{H:Hp}{Q:VK}{QB:tX}
def za0:HZ σ H Q=(∀ p,H p=none->Q (.ref p) (upd H p<|.dK [])):=rfl
def za1:P7 σ H Q=(∀ p,H p=none->Q (.ref p) (upd H p<|.dT [])):=rfl
def za2:SY K te σ H Q=(te σ H λx H1=>∃ (p:Addr) (ns:Zu),x=.ref p/\SqL K H1 p (ns.map V.int)/\ns.length<64 /\
 ∀ (a:Addr) (o:HO) (D:Addr) (ks:Zu),H1 a=none->upd H1 a o D=none->ks.Pairwise (· <·)->(∀ x,x∈ks↔x∈ns)->ks.length<=ns.length->Q (.ref D) (upd (upd H1 a o) D (.lst<|ks.map V.int))):=rfl
variable{a b:Addr}{i j:Int}{z:Str}{kvs:tZ}{kvt:RJ}{v:V}
def dI(e:H a=some (.dK kvs)):DGet H a (.int i) (BF kvs<|.inl i):=DGet.k (k:=.inl i) e
def dS(e:H a=some (.dK kvs)):DGet H a (.str z) (BF kvs<|.inr z):=DGet.k (k:=.inr z) e
def dT2(e:H a=some (.dT kvt))(eb:H b=some (.tup [.int i,.int j])):DGet H a (.ref b) (BF kvt [.inl i,.inl j]):=DGet.t  e eb
def QK(e:H a=some (.dK kvs))(h:BF kvs (.inl i)=some v):DGet H a (.int i) (some v):=h ▸ dI e
def LB(e:H a=some (.dK kvs))(h:BF kvs (.inr z)=some v):DGet H a (.str z) (some v):=h ▸ dS e
def pI(e:H a=some (.dK kvs))(hl:kvs.length<100000):DPut H a (.int i) v (upd H a<|.dK<|B0 kvs (.inl i) v):=DPut.k (k:=.inl i) e (aa hl (by decide))
def pS(e:H a=some (.dK kvs))(hl:kvs.length<100000):DPut H a (.str z) v (upd H a<|.dK<|B0 kvs (.inr z) v):=DPut.k (k:=.inr z) e (aa hl (by decide))
def pT2(e:H a=some (.dT kvt))(eb:H b=some (.tup [.int i,.int j]))(hl:kvt.length<100000):DPut H a (.ref b) v (upd H a<|.dT<|B0 kvt [.inl i,.inl j] v):=DPut.t  e eb (aa hl (by decide))
end
section
variable{X:Cx}
abbrev MH(K:μ):R2:=PK K false
abbrev oN(K:μ):R2:=PK K true
def oO(hu:X.A.units+64<cLine):BT X (dt .In) (MH X.K):=Qw
def za5(hu:X.A.units+64<cLine):BT X (dt .NotIn) (oN X.K):=Qx
end
def SqT.same{K:μ}{H H':Hp}{a:Addr}{xs:Tr}(e:Same H H')(h:SqT K H a xs):SqT K H' a xs:=by
 rcases h with(h|⟨o,h⟩)|h
 exact .inl<|.inl<|e _ _ h;exact .inl<|.inr {o,e _ _ h};exact .inr h
mutual
def Rep.same{K:μ}{H H':Hp}(s:Same H H'):∀ {v:V} {d:vz},Rep K H v d->Rep K H' v d
 |_,_,.non=>.non
 |_,_,.bl b=>.bl b
 |_,_,.int i=>.int i
 |_,_,.str x=>.str x
 |_,_,.lst h r=>.lst (s.seq h) (RepAll.same s r)
 |_,_,.tup h r=>.tup (SqT.same s h) (RepAll.same s r)
def RepAll.same{K:μ}{H H':Hp}(s:Same H H'):∀ {vs:Tr} {ds:List vz},RepAll K H vs ds->RepAll K H' vs ds
 |_,_,.nil=>.nil
 |_,_,.cons h r=>.cons (Rep.same s h) (RepAll.same s r)
end
def Dat(K:μ)(H:Hp)(n:Nat)(v:V)(d:vz):Prop:=Rep K H v d/\d.canLay0=true/\d.depth<=n
section
variable{K:μ}{H:Hp}{n:Nat}{Q:VK}
def Dat.int(i:Int):Dat K H n (.int i) (.int i):={.int i,rfl,bu _}
def Dat.non:Dat K H n .non .none:={.non,rfl,bu _}
def X5:∀ {xs:Tr} {ds:List vz},Paired (Dat K H n) xs ds->RepAll K H xs ds/\Iq ds=true/\PyData.depthAll ds<=n
 |_,_,.nil=>{.nil,rfl,bu _}
 |_,_,.cons h t=>by
  obtain⟨a1,a2,a3⟩:=X5 t;refine{.cons h.1 a1,(by simp[Iq,h.2.1,a2]),(Nat.max_le.mpr ⟨h.2.2,a3⟩)}
def Dat.lst(h:SqL K H p xs)(hs:Paired (Dat K H n) xs ds):Dat K H (n+1) (.ref p) (.list ds):=by
 obtain⟨a1,a2,a3⟩:=X5 hs;exact{.lst h a1,a2,by simpa [Qf]using a3}
def Dat.tup(h:SqT K H p xs)(hs:Paired (Dat K H n) xs ds):Dat K H (n+1) (.ref p) (.tuple ds):=by
 obtain⟨a1,a2,a3⟩:=X5 hs;exact{.tup h a1,a2,by simpa [Qf]using a3}
def Dat.shp(h:Dat K H n v d)(hn:n<=64):shp d:=by
 unfold L2.shp PySem.SeqAt.shaped;rw[h.2.1];simpa using ψ h.2.2 hn
def za6(hn:n<=64)(h1:Dat K H n (.ref p) d)(h2:Dat K H n (.ref q) d)(hq:Q (.bl true) H):K8 K (.ref p) (.ref q) H Q:=by
 refine y2 {h1.1,h2.1,h1.shp hn,h1.shp hn,?_};rw[m7 (h1.shp hn)];exact hq
def za7(hn:n<=64)(h1:Dat K H n (.ref p) d)(h2:Dat K H n (.ref q) d)(hq:Q (.bl false) H):K9 K (.ref p) (.ref q) H Q:=by
 refine y2 {h1.1,h2.1,h1.shp hn,h1.shp hn,?_};rw[m7 (h1.shp hn)];exact hq
end
section
variable{prog:bv}{w:World}{A:dk}{E:tV}{s:π}{d it:Addr}{od:Obj}{es:Array xn}{ep i:Nat}
def oP(hd:(d==ia)=false)(ho:s.heap.get? d=some od)(hx:od.ExactDict)(hdat:od.data=.dict es ep)
  (hQ:Q (.ref s.heap.objs.size) { s with heap:=s.heap.push { cls:=.type "dict_keyiterator",data:=.fields #[.ref d,.int 0 0,.int es.size 0,.int ep 0] } }) :
  wpAny (model prog w) A (Bs<|.ref d) Q E s:=by
 have hT:s.TypeIs (.ref d) _:=⟨od,ho,hx.1⟩
 refine yv hT zp<|dg zp hT F.entry_dict_iter (δ<|δ<|Bf hT<|ν ?_) (F.args_dict_iter_1 _)
 show wpAny _ _ (vm d>>=_) _ _ s;unfold vm;rw[if_neg (by rw[hd];exact bc)];refine δ<|ν<|δ<|jc ho hdat<|δ<|ug ho hdat<|δ<|dh<|ν {_,rfl,_,_,{_,aj _ rfl,rfl},io.lookup,?_};exact hQ
def za8(hit:s.heap.IsKeyIter it d i es.size ep)(hod:s.heap.get? d=some od)(hdd:od.data=.dict es ep)(he:es[i]? =some e)
  (hQ:∀ h',h'.IsKeyIter it d (i+1) es.size ep->gy it s.heap h'->Q (some e.key) { s with heap:=h' }) :
  wpAny (model prog w) A (za<|.ref it) Q E s:=by
 obtain⟨o,ho,hc,hd⟩:=id hit;refine δ (lu (df  hit.typeIs io
  (dg io hit.typeIs wn (δ<|ν<|δ<|δ ?_) (wb _))))
 first|refine δ (js hit.typeIs<|ν ?_)|refine δ<|lx _<|ν ?_
 refine δ<|qy ho hd ?_
 show wpAny _ _ _ _ _ s;refine δ<|ν<|δ<|jc hod hdd ?_;rw[if_neg (by simp)];refine δ<|ν<|δ<|ug hod hdd ?_;rw[if_neg (by simp)];refine ν ?_;simp only[az,he];refine δ ?_
 first|refine δ (js hit.typeIs<|ν ?_)|refine δ<|lx _<|ν ?_
 refine δ<|Bi hit.typeIs ?_
 show wpAny _ _ (setField _ 1 _>>=_) _ _ s;refine δ (mo ho hd (by simp) ?_)
 have hit':(s.heap.update it (wk (·.setIfInBounds 1 (mn<|i+1)))).IsKeyIter it d (i+1) es.size ep :=
  {_,c_ _ ho<|pd<|ip hd _,(Ht ..).trans hc,by rw[ip hd];simp[mn]}
 refine δ<|gb<|δ<|Bi  hit'.typeIs ?_;exact ν<|ν {_,rfl,ν<|hQ _ hit'<|eh ..}
def za9(hh:A.handled=none)(hit:s.heap.IsKeyIter it d i es.size ep)(hod:s.heap.get? d=some od)(hdd:od.data=.dict es ep)(hge:es.size<=i)
  (hQ:∀ h',my it s.heap h'->Q none { s with heap:=h' }):wpAny (model prog w) A (za<|.ref it) Q E s:=by
 obtain⟨o,ho,hc,hd⟩:=id hit;refine δ (lu (df  hit.typeIs io
  (dg io hit.typeIs wn (δ<|ν<|δ<|δ ?_) (wb _))))
 first|refine δ (js hit.typeIs<|ν ?_)|refine δ<|lx _<|ν ?_
 refine δ<|qy ho hd ?_
 show wpAny _ _ _ _ _ s;refine δ<|ν<|δ<|jc hod hdd ?_;rw[if_neg (by simp)];refine δ<|ν<|δ<|ug hod hdd ?_;rw[if_neg (by simp)];refine ν ?_;simp only[az,ve hge];refine δ ?_
 first|refine δ (js hit.typeIs<|ν ?_)|refine δ<|lx _<|ν ?_
 show wpAny _ _ (setField _ 0 _>>=_) _ _ s;refine δ (mo ho hd (by simp) ?_);refine δ ?_;refine δ (dh (δ  (Cr  (by first|rfl|(rfl)) (dh ?_ (by size_fits)))) (by size_fits));refine δ<|Et ?_;rw[hh];refine δ<|ν<|Me ?_;exact δ<|kf   {_,aj _ rfl,rfl} xx (ν<|hQ _<|((eh ..).extBut.push _).push _)
end
def SZ:∀ {ys:Xu} {us:Su},Vals (ys.map V.str) us->Qi us ys
 | [],_,.nil=>.nil
 |y::r,_,.cons h t=>by
  obtain⟨tk,rfl⟩:=h;exact .cons _ _<|SZ t
section
variable{X:Cx}
def X6(K:μ):V->Tr->Hp->VK->Prop:=λx vs H Q=>∃ (z:Str) (p:Addr) (ys:Xu),x=.str z/\vs=[.ref p]/\SqL K H p (ys.map V.str)/\z.length<=16/\(ys.map (·.length)).sum+ys.length<=1048576/\Q (.str<|Txt.join z ys) H
def zba:lG X "str.join" (X6 X.K):=by
 intro AA s σ H x vs v us Q I rx rv h;revert h;apply u3;rintro z p ys ⟨rfl,rfl,hp,hz,hw,q⟩;obtain⟨u,rfl,rfl⟩:=rv.one;obtain⟨t,rfl⟩:=rx;obtain⟨AJ,r,pl,hz'⟩:=I.list hp;exact join_listW pl.isList (SZ r) hz hw λt' k=>x2 (.str _) H {I.tok k,⟨t',rfl⟩,q}
def oQ(K:μ):Tr->Hp->VK->Prop:=λxs H Q=>∃ (p:Addr) (ns:Zu),xs=[.ref p]/\SqL K H p (ns.map V.int)/\Q (.int ns.sum) H
def zbb(hc:X.calm=true):DT X (.builtin "sum") (oQ X.K):=by
 intro AA s σ H xs us Q I r h;revert h;apply u2;rintro p ns ⟨rfl,hp,q⟩;obtain⟨u,rfl,ru⟩:=FT r;cases ru;obtain⟨AJ,rv,pl,hz⟩:=I.list hp
 have hi:=X3 rv;obtain⟨zs,e⟩:=hi.allInts.items
 have hns:ns=zs.toList.map (·.1):=by rw[<-hi.numsOf,<-nums_intItems,<-e]
 have hl:=pl.isList;rw[e]at hl;refine sum_intListG (I.ok.hd hc) hl λh' tk t' hk=>x2 (.int _) H {I.kept  hk,⟨t',rfl⟩,?_}
 have e2:preSum (numAt zs) zs.size=ns.sum:=by
  rw[preSum_eq,jd (by simp),hns]
 rw[e2];exact q
end
section
variable{K:μ}{tt:TT}{te:TE}{AY:ad}{σ:St}{H:Hp}{Q:VK}
end
section
variable{X:Cx}{tg:Expr}
end
section
variable{K:μ}{tt:TT}{AY:ad}{σ:St}{H:Hp}{Q:VK}
end
def X7(n i:Nat)(P:Prop):Prop:=∃ m',m'<n-i/\m'=n-(i+1)/\i+1<=n/\P
def cnx(h:i<n)(p:P):X7 n i P:={_,cq ‹_›,rfl,h,p}
def oR{K:μ}{g:TG}{tt:TT}{te:TE}{k:Nat}{AY:ad}{σ:St}{H:Hp}{Q:VK}{b:Addr}{xs:Tr}(hn:xs.length<=sizeLine)(Pv:Nat->St->Tr->Hp->Prop)(h0:Pv 0 (K7 k AY σ) [] H)(hq:∀ i σ' ys H,Pv i σ' ys H->SqL K H b xs/\ys.length<=i)
  (hs:∀ i x σ' ys H,i<xs.length->xs[i]? =some x->Pv i σ' ys H->g x σ' H λσ2 H2=>tt σ2 H2 λc H3=>if c=true then ∃ N:VK,(∀ y H4,N y H4->X7 xs.length i (Pv (i+1) σ2 (ys++[y]) H4))/\te σ2 H3 N else X7 xs.length i (Pv (i+1) σ2 ys H3))
  (hd:∀ σ' ys H,Pv xs.length σ' ys H->∀ p,H p=none->Q (.ref p) (upd H p<|.lst ys)):DU (GQ K b) g tt te k AY σ H Q:=by
 refine{λi m σ' ys H=>m=xs.length-i/\i<=xs.length/\Pv i σ' ys H,{xs.length,rfl,bu _,h0},?_};rintro i m σ' ys H ⟨rfl,hi,p⟩;obtain⟨q,hl⟩:=hq i _ ys H p;by_cases A0:i<xs.length;refine .inr {{xs,xs[i],q,by simp[A0]},by lia,λx H' y=>?_};obtain⟨rfl,y⟩:=y;exact hs i x _ ys _ A0 (y xs q) p
 have e:i=xs.length:=by lia
 subst e;exact .inl {{xs,q,υ _},hd _ ys H p}
section
variable{P:bv}{w:World}{A:dk}{E:tV}{s:π}
def zbd(T:s.TypeIs (.ref a) "dict")(q:Q false s):wpAny (model P w) A (xh<|.ref a) Q E s:=by
 refine δ<|ub T PySem.F.slot_dict_len.lookup ?_;generalize hid:("dict.__len__")=id0
 wp_delta
 subst hid;exact δ (kf  (b:=true) T (by rw[isSubtype_type];kernel_rfl) (wv (λz=>absurd z (by decide)) (λy=>(wv (λy=>(δ<|u_ T<|ν q)) (λz=>absurd (by decide +kernel) z)))))
end
section
variable{X:Cx}
def oU:∀ {kvs:tZ} {vs:List (AM × Value)},KV kvs vs->vs.map (·.1)=kvs.map (·.1)
 |_,_,.nil=>rfl
 |_,_,.cons h t=>by rw[ca,ca,oU t,h.1]
end
section
variable{P:bv}{w:World}{A:dk}{E:tV}{s:π}
def zbe{e it l:Addr}{i:Nat}{items:Array Value}{x old:Value}{Q:Option Value->π->Prop}(he:IsEnum s.heap e it i old)(hi:s.heap.IsListIter it l i)(hl:s.heap.IsList l items)(ex:items[i]? =some x)(ne:e≠it)
  (q:∀ h',IsEnumOut h' e it (i+1) x s.heap.objs.size->h'.IsListIter it l (i+1)->h'.get? s.heap.objs.size=some { cls:=jt "tuple",data:=Data.seq #[vq i s.toks,x] }->(∀ b o,b≠e->b≠it->s.heap.get? b=some o->h'.get? b=some o) →
   Q (some<|.ref s.heap.objs.size) { s with heap:=h',toks:=s.toks+1 }):wpAny (model P w) A (za<|.ref e) Q E s:=by
 have ty:s.TypeIs (.ref e) _:=⟨_,he,rfl⟩
 exact δ (lu (df  ty pe (dg pe ty Af
  (enumerate_next_item he hi hl ex ne λh' a1 a2 a3 z a4=>ν<|q h' a1 a2 a3 a4) (zr _))))
def zbf{e it l:Addr}{i:Nat}{items:Array Value}{old:Value}{Q:Fin->π->Prop}(hh:A.handled=none)(he:IsEnum s.heap e it i old)(hi:s.heap.IsListIter it l i)(hl:s.heap.IsList l items)(ex:items[i]? =none)
  (q:∀ h' x,my it s.heap h'->(∃ o,h'.get? x=some o/\o.cls=.type "StopIteration")->E (.ref x) { s with heap:=h' }):wpAny (model P w) A (xf.«enumerate.__next__» {[.ref e],[]}) Q E s:=by
 show wpAny _ A (field _ 2>>=_) _ _ s;exact δ<|jr he rfl  rfl (δ<|Yz (k:=true) hh hi hl ex q)
def zbg{e it l:Addr}{i:Nat}{items:Array Value}{old:Value}{Q:Option Value->π->Prop}(hh:A.handled=none)(he:IsEnum s.heap e it i old)(hi:s.heap.IsListIter it l i)(hl:s.heap.IsList l items)(ex:items[i]? =none)
  (q:∀ h',my it s.heap h'->Q none { s with heap:=h' }):wpAny (model P w) A (za<|.ref e) Q E s:=by
 have ty:s.TypeIs (.ref e) _:=⟨_,he,rfl⟩
 exact δ<|lu<|df  ty pe (dg pe ty Af (zbf hh he hi hl ex λh' x kk ⟨o,e1,e2⟩=>(δ<|kf   ⟨o,e1,e2⟩ xx (ν<|q _ kk))) (zr _))
end
def LC(K:μ)(a:Addr):It :=
  ⟨λi H=>∃ xs x,SqL K H a xs/\xs[i]? =some x,
   λi H v H'=>∃ t,H t=none/\v=.ref t/\∃ x,H'=upd H t (.tup [.int (i:Int),x])/\∀ xs,SqL K H a xs->xs[i]? =some x,
   λi H=>∃ xs,SqL K H a xs/\xs.length<=i⟩
def EnSt(e it l:Addr)(i:Nat)(h:Heap):Prop:=(∃ old,IsEnum h e it i old)/\h.IsListIter it l i
def EnSt.lt(q:EnSt e it l i h):∀ b∈[e,it],b<h.objs.size:=by
 obtain⟨⟨old,h1⟩,o,h2,z⟩:=q;intro b hb;simp only[ax,b_,or_false]at hb;rcases hb with rfl|rfl
 exact av h1;exact av h2
def zbh{P:bv}{w:World}{K:μ}{elts:Vu}{kn:Nat}{pos:Pos}{e it l:Addr}(ne:e≠it) :
  KW P w K (.Tuple elts kn pos) (LC K l) [e,it] e (λi h=>EnSt e it l i h) where
 mem:=by simp
 obj:=λi h st b hb=>by
  obtain⟨⟨old,h1⟩,h2⟩:=st;obtain⟨o4,e4,d4⟩:=ItK.ob (k:=true) h2;simp only[ax,b_,or_false]at hb;rcases hb with rfl|rfl
  exact{_,h1,λv q=>by cases q};exact{_,e4,λv q=>by rw[d4]at q;cases q}
 keep:=λi h h' {⟨old,h1⟩,h2} q=>{{_,q e (by simp) _ h1},ItK.up (k:=true) h2 λo x=>q it (by simp) o x}
 item:=by
  intro X hP hw hK hc i AA s σ H E I hf st hg;subst hP hw hK;revert hg;apply u2;rintro xs x ⟨hx,ex⟩;obtain⟨AJ,rv,d1⟩:=I.seqK (k:=true) hx
  have lt:=EnSt.lt st;obtain⟨⟨old,h1⟩,h2⟩:=st;obtain⟨u,hu,ru⟩:=rv.get ex
  have f':=λb hb=>bd<|lt b hb;refine zbe h1 h2 d1  (by simpa using hu) ne λh' g1 g2 g3 kk=>{_,rfl,(wpAny_letOwnedTupleGo_enum g1 λh2' z2 sb=>?_)}
  have I2:Inv X AA σ (upd H s.heap.objs.size<|.tup [.int i,x]) { s with heap:=h2',toks:=s.toks+1 }:=by
   refine Inv.turnedS (s:={ s with heap:=s.heap.push _ })   (I.tnew   (.cons (⟨s.toks,rfl⟩) (.cons ru .nil)) (by show 2<=sizeLine;decide)) (λb o hb eo=>?_) λb hb=>(hf b hb).upd (f' b hb);simp only[ax,b_,or_false,not_or]at hb;rcases Heap.get?_push_cases eo with⟨e1,e2⟩|e1
   subst e1 e2;exact sb.extBut _ _ ((f' e (by simp)).symm) g3;exact sb.extBut _ _ hb.1<|kk _ _ hb.1 hb.2 e1
  exact⟨.ref _,_,I2,rfl,{_,I.fresh,rfl,x,rfl,λys' q=>by rw[I.seqK_inj (k:=true) q hx];exact ex},
   {⟨_,z2⟩,ItK.up (k:=true) g2 λo x=>sb.extBut _ _ ne.symm x},λb hb=>((hf b hb).upd (f' b hb)).1⟩
 done:=by
  rintro X hP hw hK hc i AA s σ H E I hf ⟨⟨old,h1⟩,h2⟩ ⟨xs,hx,en⟩;subst hP hw hK;obtain⟨AJ,rv,d1⟩:=I.seqK (k:=true) hx;refine zbg (I.ok.hd hc) h1 h2 d1 (by simp;exact rv.length ▸ en) λh' kk=>{rfl,I.turnedS   (λb o hb eo=>?_) hf}
  simp only[ax,b_,or_false,not_or]at hb;exact kk _ _ hb.2 eo
 self:=λz z z z z st h=>by
  obtain⟨⟨old,h1⟩,z⟩:=st;exact Ir h1 h
section
variable{X:Cx}
def S9(K:μ)(ta:TA):TI:=λσ H R=>ta σ H λvs H1=>∃ a:Addr,vs=[.ref a]/\(∃ xs,SqL K H1 a xs)/\R (LC K a) H1
def zbi{a:Expr}{ta:TA}{p pos p2:Pos}{elts:Vu}{kn:Nat}(hg:Gl X "enumerate")(hm:X.mg "enumerate"=none)(ha:PA X [a] ta)(hs:a_ [a] X.env=[(false,eval a X.env)]:=by rfl) :
  PI X (.Tuple elts kn p2) (.Call (.Name "enumerate" p) [a] [] pos) (S9 X.K ta):=by
 refine λAA s σ H R I h=>Call_ (SE I hg hm boot_enumerate (pi (AO (ha _ _ s σ H _ I h) λus s1 hzz=>?_) (by rw[hs];rfl) (rfl)));obtain⟨vs,H1,I1,r1,⟨l,rfl,⟨xs,hx⟩,q⟩⟩:=hzz;obtain⟨AJ,rv,d1⟩:=I1.seqK (k:=true) hx;obtain⟨u,rfl,rfl⟩:=FT r1;refine call_enumerate_list d1 λh' z1 z2 sz kk=>Ir z1 ?_
 have I2:Inv X _ σ H1 { s1 with heap:=h' }:=I1.kept  kk;refine x5 _ _ _ _ H1 {rfl,I2,zbh<|g_<|fu _,{⟨_,z1⟩,z2},λb hb=>I1.fpOk ?_<|I1.hok.fresh ?_,q}
 all_goals
  simp only[ax,b_,or_false]at hb;rcases hb with rfl|rfl<;>omega
end
def X8{K:μ}{σ:St}{H:Hp}{a:Addr}{xs:Tr}{g:TG}{tb:TS}{D:Ends}(Pv:tR)(h0:Pv 0 σ H)(ha:∀ i σ H,i<=xs.length->Pv i σ H->SqL K H a xs)
  (hs:∀ i x σ H t,xs[i]? =some x->Pv i σ H->H t=none->g (.ref t) σ (upd H t<|.tup [.int (i:Int),x]) λσ2 H2=>tb { D with nx:=Pv<|i+1,ct:=Pv<|i+1,bk:=D.nx } σ2 H2) (hd:∀ σ H,Pv xs.length σ H->D.nx σ H):GR (LC K a) g tb D σ H:=by
 refine{λi m σ H=>i+m=xs.length/\Pv i σ H,{xs.length,by lia,h0},λi m σ H hzz=>?_};obtain⟨e,p⟩:=hzz
 have h1:=ha i σ H (by lia) p;by_cases hi:i<xs.length;refine .inr {x2 xs _ {h1,θ hi},_,λσ' H' q=>{m-1,by lia,by lia,q},λv H' ⟨t,ht,e,x,e',q1⟩=>?_};subst e e';exact hs i x σ H t (q1 _ h1) p ht
 have e:i=xs.length:=by lia
 subst e;exact .inl {{xs,h1,υ _},hd _ _ p}
def QL(K:μ):R2:=λx y H Q=>MH K x y H Q\/∃ t ts p xs,x=.ref t/\SqT K H t ts/\y=.ref p/\SqT K H p xs/\(∀ z∈xs,z=.non\/∃ i,z=.int i)/\Q (.bl false) H
def oV:∀ {xs:Tr} {us:Su} {u:Value},Vals xs us->u∈us->∃ x∈xs,RelV x u
 |_,_,_,.nil,h=>by cases h
 |_,_,_,.cons r t,h=>by
  rcases ax.mp h with rfl|h
  exact{_,ai ..,r};obtain⟨x,hx,e⟩:=oV t h;exact{x,ω _ hx,e}
def zbj(hu:X.A.units+64<cLine):BT X (dt .In) (QL X.K):=by
 intro AA s σ H x y v u Q I rx ry h;rcases h with h|⟨t,ts,p,xs,rfl,ht,rfl,hp,hx,q⟩
 exact oO hu _ s σ H x y v u Q I rx ry h;subst rx;obtain⟨AJ,r,pl,hz⟩:=I.tuple hp;subst ry;obtain⟨tts,tr,tl,j⟩:=I.tuple ht
 have hin:X.A.in1.units<cLine:=by
  have:X.A.in1.units=X.A.units+1:=rfl
  lia
 refine Js (λj=>false) pl (λz hz'=>?_) (x2 (.bl _) H {I,rfl,?_});obtain⟨z0,h0,r0⟩:=oV r (by simpa using hz');rcases hx z0 h0 with rfl|⟨i,rfl⟩
 subst r0;exact SeqAt.EqAt.none_tuple tl hin;obtain⟨tk,rfl⟩:=r0;exact SeqAt.EqAt.int_tuple _ _ tl hin
 have:AJ.toArray.any (λj=>false)=false:=by
  simp
 rw[this];exact q
section
variable{X:Cx}
def X9:∀ {us:Su} {ys:Xu},Qi us ys->Vals (ys.map V.str) us
 |_,_,.nil=>.nil
 |_,_,.cons z t h=>.cons ⟨_,rfl⟩ (X9 h)
def YA(K:μ):Tr->Hp->VK->Prop:=λxs H Q=>∃ (p:Addr) (ys:Xu),xs=[.ref p]/\SqL K H p (ys.map V.str)/\ys.length<64 /\
  ∀ (D:Addr) (ks:Xu),H D=none->ks.Perm ys->D_ ks=true->Q (.ref D) (upd H D<|.lst<|ks.map V.str)
def zbk(hc:X.calm=true):DT X (.builtin "sorted") (YA X.K):=by
 intro AA s σ H xs us Q I r h;revert h;apply u2;rintro p ys ⟨rfl,hp,hn,q⟩;obtain⟨AJ,rv,pl,hz⟩:=I.list hp;obtain⟨u,rfl,rfl⟩:=FT r
 have B9:AJ.length=ys.length:=by simpa using rv.length.symm
 refine sorted_strs pl.isList (SZ rv) (by omega) λout ks ho pk hr=>?_;obtain⟨c,g⟩:=sortedAll_at s.heap AJ out
 have hD:s.heap.objs.size<=s.heap.objs.size+1:=jq _;refine x2 (.ref _) _ {I.laid  (λb o e=>sortedAll_old e) hD ?_,rfl,q _ ks (I.hok.fresh hD) pk hr}
 have hl:ks.length<64:=by rw[pk.length_eq];exact hn
 exact{by rw[ζ,qt];omega,x2 out.toList c {X9 ho,g}}
def YB:∀ {l:Xu},D_ l=true->l.Pairwise λa b=>¬ b.cps.toList<a.cps.toList
 | [],_=>.nil
 | [x],_=>List.pairwise_singleton _ _
 |x::y::r,h=>by
  have h':(!Spec.ltCps y.cps.toList x.cps.toList&&risingS y r)=true:=h;rw[cb,vd,ltCps_eq,decide_eq_false_iff_not]at h'
  have ih:=YB (l:=y::r) h'.2;refine ki.mpr {λz hz=>?_,ih};rcases ax.mp hz with e|hz
  ·rw[e];exact h'.1
  ·exact λA0=>absurd A0<|yx.mpr<|List.le_trans (yx.mp h'.1) (yx.mp<|(ki.mp ih).1 z hz)
def zbl(h1:D_ l=true)(h2:D_ m=true)(p:l.Perm m):l=m :=
 List.Perm.eq_of_pairwise (λa b z z h h'=>congrArg Str.mk<|Ko.mp<|List.le_antisymm (yx.mp h) (yx.mp h')) (YB h1) (YB h2) p
end
section
variable{P:bv}{w:World}{A:dk}{E:tV}{s:π}
end
section
variable{X:Cx}
end
abbrev zbm:=lT
section
variable{X:Cx}{AA:tN}{σ:St}{H:Hp}{s:π}
def Inv.thaw(I:Inv X AA σ H s)(e:H d=some (.frz o<|.dK kvs))(nb:∀ o u,X.H₀ d≠some (.frz o u)):Inv X AA σ (upd H d<|.dK kvs) s:=by
 have up:∀ {b:Addr},H b=none->upd H d (.dK kvs) b=none:=λhb=>by rw[AG ((λhb z=>by rw[z,e]at hb;cases hb) hb)];exact hb
 refine{I.ok,I.os,I.bare,{I.base.keep,I.base.slot,λb o' e1 e2 e3=>up<|I.base.free b o' e1 e2 e3,I.base.there,λb xs eb=>?_,λb o' u eb=>?_,λb ps eb=>?_},I.loc,I.cell,up I.free,λx c ec=>up<|I.freeC x c ec,λp hp=>?_,λb u eb=>?_,I.len}
 have:=I.base.tups b xs eb;rw[AG λz=>by rw[z,e]at this;cases this];exact this;rw[AG (λz=>nb o' u (by rw[<-z];exact eb))];exact(I.base.frzs b o' u eb);obtain⟨more,this⟩:=I.base.tbls b ps eb;exact{_,by rw[AG λz=>by rw[z,e]at this;cases this];exact this};obtain⟨h1,h2,h3⟩:=I.pin p hp;exact{h1,up h2,h3}
 have st:∀ {b:Addr} {u:HO},ObjOk _ _ H _ b u->ObjOk X.prog X.w (upd H d<|.dK kvs) s.heap b u:=λh=>h.stay (λy y y e=>e) (λb' e'=>by rw[AG (BD e' e (by intro z;cases z))];exact e') λb' xs e'=>by rw[AG (BD e' e (by intro z;cases z))];exact e'
 by_cases hb:b=d;subst hb;rw[AE]at eb;obtain rfl:=ι eb;exact st (I.hok b _ e).2;rw[AG hb]at eb;exact st<|I.hok b u eb
def LE(d:Addr)(o:Obj)(kvs:tZ):It :=
 {λi H=>H d=some (.frz o<|.dK kvs)/\i<kvs.length,λi H x H'=>H'=H/\∃ k v,x=kV k/\kvs[i]? =some (k,v),λi H=>H d=some (.frz o<|.dK kvs)/\kvs.length<=i}
def oW:∀ {es:List xn} {vs:List (AM × Value)} {i:Nat} {x:AM × Value},Pairs (DE P w) es vs->vs[i]? =some x->∃ e,es[i]? =some e/\KU x.1 e.key=true
 |_,_,0,_,.cons h _ _,e=>by obtain rfl:=ι e;exact⟨_,rfl,h⟩
 |_,_,i+1,_,.cons _ _ t,e=>oW (i:=i) t e
def oX:∀ {es:List xn} {vs:List (AM × Value)},Pairs (DE P w) es vs->es.length=vs.length
 |_,_,.nil=>rfl
 |_,_,.cons _ _ t=>by rw[dv,dv,oX t]
def oY{P:bv}{w:World}{K:μ}{tg:Expr}(d it:Addr){o:Obj}{kvs:tZ}{es:Array xn}{ep:Nat}(hdat:o.data=.dict es ep):KW P w K tg (LE d o kvs) [it] it (λi h=>h.IsKeyIter it d i es.size ep) where
 mem:=by simp
 obj:=λi h st b hb=>by
  have e:b=it:=by simpa using hb
  subst e;obtain⟨o,e,c,d⟩:=st;exact{o,e,λv z=>by rw[d]at z;cases z}
 keep:=λi h h' st k=>st.at λo e=>k it (by simp) o e
 item:=by
  rintro X hP hw hK hc i AA s σ H E I hf st ⟨hq,hi⟩;obtain⟨h1,z,y,vs,r,o',es',ep',g1,g2,g3,g4,g5,g6⟩:=(I.hok d _ hq)
  rw[h1]at g1;cases g1;rw[hdat]at g3;cases g3;obtain⟨f0,f1,f2,f3,f4,f5⟩:=hf it (by simp)
  have hl:=r.length.symm
  have hix:i<vs.length:=by lia
  obtain⟨x,ex,hx1,hx2⟩:=GS r<|θ _;obtain⟨en,ee,hk⟩:=oW g5<|θ hix;refine za8 st h1 hdat (by rw[<-gq];exact ee) λh' st' sb=>?_;obtain⟨o2,e2,c2,d2⟩:=id st'
  have I1:Inv X _ σ H { s with heap:=h' }:=I.turned  (λb o hb e=>(sb.2 b hb).trans e) f0 f1 f3 f4 f5
  have rk:RelV (kV x.1) en.key:=by
   rw[hx1];rcases HQ hk with⟨j,t,e5,e6⟩|⟨j,t,e5,e6⟩
   rw[e5,e6];exact⟨t,rfl⟩;rw[e5,e6];exact⟨t,rfl⟩
  exact{_,rfl,OY  e2 c2 d2 (by decide) (x2 _ H {I1,rk,{rfl,x2 _ _ ⟨rfl,ex⟩},st',λb hb=>(hf b hb).1})}
 done:=by
  rintro X hP hw hK hc i AA s σ H E I hf st ⟨hq,hi⟩;obtain⟨h1,z,y,vs,r,o',es',ep',g1,g2,g3,g4,g5,g6⟩:=(I.hok d _ hq)
  rw[h1]at g1;cases g1;rw[hdat]at g3;cases g3;obtain⟨f0,f1,f2,f3,f4,f5⟩:=hf it (by simp)
  have hes:es.size=kvs.length:=by rw[<-cz,oX g5];exact r.length.symm
  exact za9 (I.ok.hd hc) st h1 hdat (by lia) λh' eb=>{rfl,I.turned  (λb o hb e=>eb b o hb e) f0 f1 f3 f4 f5}
 self:=λu u u u u st h=>wpAny_pyIter_keyiter st h
variable{tg iter DX:Expr}{DY:Vu}{scope:Scope}{pos:Pos}{td:TE}{g:TG}{tt:TT}{te:TE}{tn cn:Xu}{AY:ad}
def QM(td:TE)(g:TG)(tt:TT)(te:TE)(k:Nat)(AY:ad):TE:=λσ H Q=>td σ H λx H1=>∃ d kvs,x=.ref d/\H1 d=some (.dK kvs)/\∀ o,
 DU (LE d o kvs) g tt te k AY σ (upd H1 d<|.frz o<|.dK kvs) λv H2=>H2 d=some (.frz o<|.dK kvs)/\Q v (upd H2 d<|.dK kvs)
def zbn(S:IA X scope tn cn AY)(hc:X.calm=true)(hi:PE X iter td)
  (hg:∀ AA s H cl C fp,PG (X.block AA s H (tn++cn) scope cl C fp) tg g) (ht:∀ AA s H cl C fp,JA (X.block AA s H (tn++cn) scope cl C fp) DY tt) (he:∀ AA s H cl C fp,PE (X.block AA s H (tn++cn) scope cl C fp) DX te)
  (hs:∀ x,iz iter X.env x=pure x:=by intro t;rfl):PE X (.ListComp DX [{tg,iter,DY,0}] scope pos) (QM td g tt te tn.length AY):=by
 intro AA s σ H Q I h;obtain⟨cl,ecl,BC,F8⟩:=XH   λx hx hxf=>I.ok.has x.1<|S.free x hx hxf;refine tj  rfl hs ecl S.kind S.names (AO (hi AA s σ H _ I h) λv s1 hzz=>?_);obtain⟨x,H1,I1,r1,d,kvs,e,hd,q⟩:=hzz;subst e;cases r1;obtain⟨z,y,xs,r,o,es,ep,g1,g2,g3,g4⟩:=(I1.hok d _ hd)
 have nb:∀ o u,X.H₀ d≠some (.frz o u):=λo u e=>by
  have:=I1.base.frzs d o u e;rw[hd]at this;cases this
 refine oP y g1 g2 g3 ?_
 have I2':Inv X AA σ (upd H1 d<|.frz o<|.dK kvs) { s1 with heap:=s1.heap,toks:=s1.toks }:=I1.write (by rw[hd];trivial) (.inl rfl) (λt t t e=>e) ⟨o,g1⟩ {g1,(I1.hok d _ hd).stay (λt t t e=>e) (λb e=>by rw[AG (BD e hd (by intro z;cases z))];exact e) λb xs e=>by rw[AG (BD e hd (by intro z;cases z))];exact e}
 have I2:Inv X AA σ (upd H1 d<|.frz o<|.dK kvs) { s1 with heap:=s1.heap.push { cls:=.type "dict_keyiterator",data:=.fields #[.ref d,.int 0 0,.int es.size 0,.int ep 0] } }:=I2'.kept  λb o e=>ξ _ e
 have st2:(s1.heap.push { cls:=.type "dict_keyiterator",data:=.fields #[.ref d,.int 0 0,.int es.size 0,.int ep 0] }).IsKeyIter s1.heap.objs.size d 0 es.size ep:={_,aj _ rfl,rfl,by simp}
 have f2:∀ b∈[s1.heap.objs.size],FpOk X AA (upd H1 d<|.frz o<|.dK kvs) b:=λb hb=>by
  have e:b=s1.heap.objs.size:=by simpa using hb
  subst e;exact I2'.fpOk (υ _) (I2'.hok.fresh<|υ _)
 obtain⟨W,⟨m0,w0⟩,turn⟩:=q o;refine AO (XI (Q:=λv H2=>H2 d=some (.frz o<|.dK kvs)/\Q v (upd H2 d<|.dK kvs)) I2 S hc BC F8 (oY   d s1.heap.objs.size g3) st2 f2 (λC=>hg _ _ _ _ C _) (λC=>ht _ _ _ _ C _) (λC=>he _ _ _ _ C _) W w0 turn) λBO s3 h3=>AO h3 λcenv s4 h4=>k_ h4 λr s5 h5=>?_
 have hr:=h5.ok;subst hr;refine u2 ?_<|h5.inv I2 f2;rintro D H' ⟨rfl,I5,⟨e5,q5⟩,hCn,m,hm⟩;exact{m,hm,λh' hs'=>x2 (.ref D) _ {(I2.letgo h5.ge I5 hCn hs').thaw e5 nb,rfl,q5}}
def zbo:QM td g tt te k AY σ H Q=(td σ H λx H1=>∃ d kvs,x=.ref d/\H1 d=some (.dK kvs)/\∀ o,DU (LE d o kvs) g tt te k AY σ (upd H1 d<|.frz o<|.dK kvs) λv H2=>H2 d=some (.frz o<|.dK kvs)/\Q v (upd H2 d<|.dK kvs)):=rfl
def zbp(hn:kvs.length<=sizeLine)(Pv:Nat->Tr->Hp->Prop)(h0:Pv 0 [] H)(hq:∀ i ys H,i<=kvs.length->Pv i ys H->H d=some (.frz ob<|.dK kvs))
  (hs:∀ i k v ys H,kvs[i]? =some (k,v)->ys.length=i->Pv i ys H->te (some (kV k)::C1 AY σ) H λy H2=>Pv (i+1) (ys++[y]) H2)
  (hd:∀ ys H,ys.length=kvs.length->Pv kvs.length ys H->∀ p,H p=none->Q (.ref p) (upd H p<|.lst ys)) :
  DU (LE d ob kvs) (AF 0) CG te 1 AY σ H Q:=by
 refine{λi m σ' ys H=>m=kvs.length-i/\i<=kvs.length/\ys.length=i/\(∃ x0,σ'=x0::C1 AY σ)/\Pv i ys H,{kvs.length,by simp,bu _,rfl,⟨none,rfl⟩,h0},?_};rintro i m σ' ys H ⟨rfl,hi,hl,⟨x0,rfl⟩,p⟩
 have q:=hq i ys H hi p;by_cases A0:i<kvs.length
 ·refine .inr {⟨q,A0⟩,by omega,λx H' y=>?_};obtain⟨e,k,v,ex,ek⟩:=y;subst e ex;refine{_,λy H4 q=>{kvs.length-(i+1),cq ‹_›,rfl,A0,?_,⟨_,rfl⟩,q},hs i k v ys _ ek hl p};rw[ae,ji,hl]
 ·have e:i=kvs.length:=by lia
  subst e;exact .inl {{q,υ _},hd ys H hl p}
def TC(K:μ):Tr->Hp->VK->Prop:=λxs H Q=>∃ a kvs,xs=[V.ref a]/\H a=some (.dK kvs)/\Q (.int kvs.length) H
def zbq:DT X (.builtin "len") (TC X.K):=Tg
def YC{K:μ}{d:Addr}{kvs:tZ}{Q:VK}(e:H d=some (.dK kvs))(q:Q (.int kvs.length) H):TC K [.ref d] H Q:=x2 d kvs ⟨rfl,e,q⟩
end
def FnScope.go(h1:sc.kind=.function:=by exact rfl)(h2:sc.isCoroutine=false:=by exact rfl)(h3:sc.isGenerator=false:=by exact rfl)(h4:N.Nodup:=by decide +kernel)(h5:N.take P.length=P:=by exact rfl)(h6:∀ x∈P,sc.names.lookup x=some .local\/sc.names.lookup x=some .cell:=by decide +kernel)(h7:∀ y∈sc.names,y.2≠.free:=by decide +kernel):FnScope N P sc:=⟨h1,h2,h3,h4,h5,h6,h7⟩
def Room.m(r:Room k A)(h:j<=k:=by decide):Room j A:=r.mono h
abbrev FP(P:bv)(w:World)(K:μ)(mg:tP)(base:Heap)(k:Nat)(f:Addr)(fd:h_)(ps:Xu)(sp:Sp):Prop:=FnOk P w K mg base (D6 P w) k f fd ps sp
def Fun.okF{P:bv}{w:World}{K:μ}{mg:tP}{base:Heap}{x qual:Str}{st:Stmt}{f:Addr}{fd:h_}{N ps:Xu}{k:Nat}{sp:Sp}(F:Fun K x qual st f fd)(rd:(St->XK)->TS)(S:FnScope N ps (AU st))(len:∀ {vs H Q E},sp vs H Q E->vs.length=ps.length)
  (ok:∀ {vs H Q E},sp vs H Q E->rd (λ_=>E) { nx:=λz H'=>Q .non H',rt:=Q } (AZ N vs) H)
  (hb:∀ (CA:Value) (A:dk) (outer:Yu) (s:π) (H:Hp) (E:XK),Room k (A.deeper<|zb qual (AU st) s.heap.objs.size f CA)->XOk (IY (D6 P w) P w K mg base N qual (AU st) f CA A outer s H E) (λz=>E) ->
   FC (IY (D6 P w) P w K mg base N qual (AU st) f CA A outer s H E) (HB st) (rd λz=>E)):FP P w K mg base (k+1) f fd ps sp :=
 F.okE S (λz z z z=>len) λCA A outer s H z z E hr h=>{_,hb _ A _ s H E hr Tv,ok h}
section
variable{X:Cx}{pos:Pos}
def psl(i:Nat)(hN:X.N.Nodup)(he:PE X e te)(hi:X.N[i]? =some x:=by exact rfl)(hx:NI X.env.scope x:=by exact Ke rfl)(hs:xl e (some<|.Name x pos') pos.line X.env=pure false:=by rfl)(hf:X.fn x=true\/X.env.scope.names.lookup x=some .local:=by first|exact .inl rfl|exact .inr rfl|assumption) :
  PS X (.Assign [.Name x pos'] e pos) (AQ te<|AF i):=kO hN hi hx he hs hf
def oZ(i:Nat)(hN:X.N.Nodup)(hi:X.N[i]? =some x:=by exact rfl)(hx:NI X.env.scope x:=by exact Ke rfl)(hf:X.fn x=true\/X.env.scope.names.lookup x=some .local:=by first|exact .inl rfl|exact .inr rfl|assumption):PG X (.Name x pos) (AF i):=kM hN hi hx hf
end
section
variable{X:Cx}{pos:Pos}
def pei{j pos'}(ha:PE X a ta):PE X (.Subscript a (.Constant (.int i) j pos') pos) (AD (BR X.K) ta (tC<|.int i)):=lH mR ha kJ<|λz z=>rfl
def FnScope.cp(_:FnScope N P outer)(h:SU scope outer N cn AY=true:=by decide +kernel)(h1:X.env.scope=outer:=by exact rfl)(h2:X.N=N:=by exact rfl):IA X scope tn cn AY:=mW h1 h2 h
end
section
variable{X:Cx}{E:St->XK}{k j:Nat}{x m:Str}{ps:Xu}{sp:Sp}{C:Addr}{p pos CP:Pos}{e o e1 e2 e3:Expr}{es:Vu}{ta tb tc td:TE}{t:TA}
def o0(h:PE X e ta)(s:a_ [e] X.env=(false,eval e X.env)::a_ [] X.env:=by rfl):PA X [e] (C7 ta BL):=MA h SK s
def o3(h:PE X e ta)(h1:PE X e1 tb)(s:a_ [e,e1] X.env=(false,eval e X.env)::a_ [e1] X.env:=by rfl)(s1:a_ [e1] X.env=(false,eval e1 X.env)::a_ [] X.env:=by rfl):PA X [e,e1] (C7 ta<|C7 tb BL):=MA h (o0 h1 s1) s
def o5(h:PE X e ta)(h1:PE X e1 tb)(h2:PE X e2 tc)(s:a_ [e,e1,e2] X.env=(false,eval e X.env)::a_ [e1,e2] X.env:=by rfl)(s1:a_ [e1,e2] X.env=(false,eval e1 X.env)::a_ [e2] X.env:=by rfl)(s2:a_ [e2] X.env=(false,eval e2 X.env)::a_ [] X.env:=by rfl):PA X [e,e1,e2] (C7 ta<|C7 tb<|C7 tc BL):=MA h (o3 h1 h2 s1 s2) s
def zbt(h:PE X e ta)(h1:PE X e1 tb)(h2:PE X e2 tc)(h3:PE X e3 td)(s:a_ [e,e1,e2,e3] X.env=(false,eval e X.env)::a_ [e1,e2,e3] X.env:=by rfl)(s1:a_ [e1,e2,e3] X.env=(false,eval e1 X.env)::a_ [e2,e3] X.env:=by rfl)(s2:a_ [e2,e3] X.env=(false,eval e2 X.env)::a_ [e3] X.env:=by rfl)(s3:a_ [e3] X.env=(false,eval e3 X.env)::a_ [] X.env:=by rfl):PA X [e,e1,e2,e3] (C7 ta<|C7 tb<|C7 tc<|C7 td BL):=MA h (o5 h1 h2 h3 s1 s2 s3) s
def pcx(c:SR X.prog X.w X.K X.mg X.base k x ps sp)(hr:Room j X.A)(hx:XOk X E)(ha:PA X (e::es) t)(hj:k<=j:=by decide)(hg:Gl X x:=by exact rfl)(hdb:(x ==("__debug__":Str))=false:=by decide)
  (he:a_ (e::es) X.env=(false,eval e X.env)::a_ es X.env:=by rfl) (CB:(jp pos<|a_ es X.env).any (·.1)=false:=by rfl):PE X (.Call (.Name x p) (e::es) [] pos) (MB sp [] E t):=mM c (hr.mono hj) hx.passes hg ha hdb he CB
def pmx(he:PE X o ta)(cl:Cls X.K C)(c:NN X.prog X.w X.K X.mg X.base C k m ps sp)(hr:Room j X.A)(hx:XOk X E)(ha:PA X (e::es) t)(hj:k<=j:=by decide)
  (hst:a_ (e::es) X.env=(false,eval e X.env)::a_ es X.env:=by rfl) (CB:(jp pos<|a_ es X.env).any (·.1)=false:=by rfl)
  (ht:eval (.Call (.Attribute o m CP) (e::es) [] pos) X.env=(do
   let ov ← eval o X.env
   zu CP.atName
   let (f,first) ← ux [ov] (vx ov m pl)
   B_ pos f first (jp pos<|a_ (e::es) X.env) (wm pos<|mx [] X.env)):=by rfl):PE X (.Call (.Attribute o m CP) (e::es) [] pos) (IX C m sp [] E ta t):=XM he cl c (hr.mono hj) hx.passes ha hst CB ht
def pmz(he:PE X o ta)(cl:Cls X.K C)(c:NN X.prog X.w X.K X.mg X.base C k m ps sp)(hr:Room j X.A)(hx:XOk X E)(hj:k<=j:=by decide)
  (ht:eval (.Call (.Attribute o m CP) [] [] pos) X.env=(do
   let ov ← eval o X.env
   zu CP.atName
   let (f,first) ← ux [ov] (vx ov m pl)
   B_ pos f first (jp pos<|a_ [] X.env) (wm pos<|mx [] X.env)):=by rfl):PE X (.Call (.Attribute o m CP) [] [] pos) (IX C m sp [] E ta BL):=Tw he cl c (hr.mono hj) hx.passes ht
end
def Fun.oK(P:bv)(w:World){K:μ}(mg:tP)(base:Heap){x qual:Str}{st:Stmt}{f:Addr}{fd:h_}{N ps:Xu}(k:Nat){sp:Sp}(F:Fun K x qual st f fd)(rd:(St->XK)->TS)(S:FnScope N ps (AU st))
  (ok:∀ {vs H Q E},sp vs H Q E->rd (λ_=>E) { nx:=λz H'=>Q .non H',rt:=Q } (AZ N vs) H)
  (hb:∀ (CA:Value) (A:dk) (outer:Yu) (s:π) (H:Hp) (E:XK),Room k (A.deeper<|zb qual (AU st) s.heap.objs.size f CA)->XOk (IY (D6 P w) P w K mg base N qual (AU st) f CA A outer s H E) (λz=>E) ->
   FC (IY (D6 P w) P w K mg base N qual (AU st) f CA A outer s H E) (HB st) (rd λz=>E))
  (len:∀ {vs H Q E},sp vs H Q E->vs.length=ps.length:=by
   intro z z z z h
   repeat (first|(obtain⟨rfl,z⟩:=h;rfl)|(refine Or.elim h ?_ ?_<;>(clear h;intro h))|obtain⟨z,h⟩:=h)):FP P w K mg base (k+1) f fd ps sp:=F.okF rd S len ok hb
abbrev A4(N:Xu)(k:Nat)(sc:Scope):Prop:=FnScope N (N.take k) sc
abbrev CH(P:bv)(w:World)(K:μ)(mg:tP)(base:Heap)(k:Nat)(x:Str)(_:FnScope N ps sc)(sp:Sp):Prop:=SR P w K mg base k x ps sp
abbrev BU(P:bv)(w:World)(K:μ)(mg:tP)(base:Heap)(C:Addr)(k:Nat)(x:Str)(_:FnScope N ps sc)(sp:Sp):Prop:=NN P w K mg base C k x ps sp
abbrev NR(P:bv)(w:World)(K:μ)(mg:tP)(base:Heap)(C:Addr)(k:Nat)(x:Str)(_:FnScope N ps sc)(sp:Sp):Prop:=XL P w K mg base C k x ps sp
def o6{α :Type}:Nat->(List α ->Prop)->Prop
 |0,P=>P []
 |n+1,P=>∀ a,o6 n λl=>P (a::l)
def un{α :Type}:∀ {n:Nat} {P:List α ->Prop},o6 n P->∀ us:List α,us.length=n->P us
 |0,_,h,[],_=>h
 |_+1,_,h,a::us,e=>un (h a) us (Qn e)
def YD(x qual:Str)(st:Stmt)(ps:Xu):Prop:=∀ (kV doc pm:Value) (an:Option Addr) (CA ct:Value) (us:Su),us.length=ps.length->bindArgs (zd x qual (J5 st) (HB st) (AU st) .none kV doc pm an CA ct) {us,[]}=pure (ps.zip us)
structure GF(K:μ)(x:Str)(st:Stmt):Prop where
 ex:∃ (f:Addr) (fd:h_),l8 K bx x=some (some<|.ref f)/\Fun K x x st f fd
structure GM(K:μ)(C:Addr)(m q:Str)(st:Stmt):Prop where
 ex:∃ (f:Addr) (fd:h_),cm K (.ref C) m=some (some<|.ref f)/\N_ K (.ref f)=true/\Fun K m q st f fd
structure GC(K:μ)(C:Addr)(x:Str):Prop where
 ac:l8 K bx x=some (some<|.ref C)
 c:Cls K C
structure GN(K:μ)(C:Addr)(x q:Str)(st:Stmt):Prop where
 m:GM K C "__init__" q st
 mks:Jf K C=true
 kc:s_ K (.ref C)=true
 ac:l8 K bx x=some (some<|.ref C)
structure GX(K:μ)(C:Addr)(x:Str):Prop where
 ac:l8 K bx x=some (some<|.ref C)
 ex:W.excIn K C [.type "ValueError",.type "Exception",.type "BaseException",.type "object"] "ValueError.__new__"=true
section
variable{K:μ}{x q:Str}{st:Stmt}{C f:Addr}{oc:Value}{od an:Option Addr}{osl:Array (Option Value)}{kV doc pm CA ct:Value}
def gf(a:l8 K bx x=some (some<|.ref f))(l:K.lookup f=some {oc,od,.func<|zd x x (J5 st) (HB st) (AU st) .none kV doc pm an CA ct,osl})
  (c:Ca K CA x=true) (k:s_ K (.ref f)=true):GF K x st:={_,_,a,mC l c k}
def gm(a:cm K (.ref C) x=some (some<|.ref f))(l:K.lookup f=some {oc,od,.func<|zd x q (J5 st) (HB st) (AU st) .none kV doc pm an CA ct,osl})
  (c:Ca K CA q=true) (k:s_ K (.ref f)=true) (i:N_ K (.ref f)=true):GM K C x q st:={_,_,a,i,mC l c k}
def gn(a:cm K (.ref C) "__init__"=some (some<|.ref f))(l:K.lookup f=some {oc,od,.func<|zd "__init__" q (J5 st) (HB st) (AU st) .none kV doc pm an CA ct,osl})
  (c:Ca K CA q=true) (k:s_ K (.ref f)=true) (i:N_ K (.ref f)=true) (m:Jf K C=true) (n:s_ K (.ref C)=true) (s:l8 K bx y=some (some<|.ref C)):GN K C y q st:={gm a l c k i,m,n,s}
def gc(a:l8 K bx x=some (some<|.ref C))(l:zv K C O_=true)(c:Bt K C=true)(k:Lu K C=true)(i:cm K (.ref C) "__setattr__"=some (some<|.builtin "object.__setattr__")):GC K C x:=⟨a,l,c,k,i⟩
end
section
variable{P:bv}{w:World}{K:μ}{h:Heap}{mg:tP}{base:Heap}{x q:Str}{st:Stmt}{C:Addr}{k:Nat}{ps:Xu}{sp:Sp}
def gfc(P:bv:=by assumption)(w:World:=by assumption)(base:Heap:=by assumption)(ok:∀ {f fd},Fun K x x st f fd->FP P w K mg base k f fd ps sp)(g:GF K x st:=by assumption)(X:K.In h:=by assumption)(G:h.Ns bx mg:=by assumption)
  (b:YD x x st ps:=by intro z z z z z z;apply un;(repeat intro z);rfl):SR P w K mg base k x ps sp:=by
 refine u2 ?_ g.ex;rintro f fd ⟨a,F⟩;exact{f,fd,ok F,j_ X G a,F.kp,F.binds b}
def gmc(P:bv:=by assumption)(w:World:=by assumption)(base:Heap:=by assumption)(ok:∀ {f fd},Fun K x q st f fd->FP P w K mg base k f fd ps sp)(g:GM K C x q st:=by assumption)
  (b:YD x q st ps:=by intro z z z z z z;apply un;(repeat intro z);rfl):NN P w K mg base C k x ps sp:=by
 refine u2 ?_ g.ex;rintro f fd ⟨a,i,F⟩;exact{f,fd,ok F,⟨a,i,F.kp⟩,F.binds b}
def gnc(P:bv:=by assumption)(w:World:=by assumption)(base:Heap:=by assumption)(ok:∀ {f fd},Fun K "__init__" q st f fd->FP P w K mg base k f fd ps sp)(g:GN K C x q st:=by assumption)(X:K.In h:=by assumption)(G:h.Ns bx mg:=by assumption)
  (b:YD "__init__" q st ps:=by intro z z z z z z;apply un;(repeat intro z);rfl):XL P w K mg base C k x ps sp:=by
 refine u2 ?_ g.m.ex;rintro f fd ⟨a,i,F⟩;exact{f,fd,ok F,⟨g.mks,a,i,g.kc⟩,j_ X G g.ac,F.binds b}
def GF.law(g:GF K x st)(X:K.In h)(G:h.Ns bx mg)(hfa:mg x=some (.ref fa))
  (b:∀ (kV doc pm:Value) (an:Option Addr) (CA ct:Value) (s:π) (v:Value),yl s (zd x x (J5 st) (HB st) (AU st) .none kV doc pm an CA ct) {[v],[]} [("script",v)]) :
  ∃ fd:h_,(∀ (s:π) (v:Value),yl s fd {[v],[]} [("script",v)])/\Fun K x x st fa fd:=by
 refine u2 ?_ g.ex;rintro f fd ⟨a,F⟩;cases (hfa.symm.trans<|j_ X G a);refine u9 ?_ F.ex;rintro oc od kV doc pm an CA ct osl ⟨rfl,lk,GP⟩;exact{_,b kV _ pm an _ ct,F}
end
def TF(K:μ)(to ti tv:TE)(rd:V->V->Hp->VK->Prop):TS:=λD σ H=>to σ H λx H1=>ti σ H1 λy H2=>∃ p xs,∃ n:Nat,∃ v,x=.ref p/\y=.int n/\SqL K H2 p xs/\xs[n]? =some v/\tv σ H2 λz H3=>rd v z H3 λu H4=>NP (.ref p) (.int n) u H4 λH5=>D.nx σ H5
def zb0{K:μ}{to ti tv:TE}{rd:V->V->Hp->VK->Prop}{D:Ends}{σ:St}{H:Hp}:TF K to ti tv rd D σ H=(to σ H λx H1=>ti σ H1 λy H2=>∃ p xs,∃ n:Nat,∃ v,x=.ref p/\y=.int n/\SqL K H2 p xs/\xs[n]? =some v/\tv σ H2 λz H3=>rd v z H3 λu H4=>NP (.ref p) (.int n) u H4 λH5=>D.nx σ H5):=rfl
section
variable{X:Cx}{o i value:Expr}{td ty tv:TE}{tpos pos:Pos}
def zb1(ho:PE X o td)(hi:PE X i ty)(hv:PE X value tv)(hop:WW X op rd)
  (ha:∀ ov iv new,augStore i ov iv new=(do ux [new,ov,iv] (Qa ov iv new);release [new,ov,iv] [];pure .next):=by intros;rfl):PS X (.AugAssign (.Subscript o i tpos) op value pos) (TF X.K td ty tv rd):=by
 refine λAA s σ H D I h=>wpAny_AugAssign_SubscriptAny (AO (ho _ s σ H _ I h) λu s1 ⟨x,H1,I1,rx,q1⟩=>AO (hi _ s1 σ H1 _ I1 q1) λiv s2 hzz=>?_) ha;obtain⟨y,H2,I2,ry,p,xs,n,v,ex,ey,hq,hx,q2⟩:=hzz;subst ex ey
 have ry':=ry;obtain rfl:u=gk p:=rx;obtain⟨t,rfl⟩:=ry;obtain⟨AJ,r,pl,hz⟩:=I2.list hq
 have hn:=O2;obtain⟨w,ew,rw'⟩:=r.get hx
 have A0:=(ε.mp hx).1;exact wpAny_getItem_list pl.isList (by lia) (by lia)  (by simpa using ew) (AO (hv _ s2 σ H2 _ I2 q2) (by rintro w2 s4 ⟨y2,H3,I4,ry2,q3⟩;exact AO (hop _ s4 σ H3 v y2 w w2 _ I4 rw' ry2 q3) (by rintro w3 s5 ⟨z,H4,I5,rz,q4⟩;exact(AO (mT _ s5 σ H4 (.ref p) _ z _ _ _ _ I5 rfl ry' rz q4) (by rintro q s6 ⟨H5,I6,q5⟩;exact⟨σ,H5,I6,q5⟩)))))
end
def zb2(l:Addr)(items:Array Value)(n:Nat)(b:Addr)(items2:Array Value)(n2:Nat)(d:Option Addr)(sl:Array (Option Value))(hs0:¬(!items.isEmpty&&lq (items.size+items2.size))=true)(hs1:items.size<=sizeLine)(hs2:items.size+items2.size<=sizeLine+1) :
  Meets (xf.«list.extend» {[.ref l,.ref b],[]}) (λ_ R s=>s.heap.get? l=some { cls:=.type "list",dict:=none,data:=.seq items n,slots:= #[] }/\s.heap.get? b=some { cls:=.type "tuple",dict:=d,data:=.seq items2 n2,slots:=sl }/\R (.ok<|.ret ix) { s with heap:=s.heap.update l<|gr λx=>x++items2,toks:=s.toks }) :=
 .of_wp λprog w A R s h=>by
  obtain⟨hl,hb,h⟩:=h;have hz':(items++items2).size<=sizeLine+1:=by rw[Ic];exact hs2
  wp_walk using (uf hl rfl (hz:=hs1) ),zf hl,zf hb;exact⟨_,rfl,h⟩
def YE(K:μ):V->Tr->Hp->VK->Prop:=λx vs H Q=>∃ l b xs zs,x=.ref l/\vs=[.ref b]/\H l=some (.lst xs)/\SqT K H b zs/\xs.length+zs.length<=sizeLine/\Q .non (upd H l<|.lst<|xs++zs)
def zb3:PN X "list.extend" (YE X.K):=by
 rintro AA s σ H x vs v us Q I rx rv ⟨l,b,xs,zs,rfl,rfl,hH,hB,hz,q⟩;subst rx;obtain⟨z,AJ,n,r,hl,e⟩:=I.lstM hH;obtain⟨u,rfl,rfl⟩:=rv.one;obtain⟨L6,r2,⟨o,e2,hc,n2,hd⟩,hz2⟩:=I.tuple hB
 have D3:=r2.length;obtain⟨oc,od,odat,osl⟩:=o;subst hc hd
 have hsz:AJ.toArray.size+L6.toArray.size<=sizeLine:=by rw[ay,ay];lia
 have hlong:¬ (!AJ.toArray.isEmpty&&lq (AJ.toArray.size+L6.toArray.size))=true:=by
  rw[lR hsz,xy];exact bc
 refine qv F.slot_list_extend ⟨_,e,rfl⟩ F.entry_list_extend (F.args_list_extend_2 _ _)
  (zb2 l AJ.toArray n b L6.toArray n2 _ _ hlong (by lia) (by lia)) {e,e2,{.non,_,I.lset  hH e (by simp) (r.append r2) ?_,rfl,q}}
 rw[ae];omega
section
variable{X:Cx}{tg:Expr}
end
section
variable{K:μ}{g:TG}{tt:TT}{te:TE}{k:Nat}{AY:ad}{σ:St}{H:Hp}{Q:VK}
abbrev _root_.Wu:=Nat->Bool
def o7(p:Wu)(hn:xs.length<=sizeLine)(Pv:Nat->Tr->Hp->Prop)(h0:Pv 0 [] H)(hq:∀ i ys H,i<=xs.length->Pv i ys H->SqL K H b xs/\ys.length<=i)
  (ht:∀ i x ys H,xs[i]? =some x->Pv i ys H->∀ QB:Bool->Hp->Prop,QB (p i) H->tt (some x::C1 AY σ) H QB)
  (hs:∀ i x ys H,xs[i]? =some x->p i=true->Pv i ys H->te (some x::C1 AY σ) H λy H3=>Pv (i+1) (ys++[y]) H3)
  (hf:∀ i x ys H,xs[i]? =some x->p i=false->Pv i ys H->Pv (i+1) ys H)
  (hd:∀ ys H,Pv xs.length ys H->∀ q,H q=none->Q (.ref q) (upd H q<|.lst ys)):DU (GQ K b) (AF 0) tt te 1 AY σ H Q:=by
 refine{λi m σ' ys H=>m=xs.length-i/\i<=xs.length/\(∃ x0,σ'=x0::C1 _ σ)/\Pv i ys H,{xs.length,rfl,bu _,⟨_,rfl⟩,h0},?_};rintro i m σ' ys H ⟨rfl,hi,⟨x0,rfl⟩,P⟩;obtain⟨q,hl⟩:=hq i ys H hi P;by_cases A0:i<xs.length;refine .inr {{xs,xs[i],q,by simp[A0]},by lia,λx H' y=>?_};obtain⟨rfl,y⟩:=y
 have ex:=y xs q;refine ht i x ys _ ex P _ ?_;cases hp:p i with
 |true =>
  exact{_,λy H4 q=>{_,by omega,rfl,A0,⟨_,rfl⟩,q},hs i x ys _ ex hp P}
 |false =>
  exact{_,by omega,rfl,A0,⟨_,rfl⟩,hf i x ys _ ex hp P}
 have e:i=xs.length:=by lia
 subst e;exact .inl {{xs,q,υ _},hd ys H P}
def YF(p:Wu)(hn:xs.length<=sizeLine)(Pv:Nat->Tr->Hp->Prop)(h0:Pv 0 [] H)(hq:∀ i ys H,i<=xs.length->Pv i ys H->SqL K H b xs/\ys.length<=i)
  (hu:∀ i ys H t o,Pv i ys H->H t=none->Pv i ys (upd H t o))
  (ht:∀ i x ys H,xs[i]? =some x->Pv i ys H->∀ QB:Bool->Hp->Prop,QB (p i) H->tt (some (.int (i:Int))::some x::C1 AY σ) H QB)
  (hs:∀ i x ys H,xs[i]? =some x->p i=true->Pv i ys H->te (some (.int (i:Int))::some x::C1 AY σ) H λy H3=>Pv (i+1) (ys++[y]) H3)
  (hf:∀ i x ys H,xs[i]? =some x->p i=false->Pv i ys H->Pv (i+1) ys H)
  (hd:∀ ys H,Pv xs.length ys H->∀ q,H q=none->Q (.ref q) (upd H q<|.lst ys)):DU (LC K b) (FE K 2<|DF (AF 0) (DF (AF 1) FD)) tt te 2 AY σ H Q:=by
 refine{λi m σ' ys H=>m=xs.length-i/\i<=xs.length/\(∃ x0 x1,σ'=x0::x1::C1 _ σ)/\Pv i ys H,{xs.length,rfl,bu _,⟨_,_,rfl⟩,h0},?_};rintro i m σ' ys H ⟨rfl,hi,⟨x0,x1,rfl⟩,P⟩;obtain⟨q,hl⟩:=hq i ys H hi P;by_cases A0:i<xs.length;refine .inr {{xs,xs[i],q,by simp[A0]},by lia,λv H' hzz=>?_};obtain⟨t,ht0,e,x,e',q1⟩:=hzz
 have ex:=q1 xs q;subst e e'
 have P':=hu i ys H t (.tup [.int i,x]) P ht0;refine{t,_,rfl,SqT.of AE,rfl,({_,_,rfl,{_,_,rfl,{rfl,(ht i x ys _ ex P' _ ?_)}}})};cases hp:p i with
 |true =>
  exact{_,λy H4 q=>{_,by omega,rfl,A0,⟨_,_,rfl⟩,q},hs i x ys _ ex hp P'}
 |false =>
  exact{_,by omega,rfl,A0,⟨_,_,rfl⟩,hf i x ys _ ex hp P'}
 have e:i=xs.length:=by lia
 subst e;exact .inl {{xs,q,υ _},hd ys H P}
end
section
variable{prog:bv}{w:World}{K:Type}[DecidableEq K]{knd:HeapKind prog w K}{A:dk}{E:tV}{s:π}
def zb4(hu:knd.room A)(hkey:knd.is s.heap k a)(hm:s.heap.DictOfH knd d xs)
  (hQ:∀ h',h'.DictOfH knd d (ym xs k a v)->gy d s.heap h'->Q () { s with heap:=h' }) (hsz:xs.length<=sizeLine) :
  wpAny (model prog w) A (dictSetHashed d (.ref a) (knd.hash k) v) Q E s:=by
 revert hm;apply u3;rintro o es ep ⟨ho,hc,hd,he,his,hn⟩
 have keep:∀ {f:Obj->Obj} {x:K × Addr × Value},x∈xs->knd.is (s.heap.update d f) _ _:=λhx=>knd.keeps (his _ hx) ho hd (eh ..);unfold dictSetHashed
 try with_reducible refine gb ?_
 refine δ<|wpAny_dictFind_heap hu hkey ho hd he his hn (λhno=>?_) λj p hj=>?_;refine δ (qw (wpAny_updateDictKeys (hz:=by have e:=size_of_entries he;lia) ho hd (hQ _ ?_<|eh ..)));rw[(storedH_new (atKey_none_of_get hno) a v)];refine x3 _ _ _ {c_ _ ho<|wy<|q_ hd _,hc.mapDictKeys _,q_ hd _,by simp[he,xo],λx hx=>?_,?_};rcases ao.mp hx with hx|hx
 exact keep hx;cases ρ.mp hx;exact knd.keeps hkey ho hd<|eh ..;rw[χ,gi];refine{hn,by simp,λx hx y hy e=>not_mem_keys_of_get hno ?_};rw[show k=y from(ρ.mp hy).symm,<-e];exact hx;refine δ<|qw<|δ<|wpAny_updateDict ho hd<|wpAny_point<|hQ _ ?_<|eh ..;rw[(storedH_old (atKey_of_get hn hj) a v)];refine x3 _ _ ep {c_ _ ho<|wy<|Kr hd _,hc.mapDict _,Kr hd _,?_,λx hx=>?_,by rw[keys_map_putAt];exact hn}
 have:=modify_map_putAt (xo knd) (λe:xn=>{ e with val:=v }) k v (λz z=>rfl) hn hj;rw[<-he]at this;simpa using this;obtain⟨y,hy,rfl⟩:=af.mp hx
 have kk:=λf=>keep (f:=f) hy;unfold putAt;split;exact kk _;exact kk _
def JC(xs ys:List (K × Addr × Value)):List (K × Addr × Value):=ys.foldl (λBO y=>ym BO y.1 y.2.1 y.2.2) xs
def zb5(xs:List (K × Addr × Value))(k:K)(a:Addr)(v:Value):(ym xs k a v).length<=xs.length+1:=by
 unfold ym;split;rw[ζ];lia;rw[ae];exact υ _
def o8:∀ (ys xs:List (K × Addr × Value)),(JC xs ys).length<=xs.length+ys.length
 | [],xs=>υ _
 |y::ys,xs=>by
  have h1:=o8 ys<|ym xs y.1 y.2.1 y.2.2
  have h2:=zb5 xs y.1 y.2.1 y.2.2
  show(JC _ ys).length<=_;rw[dv];lia
def zb6{xs ys:List (K × Addr × Value)}{y:K × Addr × Value}(h:ys[i]? =some y):JC xs (ys.take<|i+1)=ym (JC xs<|ys.take i) y.1 y.2.1 y.2.2:=by
 have:ys.take (i+1)=ys.take i++[y]:=by rw[dz,h];rfl
 unfold JC;rw[this,py]
 rfl
def zb7(ho:s.heap.get? a=some o)(hc:o.cls=.type "tuple")(h:Q false s):wpAny (model prog w) A (Builtin.Dict.quietEq<|.ref a) Q E s:=δ<|ub ⟨o,ho,hc⟩ F.slot_tuple_eq.lookup (ν h)
def YG(knd:HeapKind prog w K)(ys:List (K × Addr × Value)):Prop:=(ys.map λy=>knd.hash y.1).Nodup
def zb8{id:String}{d:Addr}{o:Obj}{es ep}{ys:List (K × Addr × Value)}{Q:Array xn->π->Prop}(ho:s.heap.get? d=some o)(hd:o.data=.dict es ep)(he:es.toList=ys.map (xo knd))(ht:∀ y∈ys,∃ ob,s.heap.get? y.2.1=some ob/\ob.cls=.type "tuple")(ap:YG knd ys)(h:Q es s) :
  wpAny (model prog w) A (Builtin.Dict.entriesForEmpty id d) Q E s:=by
 refine δ<|jc ho hd ?_
 have one:∀ e∈es.toList,(es.filter (·.hash==e.hash)).size<=1:=λe hm=>by
  rw[<-cz,Array.toList_filter,he,Au,ζ];rw[he]at hm;obtain⟨y,hy,rfl⟩:=af.mp hm
  have:(ys.filter<|(λx:xn=>x.hash ==(xo knd y).hash) ∘ xo knd).length=(ys.map λy=>knd.hash y.1).count (knd.hash y.1):=by
   rw[List.count_eq_countP,Mr,ww]
   rfl
  rw[this];exact Df.mp ap _
 refine δ ?_;rw[<-Array.forIn_toList];refine Ks _ (λCU z s'=>s'=s/\∀ e∈CU,e∈es.toList) _ ?_ ?_ _ _ {rfl,λe h=>h};rintro e CU b s' ⟨rfl,hall⟩
 have hm:=hall e ai
 have hm':=hm;rw[he]at hm';obtain⟨y,hy,ey⟩:=af.mp hm'
 have ek:e.key=.ref y.2.1:=by rw[<-ey];rfl
 obtain⟨ob,h1,h2⟩:=ht y hy;rw[ek];refine δ<|zb7 h1 h2 ?_;simp only[Bool.not_false,if_true];rw[if_neg (by have:=one e hm;omega)];exact ν {rfl,λe' h'=>hall e'<|ω _ h'};rintro b s' ⟨rfl,z⟩;exact ν h
def zb9{xs ys:List (K × Addr × Value)}{Q:Unit->π->Prop}(hu:knd.room A)(hdo:d≠o)(hoS:(o == ia)=false)
  (hd:s.heap.DictOfH knd d xs) (ho:s.heap.DictOfH knd o ys) (ht:∀ y∈ys,∃ ob,s.heap.get? y.2.1=some ob/\ob.cls=.type "tuple") (ap:xs=[]->YG knd ys)
  (hQ:∀ h',(h'.DictOfH knd d (JC xs ys)\/(xs=[]/\h'.DictOfH knd d ys))->gy d s.heap h'->Q () { s with heap:=h' })
  (hsz:xs.length+ys.length<=sizeLine) :
  wpAny (model prog w) A (Ai nm d o) Q E s:=by
 refine u3 ?_<|id hd;rintro od esd epd ⟨hod,GP,hdd,hed,hisd,hnd⟩;refine u3 ?_<|id ho;rintro oo IV epo ⟨hoo,hco,hdo',heo,hiso,hno⟩
 have szo:=size_of_entries heo;unfold Ai;rw[if_neg (by simpa using hdo)];unfold vm;rw[if_neg (by rw[hoS];exact bc)];refine δ<|ν<|δ<|jc hoo hdo' ?_;dsimp only;split
 any_goals (refine δ<|jc hod hdd ?_;split)
 rename_i hemp
 have hxs:xs=[]:=by
  rw[(Iv.mp hemp)]at hed;exact wz.mp hed.symm
 refine δ<|zb8  hoo hdo' heo ht (ap hxs) ?_;split;refine δ (wpAny_updateDictKeysTo hod hdd (ν (hQ _ (.inr ⟨hxs,_,_,_,c_ _ hod<|wy<|q_ hdd _,GP.mapDictKeys _,
  q_ hdd _,heo,λx hx=>knd.keeps (hiso x hx) hod hdd (eh ..),hno⟩) (eh ..))) (by lia))
 rename_i hne
 have h0:=Iv.mp (by simpa using hne)
 have hm0:=fz.mp (by rw[<-szo,h0];rfl);subst hm0;exact ν<|hQ _ (.inl hd) (yu _ _)
 all_goals
  refine δ<|ug hoo hdo'<|δ<|jc hoo hdo'<|δ ?_;rw[Di];refine Ks _
   (λCU _ s'=>∃ h' i,s'={ s with heap:=h' }/\CU=Qs i (IV.size-i)/\i<=IV.size/\h'.DictOfH knd d (JC xs<|ys.take i)/\gy d s.heap h')
   _ ?_ ?_ _ _ (x2 s.heap 0 {rfl,by simp,bu _,hd,yu _ _})
  rintro x CU b s' ⟨h',i,rfl,hr,hi,hd',hs'⟩
  have A0:i<IV.size:=by
   rcases fe i IV.size with h|h
   ·exact h
   ·rw[Nat.sub_eq_zero_of_le h]at hr;simp at hr
  obtain⟨rfl,hrest⟩:x=i/\CU=Qs (i+1) (IV.size-(i+1)):=by
   rw[show IV.size-i=(IV.size-(i+1))+1 by omega,Kt]at hr;injection hr with h1 h2
   exact⟨h1,h2⟩
  have hoo':h'.get? o=some oo:=(hs'.2 o<|fj hdo).trans hoo;obtain⟨y,hy⟩:∃ y,ys[x]? =some y:={ys[x]'(by lia),θ _}
  have hk:knd.is h' y.1 y.2.1:=knd.keeps (hiso y<|η hy) hod hdd hs';refine δ<|jc hoo' hdo' ?_;rw[entry_at heo x,hy]
  have hmx:(JC xs<|ys.take x).length<=sizeLine:=by
   have e1:=o8 (ys.take x) xs
   have e2:(ys.take x).length<=ys.length:=by rw[de];lia
   lia
  refine δ<|gb<|zb4 (s:={ s with heap:=h' }) hu hk hd' (λh2 hd2 hs2=>?_) hmx
  have hoo2:h2.get? o=some oo:=(hs2.2 o<|fj hdo).trans hoo';refine δ<|ug hoo2 hdo' ?_;rw[if_neg (by simp)];exact ν (x2 h2 (x+1) {rfl,hrest,A0,by rw[zb6 hy];exact hd2,hs'.trans hs2})
  ·rintro b s' ⟨h',i,rfl,hr,hi,hd',hs'⟩
   have hin:i=IV.size:=by
    rcases fe i IV.size with h|h
    ·rw[show IV.size-i=(IV.size-(i+1))+1 by omega,Kt]at hr;exact nomatch hr
    ·exact n_ hi h
   refine ν<|hQ h' (.inl ?_) hs';rw[hin,szo,ce]at hd';exact hd'
def zca(knd:HeapKind prog w K)(d o:Addr)(hdo:d≠o)(hoS:(o == ia)=false) :
  MeetsIn prog w (xf.«dict.update» {[.ref d,.ref o],[]}) (λA R s=>knd.room A.in1/\∃ xs ys,s.heap.DictOfH knd d xs/\s.heap.DictOfH knd o ys/\(∀ y∈ys,∃ ob,s.heap.get? y.2.1=some ob/\ob.cls=.type "tuple")/\(xs=[]->YG knd ys)/\xs.length+ys.length<=sizeLine ∧
   ∀ h',(h'.DictOfH knd d (JC xs ys)\/(xs=[]/\h'.DictOfH knd d ys))->gy d s.heap h'->R (.ok<|.ret .none) { s with heap:=h' }) :=
 .of_wp λA R s ⟨hu,xs,ys,hd,ho,ht,ap,hsz,h⟩=>by
  refine δ<|δ<|Bf hd.typeIs<|ν ?_;exact δ<|u_ ho.typeIs<|δ<|δ<|δ<|kf ho.typeIs isSubtype_dict_dict<|δ<|ub ho.typeIs zp.lookup<|ν<|δ<|ν<|zb9 hu hdo hoS hd ho ht ap (λh' hd' hs'=>(δ<|ν<|ν {_,rfl,h h' hd' hs'})) hsz
end
def EQ(kvs more:RJ):RJ:=more.foldl (λBO kv=>B0 BO kv.1 kv.2) kvs
def KT.merge:∀ {more:RJ} {ys:vD} {kvs:RJ} {xs:vD},KT H more ys->KT H kvs xs->KT H (EQ kvs more) (JC xs ys):=by
 intro more ys kvs xs r
 induction r generalizing kvs xs with
 |nil=>intro q;exact q
 |@cons p q ps qs h t ih =>
  intro r0
  have e:KT H (B0 kvs p.1 p.2) (ym xs q.1 q.2.1 q.2.2):=by
   rw[<-h.1];exact(r0.put _ h.2.1 h.2.2)
  exact ih e
def YH:∀ (more kvs:RJ),(EQ kvs more).length<=kvs.length+more.length
 | [],kvs=>υ _
 |p::r,kvs=>by
  have h2:=K1 kvs p.1 p.2
  have h1:=YH r<|B0 kvs p.1 p.2
  show(EQ _ r).length<=_;rw[dv];lia
def YI:∀ (more BO:RJ),((BO++more).map (·.1)).Nodup->EQ BO more=BO++more
 | [],BO,_=>by simp[EQ]
 |p::r,BO,h=>by
  have e:B0 BO p.1 p.2=BO++[p]:=by
   unfold B0;rw[if_neg];rw[e_];rintro ⟨x,hx,he⟩;rw[χ,gi]at h;exact h.2.2 _ (af.mpr ⟨x,hx,rfl⟩) _ (by simp) (of_decide_eq_true he)
  show EQ (B0 _ _ _) r=_;rw[e,YI r _ (by rw[gg];exact h),gg]
  rfl
def KT.keys(r:KT H kvs xs):kvs.map (·.1)=xs.map (·.1):=by
 induction r with
 |nil=>rfl
 |cons h t ih=>rw[ca,ca,ih,h.1]
def TJ(more:RJ):Prop:=∀ (P:bv) (w:World),((more.map (·.1)).map (rj<|DE P w).hash).Nodup
def YJ:V->Tr->Hp->VK->Prop:=λx vs H Q=>∃ d o kvs more,x=.ref d/\vs=[.ref o]/\d≠o/\H d=some (.dT kvs)/\H o=some (.dT more)/\(kvs=[]->TJ more)/\kvs.length+more.length<=sizeLine/\Q .non (upd H d<|.dT<|EQ kvs more)
def zcb(hu:X.A.units+1<cLine):PN X "dict.update" YJ:=by
 intro AA s σ H x vs v us Q I rx rv h;revert h;apply u4;rintro d o kvs more ⟨rfl,rfl,hdo,hH,hO,ap,hz,q⟩;subst rx;obtain⟨z1,hd1,xs,rel1,dd1⟩:=SN I.hok hH;obtain⟨u,rfl,rfl⟩:=rv.one;obtain⟨z2,hd2,ys,rel2,dd2⟩:=SN I.hok hO
 have l1:=Paired.length rel1
 have l2:=Paired.length rel2
 have nd:(more.map (·.1)).Nodup:=by
  revert dd2;apply u3;rintro _ _ _ ⟨_,_,_,_,_,hn⟩;rw[rel2.keys];exact hn
 refine vc PySem.F.slot_dict_update dd1.typeIs PySem.F.entry_dict_update (PySem.F.args_dict_update_2 _ _) (zca (rj<|DE X.prog X.w) d o hdo hd2) {jm hu,x2 xs ys {dd1,dd2,λy hy=>?_,λe=>?_,by lia,λh' dd hs=>?_}}
 ·revert dd2;apply u3;rintro _ _ _ ⟨_,_,_,_,his,_⟩;refine u3 ?_<|his y hy;rintro ob _ _ ⟨h1,h2,_⟩;exact⟨ob,h1,h2⟩
 ·have:=ap (fz.mp (by rw[l1,e];rfl)) X.prog X.w;rw[rel2.keys,ff]at this;exact this
 ·have tk:∀ {kvs':RJ} {xs':vD},KT H kvs' xs'->KT (upd H d<|.dT<|EQ kvs more) kvs' xs':=λr=>r.keeps λc ys ec=>by
   rw[AG (BD ec hH (λz=>nomatch z))];exact ec
  have fin:∀ {xs'},KT H (EQ kvs more) xs'->h'.DictOfH (rj<|DE X.prog X.w) d xs'->EP X AA σ Q .none { s with heap:=h' }:=λ{xs'} r dd'=>by
   revert dd';apply u3;rintro ob es ep ⟨hq,h2,h3,h4,_,h5⟩;exact x2 (.non) _ {PQ (ob:=.dT<|EQ kvs more) I (by rw[hH];exact qu) hs ⟨ob,hq⟩ {(by have:=YH more kvs;lia),hd1,_,tk r,x3 ob es ep ⟨hq,h2,h3,h4,h5⟩},rfl,q}
  rcases dd with dd|⟨e,dd⟩
  ·exact fin (rel2.merge rel1) dd
  ·have e0:kvs=[]:=fz.mp (by rw[l1,e];rfl);refine fin ?_ dd;rw[e0,YI more [] nd];exact rel2
def TK(H:Hp)(ps:List (V × V))(kvs:RJ):Prop:=Paired (λ(q:V × V) (kv:List AM × V)=>(∃ b,q.1=.ref b/\H b=some (.tup<|kv.1.map kV))/\q.2=kv.2) ps kvs
def zcc:upd (upd H p o) p o'=upd H p o':=by
 funext x;by_cases e:x=p;rw[e,AE,AE];rw[AG e,AG e,AG e]
def zcd(h:H p=some o):upd H p o=H:=by
 funext x;by_cases e:x=p;rw[e,AE,h];rw[AG e]
def zce(hu:X.A.units+1<cLine):∀ (ws:List (Value × Value)) (ps:List (V × V)) (kvs BO:RJ) (s:π) (H:Hp) (Q:PUnit->π->Prop),Inv X AA σ H s->H d=some (.dT BO)->VV ps ws->TK H ps kvs->BO.length+kvs.length<=sizeLine ->
  (∀ s',Inv X AA σ (upd H d<|.dT<|EQ BO kvs) s'->Q PUnit.unit s')->wpAny (model X.prog X.w) X.A (storeAll d ws) Q E s:=by
 intro ws
 induction ws with
 |nil =>
  intro ps kvs BO s H Q I e rel kr hz h;cases rel;cases kr;refine ν<|h s ?_
  show Inv X _ σ (upd H d<|.dT BO) s;rw[zcd e];exact I
 | cons x ws ih =>
  intro ps kvs BO s H Q I e rel kr hz h;cases rel with
  | @cons p _ ps _ rp rel =>
   cases kr with
   |@cons _ kv _ kvs hk kr =>
    obtain⟨⟨b,eb,hb⟩,ev⟩:=hk;obtain⟨u,v⟩:=x
    have r2:=rp.2
    have r1:=rp.1;rw[eb]at r1;rw[ev]at r2;cases (r1);rw[dv]at hz;obtain⟨z,hd,xs,rl,dd⟩:=SN I.hok e
    have hl:=K1 BO kv.1 kv.2;unfold storeAll;rw[As];refine δ (δ (wpAny_dictSet_heap (hsz:=(by rw[<-Paired.length rl];exact z))  (show X.A.units<cLine by lia) (K4 I.hok hb) dd λh' dd' hs=>ν ?_))
    have tk:∀ {o':HO} {c:Addr} {ys:Tr},H c=some (.tup ys)->upd H d o' c=some _:=λec=>by
     rw[AG (BD ec e (λz=>nomatch z))];exact ec
    revert dd';apply u3;rintro q es ep ⟨hq,h2,h3,h4,_,h5⟩
    have I':Inv X _ σ _ { s with heap:=h',toks:=s.toks+(rj<|DE X.prog X.w).draws kv.1 } :=
     PQ (ob:=.dT _) I (by rw[e];exact qu) hs ⟨q,hq⟩ {by omega,hd,_,(rl.put _ hb r2).keeps λc ys ec=>tk ec,x3 q es ep ⟨hq,h2,h3,h4,h5⟩}
    refine ih ps _ _ _ _ Q I' AE rel (Paired.mapP kr (by rintro q kv' ⟨⟨b',e1,e2⟩,e3⟩;exact{{b',e1,tk e2},e3})) (by omega) λs' i=>h s' ?_;rw[zcc]at i;exact i
def MI(trs:List (TE × TE)):TE:=λσ H Q=>∀ p,H p=none->ME trs σ (upd H p<|.dT []) λps H2=>H2 p=some (.dT [])/\∃ kvs:RJ,TK H2 ps kvs/\kvs.length<=15/\Q (.ref p) (upd H2 p<|.dT<|EQ [] kvs)
def zcf(hu:X.A.units+1<cLine)(h:SO X pos keys values trs)(hall:keys.all (·.isSome)=true)(hl:keys.length=values.length)(h0:keys≠[])
  (h15:keys.length<=15):PE X (.Dict keys values pos) (MI trs):=by
 refine λAA s σ H Q I q=>wpAny_Dict_any hall hl h0 h15<|AO (h _ _ σ _ _ (I.laid     (λz z q=>ξ _ q) (υ _) (mB _ I.big)) (q _<|I.hok.fresh<|υ _)) λws s2 ⟨ps,H2,I2,rel,e,kvs,kr,lk,q2⟩=>(zce hu ws ps _ [] s2 H2 _ I2 e rel kr ?_ λs' i=>x2 (.ref _) _ ⟨i,rfl,q2⟩);rw[qt,uh];lia
def zcg:MI trs σ H Q=∀ p,H p=none->ME trs σ (upd H p<|.dT []) λps H2=>H2 p=some (.dT [])/\∃ kvs:RJ,TK H2 ps kvs/\kvs.length<=15/\Q (.ref p) (upd H2 p<|.dT<|EQ [] kvs):=rfl
def zch:XC td ty tx σ H Q=(td σ H λx H1=>∃ a,x=.ref a/\MF H1 a/\ty σ H1 λy H2=>tx σ H2 λz H3=>∃ o,DGet H3 a y o/\Q (o.getD z) H3):=rfl
def zci:ME [] σ H QP=QP [] H:=rfl
def zcj:ME ((tk,tv)::r) σ H QP=(tk σ H λx H1=>tv σ H1 λy H2=>ME r σ H2 λps H3=>QP ((x,y)::ps) H3):=rfl
def zck(Pv:tR)(h0:Pv 0 σ H)(hl:∀ i σ H,i<=kvs.length->Pv i σ H->H d=some (.frz ob<|.dK kvs))
  (hs:∀ i k v σ H,kvs[i]? =some (k,v)->Pv i σ H->g (kV k) σ H λσ2 H2=>tb { D with nx:=Pv<|i+1,ct:=Pv<|i+1,bk:=D.nx } σ2 H2) (hd:∀ σ H,Pv kvs.length σ H->D.nx σ H):GR (LE d ob kvs) g tb D σ H:=by
 refine{λi m σ H=>m=kvs.length-i/\i<=kvs.length/\Pv i σ H,{_,rfl,bu _,h0},?_};rintro i m σ H ⟨rfl,hi,p⟩;by_cases A0:i<kvs.length;refine .inr {{hl i σ H hi p,A0},_,λσ' H' p'=>{_,by omega,rfl,by omega,p'},?_};rintro x H' ⟨rfl,k,v,rfl,e1⟩;exact hs i k v σ H' e1 p
 have e:i=kvs.length:=by lia
 subst e;exact .inl {{hl _ σ H hi p,hi},hd σ H p}
def Ends.thaw(D:Ends)(d:Addr)(o:Obj)(kvs:tZ):Ends:={ D with nx:=λσ H=>H d=some (.frz o<|.dK kvs)/\D.nx σ (upd H d<|.dK kvs),rt:=λv H=>H d=some (.frz o<|.dK kvs)/\D.rt v (upd H d<|.dK kvs) }
def YK(te:TE)(g:TG)(tb:TS):TS:=λD σ H=>te σ H λx H1=>∃ d kvs,x=.ref d/\H1 d=some (.dK kvs)/\∀ o,GR (LE d o kvs) g tb (D.thaw d o kvs) σ (upd H1 d<|.frz o<|.dK kvs)
def zcl:YK te g s1 D σ H=(te σ H λx H1=>∃ d kvs,x=.ref d/\H1 d=some (.dK kvs)/\∀ o,GR (LE d o kvs) g s1 (D.thaw d o kvs) σ (upd H1 d<|.frz o<|.dK kvs)):=rfl
section
variable{X:Cx}{tg:Expr}
def zcm(hp:Oy (model X.prog X.w) X.A X.env X.xe)(hc:X.calm=true)(hi:PE X iter te)(hg:PG X tg g)(hb:FC X body tb)
  (hs:∀ x,iz iter X.env x=pure x:=by intro t;rfl):PS X (.For tg iter body [] pos) (YK te g tb):=by
 intro AA s σ H D I h
 have key:wpAny (model X.prog X.w) X.A (eval iter X.env) (λv s1=>wpAny (model X.prog X.w) X.A (Bs v) (WP X AA σ tg λJ H2=>∃ d o kvs,(∀ o u,X.H₀ d≠some (.frz o u))/\GR J g tb (D.thaw d o kvs) σ H2) X.xe s1) X.xe s:=by
  refine AO (hi _ s σ H _ I h) λv s1 hzz=>?_;obtain⟨x,H1,I1,r1,d,kvs,rfl,hd,q⟩:=hzz
  have nb:∀ o u,X.H₀ d≠some _:=λo u e=>by
   have:=I1.base.frzs d o u e;rw[hd]at this;cases this
  subst r1;obtain⟨z,y,vs,r,o,es,ep,g1,g2,g3,g4,g5,g6⟩:=(I1.hok d _ hd)
  refine oP y g1 g2 g3 ?_
  have I2:Inv X _ σ (upd H1 d<|.frz o _) { s1 with heap:=s1.heap,toks:=s1.toks }:=I1.write (by rw[hd];trivial) (.inl rfl) (λt t t e=>e) ⟨o,g1⟩ {g1,(I1.hok d _ hd).stay (λt t t e=>e) (λb e=>by rw[AG (BD e hd (by intro z;cases z))];exact e) λb xs e=>by rw[AG (BD e hd (by intro z;cases z))];exact e}
  have I3:Inv X _ σ _ { s1 with heap:=s1.heap.push { cls:=.type "dict_keyiterator",data:=.fields #[.ref d,.int 0 0,.int es.size 0,.int ep 0] } }:=I2.kept  λb o e=>ξ _ e;exact⟨_,_,_,_,_,rfl,I3,oY d _ g3,{_,aj _ rfl,rfl,rfl},λb hb=>by
   have e:b=s1.heap.objs.size:=by simpa using hb
   subst e;exact I2.fpOk (υ _) (I2.hok.fresh<|υ _),d,o,_,nb,q o⟩
 refine wpAny_For (AO key λv s1 h1=>AO h1 λitv s2 h2=>?_) hs;obtain⟨it,fp,tn,J,H2,rfl,I2,T,st2,f2,d,o,kvs,nb,W,⟨m0,w0⟩,turn⟩:=h2
 have stat:∀ {H':Hp},(∀ b∈fp,H' b=none)->∀ b∈fp,FpOk X _ H' b:=λhn b hb=>{hn b hb,(f2 b hb).2}
 refine Ea (λn s'=>∃ i σ' H',Inv X _ σ' H' s'/\tn i s'.heap/\(∀ b∈fp,H' b=none)/\W i n σ' H') ?_ m0 {0,σ,H2,I2,st2,λb hb=>(f2 b hb).1,w0};rintro n s3 ⟨i,σ3,H3,I3,st3,fr3,w3⟩;rcases turn i n σ3 H3 w3 with⟨stop,qe,qn⟩|⟨go,N,hN,step⟩
 refine il hp<|AO (T.done X rfl rfl rfl hc i AA s3 σ3 H3 X.xe I3 (stat fr3) st3 stop) λr s4 hzz=>?_;obtain⟨rfl,I4⟩:=hzz;exact t9 {σ3,_,I4.thaw qe nb,qn};refine il hp<|AO (T.item X rfl rfl rfl hc i AA s3 σ3 H3 X.xe I3 (stat fr3) st3 go) λr s4 hzz=>?_;obtain⟨u,rfl,h4⟩:=hzz;refine il hp<|AO h4 λt s5 hzz=>?_;obtain⟨x,H5,I5,r5,y5,st5,fr5⟩:=hzz;refine il hp<|AO (hg _ s5 σ3 H5 x u _ (I5.pinned (stat fr5) (T.obj _ _ st5)) r5 (step x H5 y5)) λt s6 hzz=>?_;obtain⟨σ6,H6,I6,q6⟩:=hzz;refine il hp<|AO (hb _ s6 σ6 H6 _ I6 q6) λf s7 q7=>?_
 have again:∀ {σ7:St} {H7:Hp},Inv X (AA++OZ fp s5.heap) σ7 H7 s7->N σ7 H7->∃ m,m<n/\∃ i σ' H',Inv X AA σ' H' s7/\tn i s7.heap/\(∀ b∈fp,H' b=none)/\W i m σ' H':=λ{σ7 H7} I7 n7=>by
  obtain⟨m',hm,w7⟩:=hN σ7 H7 n7;refine{m',hm,i+1,σ7,H7,I7.unpinned,T.keep _ _ _ st5 λb hb o e=>(I7.pin (b,o) (bh _<|bh _<|NK hb e)).1,λb hb=>?_,w7};obtain⟨o,e,d⟩:=T.obj _ _ st5 b hb;exact(I7.pin (b,o) (bh _<|bh _<|NK hb e)).2.1
 cases f with
 |next=>obtain⟨σ7,H7,I7,n7⟩:=q7;exact again I7 n7
 |cont=>obtain⟨σ7,H7,I7,n7⟩:=q7;exact again I7 n7
 |brk=>obtain⟨σ7,H7,I7,q7,q8⟩:=q7;exact{σ7,_,I7.unpinned.thaw q7 nb,q8}
 |ret v=>obtain⟨x7,σ7,H7,I7,r7,q7,q8⟩:=q7;exact{x7,σ7,_,I7.unpinned.thaw q7 nb,r7,q8}
end
def CD(x:V)(P:Addr->Prop):Prop:=match x with
 |.ref a=>P a
 |_=>False
def GT(x:V)(P:Int->Prop):Prop:=match x with
 |.int a=>P a
 |_=>False
def IE(x:V)(P:Bool->Prop):Prop:=match x with
 |.bl a=>P a
 |_=>False
def FG(xs:Tr)(P:V->Prop):Prop:=match xs with
 | [x]=>P x
 |_=>False
def QN(xs:Tr)(P:V->Tr->Prop):Prop:=match xs with
 |x::r=>P x r
 |_=>False
def QQ(xs:Tr)(P:Prop):Prop:=match xs with
 | []=>P
 |_=>False
def GE:CD x P=∃ a,x=.ref a/\P a:=by cases x<;>simp[CD]
def QR:GT x P=∃ a,x=.int a/\P a:=by cases x<;>simp[GT]
def TM:IE x P=∃ a,x=.bl a/\P a:=by cases x<;>simp[IE]
def NS:FG xs P=∃ x,xs=[x]/\P x:=by rcases xs with _|⟨x,_|⟨y,r⟩⟩<;>simp[FG]
def zcn:QN xs P=∃ x r,xs=x::r/\P x r:=by
 rcases xs with _|⟨x,r⟩<;>simp[QN]
 exact{λh=>{x,r,⟨rfl,rfl⟩,h},(by rintro ⟨z,z,⟨e,e'⟩,h⟩;exact e ▸ e' ▸ h)}
def zco:QQ xs P=(xs=[]/\P):=by rcases xs with _|⟨x,r⟩<;>simp[QQ]
section
variable{P:Addr->Prop}{PI':Int->Prop}{PB:Bool->Prop}{P1:V->Prop}{P2:V->V->Prop}{PC':V->Tr->Prop}{Z:Prop}{p:Addr}{i:Int}{b:Bool}{x y:V}{r:Tr}
def zcp:CD (.ref p) P=P p:=rfl
def zcq:GT (.int i) PI'=PI' i:=rfl
def YL:IE (.bl b) PB=PB b:=rfl
def zcr:FG [x] P1=P1 x:=rfl
def zcs:QN (x::r) PC'=PC' x r:=rfl
def zct:QQ [] Z=Z:=rfl
def zcu:@ite Prop (true=true) (instDecidableEqBool true true) A B=A:=rfl
def o9:@ite Prop (false=true) (instDecidableEqBool false true) A B=B:=rfl
def zcv:(!true)=false:=rfl
def zcw:(!false)=true:=rfl
def zcx{α β :Type}:Qt f (a::l)=f a::Qt f l:=rfl
def zcy{α β :Type}:Qt f []=[]:=rfl
end
section
variable{K:μ}{ta tb tc to ti tv tl td ty tx:TE}{s1:TS}{r r':R2}{σ:St}{H:Hp}{Q:VK}{D:Ends}{QB:tX}{as:TA}{g:TG}{gs:FR}{tt:TT}{te:TE}{k i:Nat}{AY:ad}{f m:Str}{C:Addr}{sp:Sp}{E:St->XK}{v:V}{vs:Tr}{QG:St->Hp->Prop}{X:Cx}{e:Expr}{es:Vu}{st:Stmt}{tg it:Expr}{QO:Option Int->Hp->Prop}{p q:Addr}{x y:Int}{b b':Bool}{s s':Str}
def AT(K:μ)(ta:TE)(f:Str):TE:=λσ H Q=>ta σ H λx H1=>CD x λa=>∃ C dx fs,H1 a=some (.ins C dx fs)/\Cls K C/\NoAttr K C f/\∃ v,fs.lookup f=some v/\Q v H1
def zcz:AT K ta f=O5 K ta f:=by funext σ H Q;simp only[AT,O5,GE];simp
def zc0:AT K ta f σ H Q=ta σ H λx H1=>CD x λa=>∃ C dx fs,H1 a=some (.ins C dx fs)/\Cls K C/\NoAttr K C f/\∃ v,fs.lookup f=some v/\Q v H1:=rfl
def pFl(h:PE X e (O5 K ta f)):PE X e (AT K ta f):=zcz ▸ h
def AN(C:Addr)(m:Str)(sp:Sp)(E:St->XK)(ta:TE)(t:TA):TE:=λσ H Q=>ta σ H λx H1=>CD x λa=>∃ dx fs,H1 a=some (.ins C dx fs)/\fs.lookup m=none/\t σ H1 λvs H2=>sp (x::vs) H2 Q (E σ)
def zc2:AN C m sp E ta as=IX C m sp [] E ta as:=by funext σ H Q;simp only[AN,IX,GE];simp
def zc3:AN C m sp E ta as σ H Q=ta σ H λx H1=>CD x λa=>∃ dx fs,H1 a=some (.ins C dx fs)/\fs.lookup m=none/\as σ H1 λvs H2=>sp (x::vs) H2 Q (E σ):=rfl
def TN(h:PE X e (IX C m sp [] E ta as)):PE X e (AN C m sp E ta as):=zc2 ▸ h
def BJ(sp:Sp)(E:St->XK)(t:TA):TE:=λσ H Q=>t σ H λvs H1=>sp vs H1 Q<|E σ
def zc4:BJ sp E as=MB sp [] E as:=by funext σ H Q;simp only[BJ,MB,kx]
def zc5:BJ sp E as σ H Q=as σ H λvs H1=>sp vs H1 Q (E σ):=rfl
def pA(h:PE X e (MB sp [] E as)):PE X e (BJ sp E as):=zc4 ▸ h
def GU(C:Addr)(sp:Sp)(E:St->XK)(t:TA):TE:=λσ H Q=>t σ H λvs H1=>∀ x dx,H1 x=none->H1 dx=none->dx≠x->sp (.ref x::vs) (upd (upd H1 dx<|.own x) x (.ins C dx [])) (λv H2=>v=.non/\Q (.ref x) H2) (E σ)
def zc6:GU C sp E as=NL C sp [] E as:=by funext σ H Q;simp only[GU,NL,kx]
def zc7:GU C sp E as σ H Q=as σ H λvs H1=>∀ x dx,H1 x=none->H1 dx=none->dx≠x->sp (.ref x::vs) (upd (upd H1 dx<|.own x) x (.ins C dx [])) (λv H2=>v=.non/\Q (.ref x) H2) (E σ):=rfl
def pMk(h:PE X e (NL C sp [] E as)):PE X e (GU C sp E as):=zc6 ▸ h
def C2(K:μ)(ta tv:TE)(f:Str):TS:=λD σ H=>tv σ H λy H1=>ta σ H1 λx H2=>CD x λa=>∃ C dx fs,H2 a=some (.ins C dx fs)/\Cls K C/\NoAttr K C f/\fs.length<1000/\D.nx σ (upd H2 a<|.ins C dx<|BP f y fs)
def zc9:C2 K ta tv f=O6 K ta tv f:=by funext D σ H;simp only[C2,O6,GE];simp
def zda:C2 K ta tv f D σ H=tv σ H λy H1=>ta σ H1 λx H2=>CD x λa=>∃ C dx fs,H2 a=some (.ins C dx fs)/\Cls K C/\NoAttr K C f/\fs.length<1000/\D.nx σ (upd H2 a<|.ins C dx<|BP f y fs):=rfl
def pSf(h:PS X st (O6 K ta tv f)):PS X st (C2 K ta tv f):=zc9 ▸ h
def A6(t:TE):TT:=λσ H Q=>t σ H λx H'=>IE x λk=>Q k H'
def YM:A6 ta=L8 ta:=by funext σ H Q;simp only[A6,L8,TM]
def zdc:A6 ta σ H QB=ta σ H λx H'=>IE x λk=>QB k H':=rfl
def KB(h:PT X e (L8 ta)):PT X e (A6 ta):=YM ▸ h
def pTb(h:PT X e (tB ta)):PT X e (A6 ta):=by rw[YM];exact h
def FH(r r':R2)(ta tb tc:TE):TE:=λσ H Q=>ta σ H λx H1=>tb σ H1 λy H2=>r x y H2 λz H3=>IE z λk=>if k=true then tc σ H3 λw' H4=>r' y w' H4 Q else Q (.bl false) H3
def pB:FH r r' ta tb tc=L9 r r' ta tb tc:=by funext σ H Q;simp only[FH,L9,TM]
def zde:FH r r' ta tb tc σ H Q=ta σ H λx H1=>tb σ H1 λy H2=>r x y H2 λz H3=>IE z λk=>if k=true then tc σ H3 λw' H4=>r' y w' H4 Q else Q (.bl false) H3:=rfl
def pCh(h:PE X e (L9 r r' ta tb tc)):PE X e (FH r r' ta tb tc):=pB ▸ h
def pCt(h:PT X e (L8<|L9 r r' ta tb tc)):PT X e (A6<|FH r r' ta tb tc):=by rw[YM,pB];exact h
def KC(ta tb:TE):TE:=λσ H Q=>ta σ H λx H1=>IE x λc=>if c=true then tb σ H1 Q else Q (.bl false) H1
def zdh:KC ta tb=OX ta tb:=by funext σ H Q;simp only[KC,OX,TM]
def zdi:KC ta tb σ H Q=ta σ H λx H1=>IE x λc=>if c=true then tb σ H1 Q else Q (.bl false) H1:=rfl
def pAv(h:PE X e (OX ta tb)):PE X e (KC ta tb):=zdh ▸ h
def QS(ta tb:TE):TE:=λσ H Q=>ta σ H λx H1=>IE x λc=>if c=true then Q (.bl true) H1 else tb σ H1 Q
def zdk:QS ta tb=SF ta tb:=by funext σ H Q;simp only[QS,SF,TM]
def zdl:QS ta tb σ H Q=ta σ H λx H1=>IE x λc=>if c=true then Q (.bl true) H1 else tb σ H1 Q:=rfl
def pOv(h:PE X e (SF ta tb)):PE X e (QS ta tb):=zdk ▸ h
def KD(K:μ)(x:V)(H:Hp)(Q:Bool->Prop):Prop:=match x with
 |.bl b=>Q b
 |.int i=>Q<|i != 0
 |.non=>Q false
 |x=>∃ k,KY K x H k/\Q k
def zdn{x:V}{Q:Bool->Prop}:KD K x H Q=∃ k,KY K x H k/\Q k:=by cases x<;>simp[KD,KY]
def zdo{Q:Bool->Prop}:KD K (.bl b) H Q=Q b:=rfl
def zdp{Q:Bool->Prop}:KD K (.int x) H Q=Q (x != 0):=rfl
def zdq{Q:Bool->Prop}:KD K .non H Q=Q false:=rfl
def zdr{Q:Bool->Prop}:KD K (.ref p) H Q=∃ k,KY K (.ref p) H k/\Q k:=rfl
def zds{Q:Bool->Prop}:KD K (.str s) H Q=∃ k,KY K (.str s) H k/\Q k:=rfl
def IF(K:μ)(ta:TE):TT:=λσ H Q=>ta σ H λx H'=>KD K x H' λk=>Q k H'
def zdt:IF K ta=mQ K ta:=by funext σ H Q;simp only[IF,zdn]
def zdu:IF K ta σ H QB=ta σ H λx H'=>KD K x H' λk=>QB k H':=rfl
def pTr(h:PT X e (mQ K ta)):PT X e (IF K ta):=zdt ▸ h
def NT(C:Int->Int->Prop)(g:Int->Int->V):R2:=λx y H Q=>GT x λi=>GT y λj=>C i j/\Q (g i j) H
def pC{C:Int->Int->Prop}{g:Int->Int->V}:NT C g=rI C g:=by funext x y H Q;simp only[NT,rI,QR];simp
def TQ(g:Int->Int->V):R2:=λx y H Q=>GT x λi=>GT y λj=>Q (g i j) H
def zdw{g:Int->Int->V}:TQ g=JX g:=by funext x y H Q;simp only[TQ,JX,QR];simp
def TR(g:Int->V):V->Hp->VK->Prop:=λx H Q=>GT x λi=>Q (g i) H
def zdx{g:Int->V}:TR g=rU g:=by funext x H Q;simp only[TR,rU,QR]
abbrev QT:R2:=TQ λi j=>.int<|i-j
abbrev C3:R2:=NT (λ_ j=>0<j) λi j=>.int<|i%j
abbrev GG:R2:=NT kQ λi j=>.int<|i/j
abbrev rPw:R2:=NT Ll λi j=>.int<|i^j.toNat
abbrev QU:V->Hp->VK->Prop:=TR λi=>.int (-i)
def zdz{C:Int->Int->Prop}{g:Int->Int->V}:NT C g (.int x) (.int y) H Q=(C x y/\Q (g x y) H):=rfl
def zd0{g:Int->Int->V}:TQ g (.int x) (.int y) H Q=Q (g x y) H:=rfl
def zd1{g:Int->V}:TR g (.int x) H Q=Q (g x) H:=rfl
def zd2:BT X (jh .Sub) QT:=by rw[QT,zdw];exact Lp
def zd3:BT X (jh .Mod) C3:=by rw[C3,pC];exact Lx
def zd4:BT X (jh .FloorDiv) GG:=by rw[GG,pC];exact Lw
def zd5:SH X (unaryOp .USub) QU:=by rw[QU,zdx];exact Lz
def rB(K:μ)(x y:V)(H:Hp)(R:tX):Prop:=match x,y with
 |.int i,.int j=>R (decide<|i=j) H
 |.str i,.str j=>R (decide<|i=j) H
 |.bl i,.bl j=>R (decide<|i=j) H
 |.non,.int _=>R false H
 |.int _,.non=>R false H
 |.non,.non=>R true H
 |x,y=>rD K x y H R
def B7(K:μ):R2:=λx y H Q=>rB K x y H λb=>Q<|.bl b
def DQ(K:μ):R2:=λx y H Q=>rB K x y H λb=>Q<|.bl<|!b
def zd6:B7 K (.int x) (.int y) H Q=Q (.bl<|decide<|x=y) H:=rfl
def zd7:B7 K (.str s) (.str s') H Q=Q (.bl<|decide<|s=s') H:=rfl
def zd8:B7 K (.bl b) (.bl b') H Q=Q (.bl<|decide<|b=b') H:=rfl
def zd9:B7 K .non (.int x) H Q=Q (.bl false) H:=rfl
def zea:B7 K (.int x) .non H Q=Q (.bl false) H:=rfl
def zeb:B7 K .non .non H Q=Q (.bl true) H:=rfl
def zec:B7 K (.ref p) (.ref q) H Q=K8 K (.ref p) (.ref q) H Q:=rfl
def zed:B7 K (.ref p) .non H Q=K8 K (.ref p) .non H Q:=rfl
def zee:B7 K .non (.ref p) H Q=K8 K .non (.ref p) H Q:=rfl
def zef:B7 K (.str s) .non H Q=K8 K (.str s) .non H Q:=rfl
def zeg:B7 K .non (.str s) H Q=K8 K .non (.str s) H Q:=rfl
def zeh:DQ K (.int x) (.int y) H Q=Q (.bl<|!decide (x=y)) H:=rfl
def zei:DQ K (.str s) (.str s') H Q=Q (.bl<|!decide (s=s')) H:=rfl
def zej:DQ K (.bl b) (.bl b') H Q=Q (.bl<|!decide (b=b')) H:=rfl
def zek:DQ K .non (.int x) H Q=Q (.bl true) H:=rfl
def zel:DQ K (.int x) .non H Q=Q (.bl true) H:=rfl
def zem:DQ K .non .non H Q=Q (.bl false) H:=rfl
def zen:DQ K (.ref p) (.ref q) H Q=K9 K (.ref p) (.ref q) H Q:=rfl
def zeo:DQ K (.ref p) .non H Q=K9 K (.ref p) .non H Q:=rfl
def zep:DQ K .non (.ref p) H Q=K9 K .non (.ref p) H Q:=rfl
def eC{p q:Addr}(h:K8 K (.ref p) (.ref q) H Q):B7 K (.ref p) (.ref q) H Q:=h
def nC{p q:Addr}(h:K9 K (.ref p) (.ref q) H Q):DQ K (.ref p) (.ref q) H Q:=h
def pD(hu:X.A.units+64<cLine):BT X (dt .Eq) (B7 X.K):=by
 intro AA s σ H x y v u Q I rx ry h;unfold B7 rB at h;split at h;obtain⟨t,rfl⟩:=rx;obtain⟨w,rfl⟩:=ry;exact eq_int<|GB I h rfl;obtain⟨t,rfl⟩:=rx;obtain⟨w,rfl⟩:=ry;exact eq_str<|GB I h rfl;cases rx;cases ry;exact eq_bool<|GB I h rfl;cases rx;obtain⟨t,rfl⟩:=ry;exact PySem.EqNone.eq_none_int<|GB I h rfl;cases ry;obtain⟨t,rfl⟩:=rx;exact PySem.EqNone.eq_int_none<|GB I h rfl;cases rx;cases ry;exact PySem.EqNone.eq_none_none<|GB I h rfl;exact Ug hu AA s σ H _ _ v u Q I rx ry h
def pE(hu:X.A.units+64<cLine):BT X (dt .NotEq) (DQ X.K):=by
 intro AA s σ H x y v u Q I rx ry h;unfold DQ rB at h;split at h;obtain⟨t,rfl⟩:=rx;obtain⟨w,rfl⟩:=ry;exact ne_int<|GB I h rfl;obtain⟨t,rfl⟩:=rx;obtain⟨w,rfl⟩:=ry;exact ne_str<|GB I h rfl;cases rx;cases ry;exact ne_bool<|GB I h rfl;cases rx;obtain⟨t,rfl⟩:=ry;exact PySem.EqNone.ne_none_int<|GB I h rfl;cases ry;obtain⟨t,rfl⟩:=rx;exact PySem.EqNone.ne_int_none<|GB I h rfl;cases rx;cases ry;exact PySem.EqNone.ne_none_none<|GB I h rfl;exact Uh hu AA s σ H _ _ v u Q I rx ry h
def GH:R2:=λx y H Q=>match y with
 |.non=>Q (.bl<|decide<|x=.non) H
 |_=>False
def GW:R2:=λx y H Q=>match y with
 |.non=>Q (.bl<|!decide (x=.non)) H
 |_=>False
def zeq:GH v .non H Q=Q (.bl<|decide<|v=.non) H:=rfl
def zer:GW v .non H Q=Q (.bl<|!decide (v=.non)) H:=rfl
def zes:GH=mO:=by funext x y H Q;cases y<;>simp[GH,mO]
def zet:GW=mP:=by funext x y H Q;cases y<;>simp[GW,mP]
def zeu:BT X (dt .Is) GH:=zes ▸ Mh
def zev:BT X (dt .IsNot) GW:=zet ▸ Mj
def E6(K:μ):Tr->Hp->VK->Prop:=λxs H Q=>FG xs λx=>∃ n,O3 K x H n/\Q (.int n) H
def zew:E6 K=XV K:=by funext xs H Q;simp only[E6,XV,NS];simp
def zex:E6 K vs H Q=FG vs λx=>∃ n:Nat,O3 K x H n/\Q (.int n) H:=rfl
def zey:DT X (.builtin "len") (E6 X.K):=zew ▸ Vk
def LF(K:μ):Tr->Hp->VK->Prop:=λxs H Q=>FG xs λx=>CD x λp=>∃ ys,(SqL K H p ys\/SqT K H p ys)/\∀ l,H l=none->Q (.ref l) (upd H l<|.lst ys)
def zez:LF K=mU K:=by
 funext xs H Q;simp only[LF,NS,GE];exact propext {(by rintro ⟨z,e,p,e',ys,h⟩;exact{p,ys,e' ▸ e,h}),(by rintro ⟨p,ys,e,h⟩;exact⟨_,e,p,rfl,ys,h⟩)}
def ze0:LF K vs H Q=FG vs λx=>CD x λp=>∃ ys,(SqL K H p ys\/SqT K H p ys)/\∀ l,H l=none->Q (.ref l) (upd H l<|.lst ys):=rfl
def ze1:DT X (.type "list") (LF X.K):=zez ▸ Vl
def LG(K:μ):Tr->Hp->VK->Prop:=λxs H Q=>FG xs λx=>CD x λp=>∃ ys,((SqL K H p ys/\∀ l,H l=none->Q (.ref l) (upd H l<|.tup ys))\/(SqT K H p ys/\Q (.ref p) H))
def ze2:LG K=mV K:=by
 funext xs H Q;simp only[LG,NS,GE];exact propext {(by rintro ⟨z,e,p,e',ys,h⟩;exact{p,ys,e' ▸ e,h}),(by rintro ⟨p,ys,e,h⟩;exact⟨_,e,p,rfl,ys,h⟩)}
def ze3:LG K vs H Q=FG vs λx=>CD x λp=>∃ ys,((SqL K H p ys/\∀ l,H l=none->Q (.ref l) (upd H l<|.tup ys))\/(SqT K H p ys/\Q (.ref p) H)):=rfl
def ze4:DT X (.type "tuple") (LG X.K):=ze2 ▸ Vm
def EB(td ty:TE):TE:=λσ H Q=>td σ H λx H1=>ty σ H1 λy H2=>CD x λa=>∃ v,DGet H2 a y (some v)/\Q v H2
def ze5:EB td ty=PR td ty:=by funext σ H Q;simp only[EB,PR,GE];simp
def ze6:EB td ty σ H Q=td σ H λx H1=>ty σ H1 λy H2=>CD x λa=>∃ v,DGet H2 a y (some v)/\Q v H2:=rfl
def pDg(h:PE X e (PR td ty)):PE X e (EB td ty):=ze5 ▸ h
def JD(ty td:TE):TE:=λσ H Q=>ty σ H λy H1=>td σ H1 λx H2=>CD x λa=>∃ o,DGet H2 a y o/\Q (.bl o.isSome) H2
def ze8:JD ty td=PU ty td:=by funext σ H Q;simp only[JD,PU,GE];simp
def ze9:JD ty td σ H Q=ty σ H λy H1=>td σ H1 λx H2=>CD x λa=>∃ o,DGet H2 a y o/\Q (.bl o.isSome) H2:=rfl
def pDi{op:CmpOp}{a b:Expr}(h:PC X op a b (PU ty td)):PC X op a b (JD ty td):=ze8 ▸ h
def IG(ty td:TE):TE:=λσ H Q=>ty σ H λy H1=>td σ H1 λx H2=>CD x λa=>∃ o,DGet H2 a y o/\Q (.bl<|!o.isSome) H2
def zfb:IG ty td=PY ty td:=by funext σ H Q;simp only[IG,PY,GE];simp
def zfc:IG ty td σ H Q=ty σ H λy H1=>td σ H1 λx H2=>CD x λa=>∃ o,DGet H2 a y o/\Q (.bl<|!o.isSome) H2:=rfl
def pDn{op:CmpOp}{a b:Expr}(h:PC X op a b (PY ty td)):PC X op a b (IG ty td):=zfb ▸ h
def FI(td ty tv:TE):TS:=λD σ H=>tv σ H λv H1=>td σ H1 λx H2=>ty σ H2 λy H3=>CD x λa=>∃ H4,DPut H3 a y v H4/\D.nx σ H4
def zfe:FI td ty tv=PZ td ty tv:=by funext D σ H;simp only[FI,PZ,GE];simp
def zff:FI td ty tv D σ H=tv σ H λv H1=>td σ H1 λx H2=>ty σ H2 λy H3=>CD x λa=>∃ H4,DPut H3 a y v H4/\D.nx σ H4:=rfl
def pDp(h:PS X st (PZ td ty tv)):PS X st (FI td ty tv):=zfe ▸ h
def NU(td ty:TE):TE:=λσ H Q=>td σ H λx H1=>CD x λa=>MF H1 a/\ty σ H1 λy H2=>∃ o,DGet H2 a y o/\Q (o.getD .non) H2
def zfh:NU td ty=SQ td ty:=by funext σ H Q;simp only[NU,SQ,GE]
def zfi:NU td ty σ H Q=td σ H λx H1=>CD x λa=>MF H1 a/\ty σ H1 λy H2=>∃ o,DGet H2 a y o/\Q (o.getD .non) H2:=rfl
def pD1(h:PE X e (SQ td ty)):PE X e (NU td ty):=zfh ▸ h
def DJ(ta:TA):TI:=λσ H R=>ta σ H λvs H1=>FG vs λx=>GT x λj=> -(2^62)<=j/\j<2^62/\R (FS 0 j.toNat) H1
def zfk:DJ as=SG as:=by
 funext σ H R;simp only[DJ,NS,QR];congr 1;funext vs H1;exact propext {(by rintro ⟨z,e,j,e',h⟩;exact{j,e' ▸ e,h}),(by rintro ⟨j,e,h⟩;exact⟨_,e,j,rfl,h⟩)}
def pR1(h:PI X tg it (SG as)):PI X tg it (DJ as):=zfk ▸ h
def zfm:BX (DJ as) g tt te k AY σ H Q=as σ H λvs H1=>FG vs λx=>GT x λj=> -(2^62)<=j/\j<2^62/\DU (FS 0 j.toNat) g tt te k AY σ H1 Q:=rfl
def zfn:DG (DJ as) g s1 D σ H=as σ H λvs H1=>FG vs λx=>GT x λj=> -(2^62)<=j/\j<2^62/\GR (FS 0 j.toNat) g s1 D σ H1:=rfl
def CY(K:μ)(tl:TE):TI:=λσ H R=>tl σ H λx H1=>CD x λa=>(((∃ xs,SqL K H1 a xs)/\R (GQ K a) H1)\/((∃ xs,SqT K H1 a xs)/\R (IW K a) H1))
def zfo:CY K tl=P9 K tl:=by funext σ H R;simp only[CY,P9,GE]
def pSq(h:PI X tg it (P9 K tl)):PI X tg it (CY K tl):=zfo ▸ h
def zfq:BX (CY K tl) g tt te k AY σ H Q=tl σ H λx H1=>CD x λa=>(((∃ xs,SqL K H1 a xs)/\DU (GQ K a) g tt te k AY σ H1 Q)\/((∃ xs,SqT K H1 a xs)/\DU (IW K a) g tt te k AY σ H1 Q)):=rfl
def zfr:DG (CY K tl) g s1 D σ H=tl σ H λx H1=>CD x λa=>(((∃ xs,SqL K H1 a xs)/\GR (GQ K a) g s1 D σ H1)\/((∃ xs,SqT K H1 a xs)/\GR (IW K a) g s1 D σ H1)):=rfl
def FJ(K:μ)(ta:TA):TI:=λσ H R=>ta σ H λvs H1=>FG vs λx=>CD x λa=>(∃ xs,SqL K H1 a xs)/\R (LC K a) H1
def zfs:FJ K as=S9 K as:=by
 funext σ H R;simp only[FJ,NS,GE];congr 1;funext vs H1;exact propext {(by rintro ⟨z,e,j,e',h⟩;exact{j,e' ▸ e,h}),(by rintro ⟨j,e,h⟩;exact⟨_,e,j,rfl,h⟩)}
def pEn(h:PI X tg it (S9 K as)):PI X tg it (FJ K as):=zfs ▸ h
def zfu:BX (FJ K as) g tt te k AY σ H Q=as σ H λvs H1=>FG vs λx=>CD x λa=>(∃ xs,SqL K H1 a xs)/\DU (LC K a) g tt te k AY σ H1 Q:=rfl
def zfv:DG (FJ K as) g s1 D σ H=as σ H λvs H1=>FG vs λx=>CD x λa=>(∃ xs,SqL K H1 a xs)/\GR (LC K a) g s1 D σ H1:=rfl
def IH(ta:TE):TO:=λσ H Q=>ta σ H λx H1=>GT x λi=>Q (some i) H1
def zfw:IH ta=O9 ta:=by funext σ H Q;simp only[IH,O9,QR]
def zfx:IH ta σ H QO=ta σ H λx H1=>GT x λi=>QO (some i) H1:=rfl
def pPt(h:PO X o (O9 ta)):PO X o (IH ta):=zfw ▸ h
def LH(K:μ)(n:Nat)(t:FR):TG:=λv σ H Q=>CD v λa=>∃ xs,SqT K H a xs/\xs.length=n/\t xs σ H Q
def zfz:LH K k gs=FE K k gs:=by funext v σ H Q;simp only[LH,FE,GE];simp
def zf0:LH K k gs v σ H QG=CD v λa=>∃ xs,SqT K H a xs/\xs.length=k/\gs xs σ H QG:=rfl
def pTp(h:PG X e (FE K k gs)):PG X e (LH K k gs):=zfz ▸ h
def JE:FR:=λvs σ H Q=>QQ vs<|Q σ H
def zf2:JE=FD:=by funext vs σ H Q;simp only[JE,FD,zco]
def zf3:JE vs σ H QG=QQ vs (QG σ H):=rfl
def pGn(h:HU X es FD):HU X es JE:=zf2 ▸ h
def E7(g:TG)(gs:FR):FR:=λvs σ H Q=>QN vs λv r=>g v σ H λσ' H'=>gs r σ' H' Q
def zf5:E7 g gs=DF g gs:=by funext vs σ H Q;simp only[E7,DF,zcn]
def zf6:E7 g gs vs σ H QG=QN vs λv r=>g v σ H λσ' H'=>gs r σ' H' QG:=rfl
def pGc(h:HU X es (DF g gs)):HU X es (E7 g gs):=zf5 ▸ h
def EX:V->Tr->Hp->VK->Prop:=λx vs H Q=>CD x λl=>FG vs λy=>∃ xs,H l=some (.lst xs)/\xs.length<sizeLine/\Q .non (upd H l<|.lst<|xs++[y])
def zf8:EX=lS:=by
 funext x vs H Q;simp only[EX,NS,GE];exact propext {(by rintro ⟨l,e,y,e',xs,h⟩;exact⟨l,xs,y,e,e',h⟩),(by rintro ⟨l,xs,y,e,e',h⟩;exact⟨l,e,y,e',xs,h⟩)}
def zf9:PN X "list.append" EX:=zf8 ▸ Rc
end
section
variable{α :Sort _}{p: α ->Prop}{x: α}{b c d:Prop}
def qF:(∃ _: α,False)=False:=eq_false exists_false
def qD[Decidable b]:(decide b=false)=¬ b:=propext decide_eq_false_iff_not
def qR:(∃ x,p x/\b)=((∃ x,p x)/\b):=propext exists_and_right
def qL:(∃ x,b/\p x)=(b/\∃ x,p x):=propext exists_and_left
def q1:(∃ y,x=y/\p y)=p x:=propext exists_eq_left'
def q2:(∃ y,y=x/\p y)=p x:=propext exists_eq_left
def q3:(∃ y,x=y)=True:=eq_true exists_eq'
def q4:(∃ y,y=x)=True:=eq_true exists_eq
def qA:((b/\c)/\d)=(b/\c/\d):=propext and_assoc
def qC[Nonempty α]:(α ->b)=b:=propext<|forall_const α
end
section
variable{P:bv}{w:World}{A:dk}{E:tV}{s:π}
def zga{a:Addr}{kvs:List (AM × Value)}{ks:Xu}{R:Su->π->Prop}(hh:A.handled=none)(hs:(a==ia)=false)(D:s.heap.DictOf (DE P w) a kvs)(hn:kvs.length<=sizeLine)(hk:kvs.map (·.1)=ks.map λi=>(yi i:AM))
  (q:∀ h' tk vs,(∀ b o,s.heap.get? b=some o->h'.get? b=some o)->s.heap.objs.size<=h'.objs.size->Qi vs ks->R vs { s with heap:=h',toks:=tk }):wpAny (model P w) A (collect<|.ref a) R E s:=by
 obtain⟨od,es,ep,ho,hex,hdat,h1,h2,h3⟩:=D
 have A0:=av ho
 have DA:∀ h':Heap,(∀ b o,s.heap.get? b=some o->h'.get? b=some o)->h'.DictAt (DE P w) a kvs ep:=λh' k=>{od,es,k _ _ ho,hex,hdat,h1,h2,h3}
 refine δ<|Ct<|jw Cu ?_;refine δ<|dh<|ν {tm PySem.F.plain_list_iadd _,jw Kn ?_}
 show wpAny _ A.in1 (pq (.ref s.heap.objs.size) (.ref a) (.ref s.heap.objs.size)) _ _ _;generalize eN:s.heap.objs.size=N at A0 ⊢
 have gN:(s.heap.push { cls:=.type "list",data:=.seq ([]:Su).toArray }).get? N=some { cls:=.type "list",data:=.seq #[] }:=eN ▸ aj _ rfl
 have keep1:∀ b o,s.heap.get? b=some o->(s.heap.push { cls:=.type "list",data:=.seq ([]:Su).toArray }).get? b=some o:=λb o e=>ξ _ e
 have big:(s.heap.push { cls:=.type "list",data:=.seq ([]:Su).toArray }).objs.size=N+1:=by rw[qz,eN]
 revert gN keep1 big;generalize s.heap.push { cls:=.type "list",data:=.seq ([]:Su).toArray }=h0;intro gN keep1 big
 have T1:∀ h':Heap,(∀ b o,h0.get? b=some o->h'.get? b=some o)->∀ tk,({ s with heap:=h',toks:=tk }:π).TypeIs (.ref a) "dict":=λh' k tk=>{od,k _ _<|keep1 _ _ ho,hex.1}
 unfold pq;refine δ<|u_ (T:="dict") (T1 h0 (λv v e=>e) s.toks) ?_
 have ne:lw (.ref N) (.ref a)=false:=by
  simp only[lw,beq_eq_false_iff_ne];exact g_ A0
 have n1:(jt "dict" == jt "list")=false:=by decide
 have n2:(jt "dict" == jt "tuple")=false:=by decide
 simp only[ne,n1,n2,oq,uq,if_false];refine δ<|wpAny_pyIter_dict (knd:=DE P w) (s:={ s with heap:=h0 }) hs (DA h0 keep1) ?_
 have hI:h0.objs.size≠a:=g_ (by rw[big];exact jb A0)
 have k1:∀ b o,h0.get? b=some o->(h0.push { cls:=.type "dict_keyiterator",data:=.fields #[.ref a,.int 0 0,.int kvs.length 0,.int ep 0] }).get? b=some o:=λb o e=>ξ _ e
 have gI:(h0.push { cls:=.type "dict_keyiterator",data:=.fields #[.ref a,.int 0 0,.int kvs.length 0,.int ep 0] }).IsKeyIter h0.objs.size a 0 kvs.length ep:={_,aj _ rfl,rfl,rfl}
 revert k1 gI
 show _->_->wpAny _ _ _ _ _ { s with heap:=h0.push { cls:=.type "dict_keyiterator",data:=.fields #[.ref a,.int 0 0,.int kvs.length 0,.int ep 0] } };generalize h0.push { cls:=.type "dict_keyiterator",data:=.fields #[.ref a,.int 0 0,.int kvs.length 0,.int ep 0] }=h1;intro k1 gI
 have W:=Walks.dictKeys (prog:=P) (w:=w) (A:=A.in1) (knd:=DE P w) (by simpa using hh) h0.objs.size a (fj hI) kvs ep;refine δ<|gb<|zbd (T1 h1 k1 s.toks) ?_;rw[if_pos (by decide)];refine δ<|qw ?_;refine δ ?_
 show wpAny _ _ (updateSeq N (·.push .none)>>=λv=>updateSeq N (·.pop)) _ _ _
 have g1:=k1 _ _ gN;refine δ<|uf (s:={ s with heap:=h1 }) g1 rfl ?_
 have g2:=c_ (gr (·.push ix)) g1 rfl;refine uf (hz:=by seq_fits) g2 rfl ?_
 have g3:=c_ (gr (·.pop)) g2 rfl
 have oth:∀ b o,b≠N->h1.get? b=some o->((h1.update N (gr (·.push ix))).update N (gr (·.pop))).get? b=some o:=λb o hb e =>
  (ck _ _<|fj hb).trans ((ck _ _<|fj hb).trans e)
 have Nfp:N∉[h0.objs.size,a]:=λz=>by
  simp only[ax,b_,or_false]at z;rcases z with z|z
  ·rw[big]at z;exact absurd z<|bd<|fu _
  ·exact g_ A0 z
 refine ν {tm PySem.F.plain_extend_loop _,?_}
 have st0:=W.frame 0 h1 ((h1.update N (gr (·.push ix))).update N (gr (·.pop))) {gI,DA _ λb o e=>k1 _ _<|keep1 _ _ e} λb hb o e=>oth b o (λz=>Nfp<|z ▸ hb) e;refine De W.toS hn N Nfp (.ref N) kvs.length 0 { s with heap:=(h1.update N (gr (·.push ix))).update N (gr (·.pop)) } #[] _ rfl (bu _) st0 g3 (Qr _) λs' BO c m g4 hacc=>?_
 show wpAny _ A (load N>>=_) _ _ _;refine δ<|Nt g4 ?_;refine ν ?_
 show R BO.toList s';obtain⟨h3',gn3,dr3,tk3,os3⟩:=s'
 have a1:gn3=s.gens:=m.gens
 have a2:dr3=s.drawn:=m.drawn
 have a3:os3=s.os:=m.os;subst a1;subst a2;subst a3;refine q _ _ _ (λb o e=>?_) (by rw[eN];exact jz<|av g4) ?_
 ·have hb:b<N:=eN ▸ av e;refine m.heap b o (λz=>?_) (oth b o (bd hb) (k1 _ _<|keep1 _ _ e));simp only[ax,b_,or_false]at z;rcases z with z|z
  ·exact bd hb z
  ·rw[big]at z;exact bd (jb hb) z
 ·refine SZ (Zh (by have h5:=congrArg lb hk;have h6:=hacc.1;simp at h5;simp;omega) λi y u ey eu=>?_);rw[gq]at eu;obtain⟨k,x,e1,e2⟩:=hacc.2 i u eu
  have e3:(kvs.map (·.1))[i]? =some k:=by rw[τ,e1];rfl
  rw[hk,τ]at e3;rw[τ]at ey;cases ez:ks[i]? with
  |none=>rw[ez]at e3;cases e3
  |some z =>
   rw[ez]at e3 ey;cases e3;cases ey;rcases HQ (show KU (yi z) u=true from e2)with⟨_,_,e5,_⟩|⟨x',t,e5,e6⟩
   ·cases e5
   ·cases e5;exact⟨t,e6⟩
def zgb{a:Addr}{kvs:List (AM × Value)}{ms:Xu}{Q:tV}(hh:A.handled=none)(hs:(a==ia)=false)(D:s.heap.DictOf (DE P w) a kvs)(hk:kvs.map (·.1)=ms.map λi=>(yi i:AM))(hn:ms.length<64)
  (q:∀ D h' tk c out ks,(∀ b o,s.heap.get? b=some o->h'.get? b=some o)->s.heap.objs.size<=D->h'.get? D=some (seqObj "list" out c)->Qi out.toList ks->ks.Perm ms->D_ ks=true->Q (.ref D) { s with heap:=h',toks:=tk }) :
  wpAny (model P w) A (call (.builtin "sorted") [.ref a]) Q E s:=by
 refine ye kind_sorted plain_sorted entry_sorted (args_sorted1 _) ?_
 have B9:kvs.length=ms.length:=by simpa using (congrArg lb hk)
 refine δ  (ν (δ (zga  (hh) hs D (by rw[qt];lia) hk λh1 tk vs k1 size_le hi=>?_)))
 have hl:vs.length<64:=by rw[StrsAre.length hi];exact hn
 have g:(h1.push _).get? _=some (seqObj "list" vs.toArray 0):=aj _ rfl;refine δ (wpAny_newList ?_ (by rw[qt];lia));refine δ (gb (dg slot_list_sort ⟨_,g,rfl⟩ entry_list_sort (list_sort_treeK strKind_oneLt g (StrsAre.keysOf hi) (λv₁ v₂ CU e=>keyKind_strs (by rw[<-e];exact hi)) hl λst' hp hs=>{_,rfl,?_}) (args_list_sort _)));obtain⟨c,gc⟩:=sortedHeap_at   g;obtain⟨ks',i1,p1,r1⟩:=sorted_out_str hi hp hs;refine ν {_,rfl,q _ _ tk c _ _ (λb o e=>?_) size_le gc i1 p1 r1}
 have hb:=av<|k1 _ _ e;rw[sortedHeap_old (bd hb) (by rw[qz];exact jb hb)];exact ξ _<|k1 _ _ e
end
section
variable{X:Cx}
def TU(K:μ):Tr->Hp->VK->Prop:=λxs H Q=>∃ (a:Addr) (kvs:tZ) (ms:Xu),xs=[.ref a]/\H a=some (.dK kvs)/\kvs.map (·.1)=ms.map (λi=>(yi i:AM))/\ms.length<64 /\
  ∀ (D:Addr) (ks:Xu),H D=none->ks.Perm ms->D_ ks=true->Q (.ref D) (upd H D<|.lst<|ks.map V.str)
def zgc(hc:X.calm=true):DT X (.builtin "sorted") (TU X.K):=by
 rintro AA s σ H xs us Q I r ⟨a,kvs,ms,rfl,ha,hk,hn,q⟩;obtain⟨z,hs,vs,rel,D⟩:=W9 I.hok ha;obtain⟨u,rfl,rfl⟩:=FT r;refine zgb (I.ok.hd hc) hs D (by rw[oU rel];exact hk) hn λD h' tk c out ks k hD g hi pk hr=>?_
 have hl:ks.length<64:=by rw[pk.length_eq];exact hn
 refine{.ref D,_,I.laid  k hD ?_,rfl,q D ks (I.hok.fresh hD) pk hr};exact{by rw[ζ,qt];lia,_,c,X9 hi,g}
def TY(K:μ)(n:Nat)(t:FR):TG:=λv σ H Q=>CD v λa=>∃ xs,SqL K H a xs/\xs.length=n/\t xs σ H Q
def zgd{K:μ}{n:Nat}{t:FR}{v:V}{σ:St}{H:Hp}{Q:St->Hp->Prop}:TY K n t v σ H Q=CD v λa=>∃ xs,SqL K H a xs/\xs.length=n/\t xs σ H Q:=rfl
def zge{es:Vu}{k:Nat}{t:FR}{n:Nat}{pos:Pos}(hc:X.calm=true)(h:HU X es t)
  (hn:(ul es X.env).length=n:=by rfl) (hst:(ul es X.env).findIdx? (·.1)=none:=by rfl):PG X (.Tuple es k pos) (TY X.K n t):=by
 intro AA s σ H v u Q I r hw;cases v with
 |ref a =>
  obtain⟨xs,hq,hl,hw⟩:=hw;cases r;obtain⟨AJ,rv,pl,hz⟩:=I.list hq;rw[arm_assign_Tuple];refine δ<|y_ ?_;unfold unpack;rw[hn,hst,(by simp[<-hl,rv.length]:n=AJ.toArray.size)];refine δ<|gb<|W.kun_itemsOf (I.ok.hd hc) pl.isList λh' hx=>?_
  have I1:Inv X AA σ H { s with heap:=h' }:=I.kept (t':=s.toks) λb o e=>hx b o (bd<|av e) e;exact h AA _ σ H xs _ Q I1 (by simpa using rv) hw
 |_=>exact hw.elim
end
abbrev Ad:=String->Addr
def SameBut(F:Addr->Prop)(H H':Hp):Prop:=∀ b o,H b=some o->¬ F b->H' b=some o
structure DH(K:μ)(a:Ad):Prop where
 cl:Cls K (a "Plank")
 nC:NoAttr K (a "Plank") "contents"
 nW:NoAttr K (a "Plank") "width"
 nN:NoAttr K (a "Plank") "written"
def pf(cl:Addr)(w n:Int):tT:=[("contents",.ref cl),("width",.int w),("written",.int n)]
def zgf:¬ ("contents":Str)="width":=by decide
def zgg:¬ ("contents":Str)="written":=by decide
def zgh:¬ ("width":Str)="written":=by decide
def TZ(cl:Addr)(w n:Int):(pf cl w n).lookup ("contents":Str)=some (V.ref cl):=by simp[pf]
def pF(cl:Addr)(w n:Int):(pf cl w n).lookup ("width":Str)=some (V.int w):=by
 simp[pf,aw,(beq_eq_false_iff_ne.mpr<|fj zgf)]
def zgi(cl:Addr)(w n:Int):(pf cl w n).lookup ("written":Str)=some (V.int n):=by
 simp[pf,aw,(beq_eq_false_iff_ne.mpr<|fj zgg),(beq_eq_false_iff_ne.mpr<|fj zgh)]
def LI(cl:Addr)(w n:Int){m:Str}(h1:¬ m="contents")(h2:¬ m="width")(h3:¬ m="written"):(pf cl w n).lookup m=none:=by
 simp[pf,aw,(beq_eq_false_iff_ne.mpr h1),(beq_eq_false_iff_ne.mpr h2),(beq_eq_false_iff_ne.mpr h3)]
abbrev _root_.t5:=List (List V)
structure PlankAt(a:Ad)(H:Hp)(p cl:Addr)(w:Nat)(rows:t5)(n:Nat):Prop where
 ob:∃ dx,H p=some (.ins (a "Plank") dx (pf cl w n))
 ls:∃ ts:Uu,H cl=some (.lst<|ts.map V.ref)/\Paired (λt r=>H t=some (.tup r)) ts rows
 wd:∀ r∈rows,r.length=w
 sz:rows.length<=1000
 sw:w<=1000
def PlankAt.ne(P:PlankAt a H p cl w rows n):p≠cl:=by
 obtain⟨⟨dx,h1⟩,⟨ts,h2,y⟩,y⟩:=P;exact BD h1 h2 (by intro z;cases z)
def PlankAt.same(P:PlankAt a H p cl w rows n)(s:Same H H'):PlankAt a H' p cl w rows n:=by
 obtain⟨⟨dx,e1⟩,⟨ts,e2,e3⟩,r1,r2,r3⟩:=P;exact{{dx,s _ _ e1},{ts,s _ _ e2,Paired.mapP e3 λt r q=>s _ _ q},r1,r2,r3}
local macro_rules
 |`(command|example : ($x:ident) := $t:term)=>do
  let i:=Lean.mkIdent
  `(command|def $x:ident ($(i `K):ident : μ) ($(i `a):ident : Ad) : Sp := fun $(i `vs):ident $(i `H):ident $(i `Q):ident $(i `E):ident => $t)
example:(T2):=∃ (p dx:Addr) (m w:Nat),vs=[.ref p,.int m,.int w]/\DH K a/\H p=some (.ins (a "Plank") dx [])/\m<=1000/\1<=w/\w<=1000 ∧
 ∀ cl H',H cl=none->PlankAt a H' p cl w (bg m<|bg w .non) 0->SameBut (· =p) H H'->Q .non H'
example:(MJ):=∃ p cl w rows n,vs=[.ref p]/\DH K a/\PlankAt a H p cl w rows n/\Q (.int rows.length) H
example:(T3):=∃ (p cl:Addr) (w:Nat) (rows:t5) (n:Nat),vs=[.ref p]/\DH K a/\PlankAt a H p cl w rows n/\Q (.int w) H
example:(MK):=∃ (p cl:Addr) (w:Nat) (rows:t5) (n:Nat) (b:Int),vs=[.ref p,.int b]/\DH K a/\PlankAt a H p cl w rows n /\
 (0<=b->b<rows.length->Q .non H)/\(b<0\/rows.length<=b->E (.ref<|a "NoBlock") none H)
example:(KE):=∃ (p cl:Addr) (w:Nat) (rows:t5) (n:Nat) (b:Int),vs=[.ref p,.int b]/\DH K a/\PlankAt a H p cl w rows n /\
 (∀ (i:Nat) row,b=i->rows[i]? =some row->∀ l,H l=none->Q (.ref l) (upd H l<|.lst row))/\(b<0\/rows.length<=b->E (.ref<|a "NoBlock") none H)
example:(QW):=∃ (p cl:Addr) (w:Nat) (rows:t5) (n:Nat) (b:Int) (v:Addr) (xs:Tr),vs=[.ref p,.int b,.ref v]/\DH K a/\PlankAt a H p cl w rows n/\SqL K H v xs/\xs.length<=2000 /\
 (∀ (i:Nat),b=i->i<rows.length->xs.length=w->∀ H',PlankAt a H' p cl w (rows.set i xs) (n+1)->SameBut (λx=>x=p\/x=cl) H H'->Q .non H') /\
 (b<0\/rows.length<=b\/xs.length≠w->E (.ref<|a "NoBlock") none H)
def BB{K:μ}{H:Hp}{p:Addr}{xs:Tr}{i:Int}{n:Nat}{v:V}{Q:VK}(h:H p=some (.tup xs))(hi:i=n)(hx:xs[n]? =some v)(q:Q v H):BR K (.ref p) (.int i) H Q :=
 .inr (.inl (x4 p xs i v {rfl,rfl,SqT.of h,by rw[hi];exact W1 hx,q}))
def NV(h:fs≠fs'):HO.ins C dx fs≠HO.ins C' dx' fs':=by
 intro z;injection z with _ _ z
 exact h z
def pG(xs:Tr)(h:0<=k):FU xs none (some k)=xs.take k.toNat:=by
 unfold FU
 have e:HT.sIx xs.length xs.length (some k)=min k.toNat xs.length:=by
  show(if k<0 then(k+xs.length).toNat else min _ _)=_;rw[if_neg (by lia)]
 rw[HT.sIx_none,Om,List.take_eq_take_iff]
 lia
def YN(xs:Tr)(h:0<=k):FU xs (some k) none=xs.drop k.toNat:=by
 unfold FU
 have e:HT.sIx xs.length 0 (some k)=min k.toNat xs.length:=by
  show(if k<0 then(k+xs.length).toNat else min _ _)=_;rw[if_neg (by lia)]
 rw[e];rcases fe _ _ with z|z
 rw[ui (jz z),jd (by rw[ke];exact υ _)];rw[Ku z,List.drop_of_length_le z];simp
def T6{K:μ}{H:Hp}{p:Addr}{xs:Tr}{lo hi:Option Int}{Q:VK}(h:SqL K H p xs)(q:∀ r,H r=none->Q (.ref r) (upd H r<|.lst<|FU xs lo hi)):J7 K (.ref p) lo hi H Q:=.inl<|x2 p xs ⟨rfl,h,q⟩
def SameBut.refl(H:Hp):SameBut F H H:=λz z e z=>e
def SameBut.trans(s:SameBut F H H')(t:SameBut F H' H2):SameBut F H H2:=λb o e n=>t _ _ (s _ _ e n) n
def SameBut.wide(s:SameBut F H H')(i:∀ x,F x->G x):SameBut G H H':=λb o e n=>s _ _ e λz=>n<|i _ z
def Same.sb(s:Same H H'):SameBut F H H':=λb o e z=>s b o e
def SameBut.upd(s:SameBut F H H')(h:F p\/H p=none):SameBut F H (upd H' p o):=λb u e n=>by
 have:b≠p:=by
  rcases h with h|h
  exact λz=>n<|z ▸ h;exact BE e h
 rw[AG this];exact s _ _ e n
structure Ch where
 blk:Nat
 cell:Nat
 val:V
 nd:Zu
abbrev _root_.Rr:=List Ch
def ML:Rr->Int->Int->Option Nat
 | [],_,_=>none
 |c::r,i,j=>if(c.blk:Int)=i/\(c.cell:Int)=j then some r.length else ML r i j
def EC(cs:Rr)(i j:Int):Option Nat:=ML cs.reverse i j
def GY:Rr->Nat->ad
 | [],_=>[]
 |c::r,b=>if c.blk=b then GY r b++[r.length]else GY r b
def C9(cs:Rr)(b:Nat):ad:=GY cs.reverse b
def YO(cs:Rr)(c:Ch)(i j:Int):EC (cs++[c]) i j=if(c.blk:Int)=i/\(c.cell:Int)=j then some cs.length else EC cs i j:=by
 simp[EC,ML]
def zgj(cs:Rr)(c:Ch)(b:Nat):C9 (cs++[c]) b=if c.blk=b then C9 cs b++[cs.length]else C9 cs b:=by
 simp[C9,GY]
def YQ:∀ {l:Rr} {i j:Int} {k:Nat},ML l i j=some k->k<l.length
 | [],_,_,_,h=>by cases h
 |c::r,i,j,k,h=>by
  unfold ML at h;split at h;obtain rfl:=ι h;simp;exact da<|YQ h
def T7(h:EC cs i j=some k):k<cs.length:=by
 have:=YQ h
 rwa [ie]at this
def YR:∀ {l:Rr} {b k:Nat},k∈GY l b->k<l.length
 | [],_,_,h=>by cases h
 |c::r,b,k,h=>by
  unfold GY at h;split at h;rcases ao.mp h with h|h
  exact da<|YR h;rw[ρ.mp h];simp;exact da<|YR h
def YS(h:k∈C9 cs b):k<cs.length:=by
 have:=YR h
 rwa [ie]at this
def pH:∀ (l:Rr) (b:Nat),(GY l b).length<=l.length
 | [],_=>υ _
 |c::r,b=>by
  have:=pH r b;unfold GY;split<;>simp<;>omega
def pJ(cs:Rr)(b:Nat):(C9 cs b).length<=cs.length:=by
 have:=pH cs.reverse b
 rwa [ie]at this
def GI(pl:Addr)(v:V)(nt:Addr):tT:=[("place",.ref pl),("value",v),("needs",.ref nt)]
def bf(gp m mi lt ou:Addr):tT:=[("ground",.ref gp),("made",.ref m),("made_in",.ref mi),("latest",.ref lt),("outs",.ref ou)]
def DK(a b:Str):Bool:=a==b
section
variable{pl nt gp m mi lt ou:Addr}{v:V}
def A8(h:DK a b=false):(a==b)=false:=h
def zgk:(GI pl v nt).lookup ("place":Str)=some (V.ref pl):=by simp[GI]
def pK:(GI pl v nt).lookup ("value":Str)=some v:=by
 simp[GI,aw,A8 (a:="value") (b:="place") (by decide)]
def zgl:(GI pl v nt).lookup ("needs":Str)=some (V.ref nt):=by
 simp[GI,aw,A8 (a:="needs") (b:="place") (by decide),A8 (a:="needs") (b:="value") (by decide)]
def zgm(h:DK g f=false):BP f y ((g,x)::r)=(g,x)::BP f y r:=by
 have:¬ g=f:=λe=>by rw[e]at h;simp[DK]at h
 simp[BP,this]
def QX:(bf gp m mi lt ou).lookup ("ground":Str)=some (V.ref gp):=by simp[bf]
def MM:(bf gp m mi lt ou).lookup ("made":Str)=some (V.ref m):=by
 simp[bf,aw,A8 (a:="made") (b:="ground") (by decide)]
def YT:(bf gp m mi lt ou).lookup ("made_in":Str)=some (V.ref mi):=by
 simp[bf,aw,A8 (a:="made_in") (b:="ground") (by decide),A8 (a:="made_in") (b:="made") (by decide)]
def pL:(bf gp m mi lt ou).lookup ("latest":Str)=some (V.ref lt):=by
 simp[bf,aw,A8 (a:="latest") (b:="ground") (by decide),A8 (a:="latest") (b:="made") (by decide),A8 (a:="latest") (b:="made_in") (by decide)]
def T8:(bf gp m mi lt ou).lookup ("outs":Str)=some (V.ref ou):=by
 simp[bf,aw,A8 (a:="outs") (b:="ground") (by decide),A8 (a:="outs") (b:="made") (by decide),A8 (a:="outs") (b:="made_in") (by decide),A8 (a:="outs") (b:="latest") (by decide)]
def DV(h:(DK x "ground" || DK x "made" || DK x "made_in" || DK x "latest" || DK x "outs")=false:=by decide +kernel):(bf gp m mi lt ou).lookup x=none:=by
 simp only[rf]at h;obtain⟨⟨⟨⟨h1,h2⟩,h3⟩,h4⟩,h5⟩:=h;simp[bf,aw,A8 h1,A8 h2,A8 h3,A8 h4,A8 h5]
def zgn:BP "outs" (.ref ou) (BP "latest" (.ref lt) (BP "made_in" (.ref mi) (BP "made" (.ref m) (BP "ground" (.ref gp) []))))=bf gp m mi lt ou:=by
 rfl
end
structure pM(K:μ)(C D:Addr):Prop where
 cl:Cls K C
 nG:NoAttr K C "ground"
 nM:NoAttr K C "made"
 nI:NoAttr K C "made_in"
 nL:NoAttr K C "latest"
 nO:NoAttr K C "outs"
 cc:Cls K D
 nP:NoAttr K D "place"
 nV:NoAttr K D "value"
 nN:NoAttr K D "needs"
def ChAt(D:Addr)(H:Hp)(x:Addr)(c:Ch):Prop:=∃ dx pl nt,H x=some (.ins D dx<|GI pl c.val nt)/\H pl=some (.tup [.int c.blk,.int c.cell])/\H nt=some (.tup<|c.nd.map V.int)
structure BA where
 b:Addr
 gp:Addr
 m:Addr
 mi:Addr
 lt:Addr
 ou:Addr
 ls:Uu
 cl:Addr
def BA.F(A:BA)(x:Addr):Prop:=x=A.m\/x=A.mi\/x∈A.ls\/x=A.lt\/x=A.ou\/x=A.cl
def KeysOk(DS:tZ)(n:Nat):Prop:=(DS.map (·.1)).Nodup/\∀ p∈DS,∃ x:Nat,p.1=Gr (x:Int)/\x<n
def KeysOk.mono(h:KeysOk DS n)(hm:n<=m):KeysOk DS m:={h.1,λp hp=>by obtain⟨x,e,hx⟩:=h.2 p hp;exact{x,e,ψ hx hm}}
def KeysOk.len(h:KeysOk DS n):DS.length<=n:=by
 have:=mv  h.1 λk hk=>by
  obtain⟨p,hp,rfl⟩:=af.mp hk;obtain⟨x,e,hx⟩:=h.2 p hp;rw[e];exact af.mpr {x,ak.mpr hx,rfl}
 simpa using this
def KeysOk.put(h:KeysOk DS n)(hk:k<n)(hn:BF DS (.inl (k:Int))=none)(v:V):KeysOk (B0 DS (.inl (k:Int)) v) n:=by
 refine{Tj v h.1 hn,λp hp=>?_};rw[K2 v hn]at hp;rcases ao.mp hp with hp|hp
 exact h.2 p hp;rw[ρ.mp hp];exact⟨k,rfl,hk⟩
structure BookIn(C D:Addr)(H:Hp)(A:BA)(w:Nat)(cs:Rr)(outs:Tu):Prop where
 ob:∃ dx,H A.b=some (.ins C dx<|bf A.gp A.m A.mi A.lt A.ou)
 made:∃ chs:Uu,H A.m=some (.lst<|chs.map V.ref)/\Paired (ChAt D H) chs cs
 mil:H A.mi=some (.lst<|A.ls.map V.ref)
 mic:∀ (i:Nat) l,A.ls[i]? =some l->H l=some (.lst<|(C9 cs i).map λ(k:Nat)=>V.int k)
 nd:A.ls.Nodup
 lat:∃ kvs,H A.lt=some (.dT kvs)/\(∀ i j:Int,BF kvs [.inl i,.inl j]=(EC cs i j).map λ(k:Nat)=>V.int k)/\kvs.length<=cs.length
 out:∃ DS,H A.ou=some (.dK DS)/\(∀ k:Int,(BF DS<|.inl k).isSome=outs k)/\KeysOk DS cs.length
 sz:cs.length<=990
 inn:∀ c∈cs,c.blk<A.ls.length/\c.cell<w
 need:∀ (k:Nat) c,cs[k]? =some c->(∀ x∈c.nd,0<=x/\x<k)/\c.nd.Pairwise (· <·)/\c.nd.length<=100
 ap:A.m≠A.mi/\A.m∉A.ls/\A.mi∉A.ls/\A.cl≠A.m/\A.cl≠A.mi/\A.cl∉A.ls
 chn:∀ (k:Nat) c,cs[k]? =some c->∀ j,EC (cs.take k) c.blk c.cell=some j->(j:Int)∈c.nd
structure BookAt(a:Ad)(C:Addr)(H:Hp)(A:BA)(w:Nat)(rows:t5)(n:Nat)(cs:Rr)(outs:Tu):Prop where
 bk:BookIn C (a "Change") H A w cs outs
 pk:PlankAt a H A.gp A.cl w rows n
 nb:A.ls.length=rows.length
def ER(o:Option HO):Prop:=(∀ xs,o≠some (.tup xs))/\∀ C dx fs,o≠some (.ins C dx fs)
def ChAt.sb(s:SameBut G H H')(g:∀ x,G x->ER (H x))(h:ChAt D H x c):ChAt D H' x c:=by
 revert h;apply u3;rintro dx pl nt ⟨e1,e2,e3⟩;exact x3 dx pl nt {s _ _ e1 λz=>(g _ z).2 _ _ _ e1,s _ _ e2 λz=>(g _ z).1 _ e2,s _ _ e3 λz=>(g _ z).1 _ e3}
def BookIn.sb(B:BookIn C D H A w cs outs)(s:SameBut G H H')(g:∀ x,G x->ER (H x))(f:∀ x,G x->¬ A.F x):BookIn C D H' A w cs outs:=by
 obtain⟨⟨dx,e1⟩,⟨chs,e2,e3⟩,e4,e5,e6,⟨kvs,e7,e8⟩,⟨DS,e9,e10⟩,r1,r2,r3,r4,r5⟩:=B;refine⟨{dx,s _ _ e1 λz=>(g _ z).2 _ _ _ e1},{_,s _ _ e2 λz=>f _ z<|.inl rfl,Paired.mapP e3 λx c h=>h.sb s g},s _ _ e4 λz=>f _ z<|.inr<|.inl rfl,λi l h=>s _ _ (e5 i l h) λz=>f _ z<|.inr<|.inr<|.inl<|η h,e6,
  {_,s _ _ e7 λz=>f _ z<|.inr<|.inr<|.inr<|.inl rfl,e8},{_,s _ _ e9 λz=>f _ z<|.inr<|.inr<|.inr<|.inr<|.inl rfl,e10},r1,r2,r3,r4,r5⟩
def PlankAt.sbL(P:PlankAt a H p cl w rows n)(s:SameBut G H H')(g:∀ x,G x->ER (H x))(h:¬ G cl):PlankAt a H' p cl w rows n:=by
 obtain⟨⟨dx,e1⟩,⟨ts,e2,e3⟩,r1,r2,r3⟩:=P;exact{{dx,s _ _ e1 λz=>(g _ z).2 _ _ _ e1},{ts,s _ _ e2 h,Paired.mapP e3 λt r q=>s _ _ q λz=>(g _ z).1 _ q},r1,r2,r3}
def BookAt.sb(B:BookAt a C H A w rows n cs outs)(s:SameBut G H H')(g:∀ x,G x->ER (H x))(f:∀ x,G x->¬ A.F x):BookAt a C H' A w rows n cs outs :=
 {B.bk.sb s g f,B.pk.sbL s g λz=>f _ z<|.inr<|.inr<|.inr<|.inr<|.inr rfl,B.nb}
def BookAt.same(B:BookAt a C H A w rows n cs outs)(s:Same H H'):BookAt a C H' A w rows n cs outs :=
 B.sb (G:=λy=>False) (Same.sb s) (λy z=>z.elim) λy z=>z.elim
def BookAt.off(B:BookAt a C H A w rows n cs outs)(h:H x=none):¬ A.F x:=by
 obtain⟨⟨y,⟨chs,e2,y⟩,e4,e5,y,⟨kvs,e7,y⟩,⟨DS,e9,y⟩,y⟩,⟨y,⟨ts,e11,y⟩,y⟩,y⟩:=B;rintro (z|z|z|z|z|z);rw[z,e2]at h;cases h;rw[z,e4]at h;cases h;obtain⟨i,hi,e⟩:=jy z;rw[(e5 i x (by rw[<-e];exact θ hi))]at h;cases h;rw[z,e7]at h;cases h;rw[z,e9]at h;cases h;rw[z,e11]at h;cases h
def T9{α :Type}{l:List α}{x: α}(h:x∈l):∃ i:Nat,l[i]? =some x:=by
 obtain⟨i,hi,e⟩:=jy h;exact{i,by rw[<-e];exact θ hi}
def MN{H:Hp}{x:Addr}{xs:Tr}(h:H x=some (.lst xs)):ER (H x):=by
 rw[h];exact{λy z=>(by cases z),λy y y z=>(by cases z)}
def MO{H:Hp}{x:Addr}{xs:tZ}(h:H x=some (.dK xs)):ER (H x):=by
 rw[h];exact{λy z=>(by cases z),λy y y z=>(by cases z)}
def zgo{H:Hp}{x:Addr}{xs:RJ}(h:H x=some (.dT xs)):ER (H x):=by
 rw[h];exact{λy z=>(by cases z),λy y y z=>(by cases z)}
def BookAt.loose{A:BA}{outs:Tu}(B:BookAt a C H A w rows n cs outs)(h:A.F x):ER (H x):=by
 obtain⟨⟨y,⟨chs,e2,y⟩,e4,e5,y,⟨kvs,e7,y⟩,⟨DS,e9,y⟩,y⟩,⟨y,⟨ts,e11,y⟩,y⟩,y⟩:=B;rcases h with z|z|z|z|z|z
 exact MN<|z ▸ e2;exact MN<|z ▸ e4;obtain⟨i,e⟩:=T9 z;exact MN<|e5 i x e;exact zgo<|z ▸ e7;exact MO<|z ▸ e9;exact MN<|z ▸ e11
structure z1m(cs:Rr)(outs:Tu)(ns:Zu)(R:Tu):Prop where
 all:∀ x∈ns,R x=true
 up:∀ (k:Nat) (c:Ch),cs[k]? =some c->outs k=false->R k=true->∀ y∈c.nd,R y=true
 only:∀ x,R x=true->x∈ns\/∃ (k:Nat) (c:Ch),cs[k]? =some c/\outs k=false/\R k=true/\x∈c.nd
def NW(nd:Zu)(there:Tu):Option Int:=nd.find? λx=> !there x
structure Pass where
 out:ad
 held:List (Nat × Int)
 gone:Int->Bool
def DW(cs:Rr)(outs:Tu)(s:Pass)(k:Nat):Pass :=
 if outs k||s.gone k then s else
  match (cs[k]?).bind λc=>NW c.nd λx=>outs x||s.gone x with
  |none=>{s.out++[k],s.held,λx=>s.gone x||x ==(k:Int)}
  |some l=>{s.out,s.held++[(k,l)],s.gone}
def outcome(cs:Rr)(outs taken:Tu)(b:Nat):Pass:=(C9 cs b).foldl (DW cs outs) {[],[],taken}
def HC(cs:Rr)(outs:Tu)(r:Tr)(k:Nat):Tr :=
 if outs k then match cs[k]? with
  |some c=>r.set c.cell c.val
  |none=>r
 else r
def EY(cs:Rr)(outs:Tu)(b:Nat)(row:Tr):Tr:=(C9 cs b).foldl (HC cs outs) row
def HD(cs:Rr)(outs:Tu)(b:Nat):Int->Bool:=λx=>outs x||(outcome cs outs (λ_=>false) b).out.any λ(k:Nat)=>x ==(k:Int)
def zgp(r:Tr)(k:Nat):(HC cs outs r k).length=r.length:=by
 unfold HC;split;split;rw[ky]
 rfl
 rfl
def YU:∀ (l:ad) (r:Tr),(l.foldl (HC cs outs) r).length=r.length
 | [],r=>rfl
 |k::l,r=>by rw[ju,YU l,zgp]
def pN:(EY cs outs b row).length=row.length:=YU _ _
def pO:∀ (l:ad) (s:Pass),(l.foldl (DW cs outs) s).out.length+(l.foldl (DW cs outs) s).held.length<=s.out.length+s.held.length+l.length
 | [],s=>by simp
 |k::l,s=>by
  rw[ju]
  have h2:(DW cs outs s k).out.length+(DW cs outs s k).held.length<=s.out.length+s.held.length+1:=by
   unfold DW;split;exact jq _;split<;>simp<;>omega
  have h:=pO (cs:=cs) (outs:=outs) l (DW cs outs s k);simp only[dv]
  lia
def pP{α β :Type}(f: β -> α -> β)(b: β){l:List α}{i:Nat}{x: α}(h:l[i]? =some x):(l.take<|i+1).foldl f b=f ((l.take i).foldl f b) x:=by
 obtain⟨hi,e⟩:=ε.mp h;rw[<-e,<-zg hi,py]
 rfl
def pQ(b:Nat):∀ l:Rr,GY l b=(ο l.length).filter λ(k:Nat)=>(l.reverse[k]?).any λc=>c.blk == b
 | []=>rfl
 |c::r=>by
  have e:(ο r.length).filter (λk=>((c::r).reverse[k]?).any λc=>c.blk==b)=GY r b:=by
   rw[(pQ b r)];refine Iw λk hk=>?_;rw[pz,ba (by rw[ie];exact ak.mp hk)]
  have e2:(c::r).reverse[r.length]? =some c:=by
   simp
  rw[dv,bz,jn,e]
  show(if c.blk=b then GY r b++[r.length]else GY r b)=_;by_cases h:c.blk=b;simp[h];simp[h]
def pR(cs:Rr)(b:Nat):C9 cs b=(ο cs.length).filter λ(k:Nat)=>(cs[k]?).any λc=>c.blk==b:=by
 have:=pQ b cs.reverse;rw[wo,ie]at this;exact this
def zgq(cs:Rr)(b:Nat):(C9 cs b).Pairwise (· <·):=by
 rw[pR];exact nj.filter _
def YV:k∈C9 cs b↔∃ c,cs[k]? =some c/\c.blk=b:=by
 rw[pR,cj,ak];constructor;rintro ⟨h,h2⟩;rw[θ h]at h2 ⊢;exact{_,rfl,by simpa using h2};rintro ⟨c,e,rfl⟩;exact{(ε.mp e).1,by rw[e];simp}
def pT(s:Pass)(k:Nat):DW cs outs s k=s\/(outs k=false/\DW cs outs s k={s.out++[k],s.held,λx=>s.gone x||x ==(k:Int)})\/∃ l,DW cs outs s k={s.out,s.held++[(k,l)],s.gone}:=by
 unfold DW;split;exact .inl rfl;rename_i hc;simp only[At,not_or,K_]at hc;split;exact .inr<|.inl ⟨hc.1,rfl⟩;exact .inr<|.inr ⟨_,rfl⟩
def pU:∀ (l:ad) (s:Pass),∃ l',(l.foldl (DW cs outs) s).out=s.out++l'/\l'.Sublist l/\(∀ k∈l',outs k=false)/\∀ x,(l.foldl (DW cs outs) s).gone x=(s.gone x||l'.any λ(k:Nat)=>x ==(k:Int))
 | [],s=>{[],by simp,.slnil,by simp,by simp}
 |k::l,s=>by
  rw[ju];obtain⟨l',h1,h2,h3,h4⟩:=pU   l (DW cs _ s k);rcases pT   s k with e|⟨ho,e⟩|⟨l0,e⟩
  rw[e]at h1 h4 ⊢;exact{l',h1,h2.cons _,h3,h4};rw[e]at h1 h4 ⊢;refine{_,by rw[h1];simp,h2.cons_cons _,λx hx=>?_,λx=>(by rw[h4,tf,zh])};rcases ax.mp hx with rfl|hx
  exact ho;exact h3 x hx;rw[e]at h1 h4 ⊢;exact{l',h1,h2.cons _,h3,h4}
def YW:(outcome cs outs (λ_=>false) b).out.Pairwise (· <·)/\(∀ k∈(outcome cs outs (λ_=>false) b).out,outs k=false/\k∈C9 cs b)/\∀ x,(outcome cs outs (λ_=>false) b).gone x=(outcome cs outs (λ_=>false) b).out.any λ(k:Nat)=>x ==(k:Int):=by
 obtain⟨l',h1,h2,h3,h4⟩:=pU   _ _
 have e:(outcome cs outs (λz=>false) b).out=l':=by unfold outcome;rw[h1];rfl
 rw[e];exact{(zgq cs b).sublist h2,λk hk=>{h3 k hk,h2.subset hk},λx=>by unfold outcome;rw[h4];simp}
def pV(H:Hp)(t ol hl:Addr)(out:ad)(held:List (Nat × Int)):Prop:=H t=some (.tup [.ref ol,.ref hl])/\H ol=some (.lst<|out.map λ(k:Nat)=>V.int k)/\∃ hs:Uu,H hl=some (.lst<|hs.map V.ref)/\Paired (λx (p:Nat × Int)=>H x=some (.tup [.int p.1,.int p.2])) hs held
def YX(cs:Rr)(r:Tr)(k:Nat):Tr:=match cs[k]? with
 |some c=>r.set c.cell c.val
 |none=>r
def UA(cs:Rr)(ks:ad)(row:Tr):Tr:=ks.foldl (YX cs) row
def zgr(cs:Rr)(O:Tu)(b:Nat)(row:Tr):EY cs O b row=UA cs ((C9 cs b).filter λ(k:Nat)=>O k) row:=by
 unfold EY UA;rw[List.foldl_filter]
 rfl
def JF(cs:Rr):ad->Nat->Option Ch
 | [],_=>none
 |k::r,j=>match JF cs r j with
  |some c=>some c
  |none=>(cs[k]?).filter λc=>c.cell==j
def YY(cs:Rr)(k:Nat)(r:ad)(j:Nat):JF cs (k::r) j=match JF cs r j with
  |some c=>some c
  |none=>(cs[k]?).filter λc=>c.cell==j:=rfl
def pW(cs:Rr)(j:Nat):∀ (ks:ad) (row:Tr),(UA cs ks row)[j]? =(row[j]?).map λv=>((JF cs ks j).map (·.val)).getD v
 | [],row=>by
  show row[j]? =_;cases row[j]? <;>rfl
 | k::r,row=>by
  show(UA cs r _)[j]? =_;rw[pW cs j r,YY];cases h:JF cs r j with
  |some c =>
   unfold YX;cases e:cs[k]? with
   |none=>rfl
   |some c0 =>
    rw[Ix];by_cases hj:c0.cell=j;subst hj;rw[if_pos rfl];by_cases hl:c0.cell<row.length;rw[if_pos hl,θ hl];rfl;rw[if_neg hl,bq<|cu hl];rw[if_neg hj]
  |none =>
   unfold YX;cases e:cs[k]? with
   |none=>rfl
   |some c0 =>
    rw[Ix];by_cases hj:c0.cell=j;subst hj;rw[if_pos rfl];by_cases hl:c0.cell<row.length;rw[if_pos hl,θ hl];simp[Eu];rw[if_neg hl,bq<|cu hl];rfl;rw[if_neg hj]
    have:(Eu (λc=>c.cell==j) (some c0))=none:=by simp[hj]
    rw[this]
def pX:∀ {ks:ad},JF cs ks j=some c->∃ k∈ks,cs[k]? =some c/\c.cell=j/\(ks.Pairwise (· <·)->∀ k'∈ks,k<k'->∀ c',cs[k']? =some c'->c'.cell≠j)
 | [],h=>by cases h
 | k::r,h=>by
  rw[YY]at h;cases e:JF cs r j with
  |some c1 =>
   rw[e]at h;cases h;obtain⟨k1,h1,h2,h3,h4⟩:=pX e;refine{k1,ω _ h1,h2,h3,λhp k' hk' A0 c' ec=>?_};obtain⟨p1,p2⟩:=ki.mp hp;rcases ax.mp hk' with rfl|hk'
   have:=p1 k1 h1;lia;exact h4 p2 k' hk' A0 c' ec
  | none =>
   rw[e]at h;cases ec:cs[k]? with
   |none=>rw[ec]at h;cases h
   |some c0 =>
    rw[ec]at h
    have hc:c0.cell=j/\c0=c:=by
     simp only[Eu]at h;split at h;rename_i hh;obtain rfl:=ι h;exact{by simpa using hh,rfl};cases h
    obtain⟨hc,rfl⟩:=hc;refine{k,ai ..,ec,hc,λhp k' hk' A0 c' ec'=>?_};rcases ax.mp hk' with rfl|hk'
    lia
    exact lastAt_no e k' hk' c' ec'
where
 lastAt_no {cs:Rr} {j:Nat}:∀ {ks:List _},JF cs ks j=none->∀ k∈ks,∀ c,cs[k]? =some c->c.cell≠j
  | [],_,k,hk=>by cases hk
  |k0::r,h,k,hk=>λc ec hj=>by
   rw[YY]at h;cases e:JF cs r j with
   |some c1=>rw[e]at h;cases h
   |none =>
    rw[e]at h;rcases ax.mp hk with rfl|hk
    rw[ec]at h;simp[hj]at h;exact lastAt_no e k hk c ec hj
def pY:∀ {l:Rr} {k:Nat} {c:Ch},l.reverse[k]? =some c->(c.blk:Int)=i->(c.cell:Int)=j->∃ j0 c0,ML l i j=some j0/\k<=j0/\l.reverse[j0]? =some c0/\(c0.blk:Int)=i/\(c0.cell:Int)=j
 | [],k,c,h,_,_=>by simp at h
 |c1::r,k,c,h,h1,h2=>by
  have hk:=(ε.mp h).1;rw[ie]at hk;unfold ML;by_cases hp:c1.blk=i/\c1.cell=j;rw[if_pos hp];refine x2 _ c1 {rfl,f_ hk,?_,hp};simp;rw[if_neg hp]
  have A0:k<r.length:=by
   rcases fe k _ with z|z
   exact z;exfalso
   have  :=n_ (f_ hk) z;subst this;simp at h;subst h;exact hp ⟨h1,h2⟩
  rw[pz,ba (by rw[ie];exact A0)]at h;refine u2 ?_<|pY h h1 h2;rintro j0 c0 ⟨e1,e2,e3,e4⟩;refine x2 j0 c0 {e1,e2,?_,e4};rw[pz,ba (by rw[ie];exact(YQ e1))];exact e3
def zgs(h:cs[k]? =some c):∃ j0 c0,EC cs c.blk c.cell=some j0/\k<=j0/\cs[j0]? =some c0/\c0.blk=c.blk/\c0.cell=c.cell:=by
 refine u2 ?_ (pY    (by rw[wo];exact h) rfl rfl);rintro j0 c0 ⟨e1,e2,e3,e4,e5⟩;rw[wo]at e3;exact x2 j0 c0 {e1,e2,e3,cw e4,cw e5}
def UB(cs:Rr)(outs:Tu):Prop:=∀ (k:Nat) (c:Ch),cs[k]? =some c->outs k=true->∀ y∈c.nd,outs y=true
def zgt(s:Pass)(k:Nat)(h:(DW cs outs s k).out=s.out++[k]):∀ c,cs[k]? =some c->∀ y∈c.nd,(outs y||s.gone y)=true:=λc ec y hy=>by
 unfold DW at h;split at h;exact absurd h (by intro z;have:=congrArg lb z;simp at this);rw[ec]at h;split at h;rename_i hn
 have:=ko.mp hn y hy;cases e:(outs y||s.gone y)with
 |true=>rfl
 |false =>
  have this:¬ (!(outs y||s.gone y))=true:=this;rw[e]at this;exact absurd rfl this
 exact absurd h (by intro z;have:=congrArg lb z;simp at this)
def pZ:∀ (l:ad) (s:Pass),(∀ k∈s.out,∀ c,cs[k]? =some c->∀ y∈c.nd,(outs y||s.gone y)=true)->∀ k∈(l.foldl (DW cs outs) s).out,∀ c,cs[k]? =some c->∀ y∈c.nd,(outs y||(l.foldl (DW cs outs) s).gone y)=true
 | [],s,h=>h
 |k::l,s,h=>by
  refine pZ l _ ?_;rcases pT   s k with e|⟨ho,e⟩|⟨l0,e⟩
  rw[e];exact h;rw[e];intro k' hk' c ec y hy;rcases ao.mp hk' with hk'|hk'
  rw[<-zh,(h k' hk' c ec y hy),xc];rw[ρ.mp hk']at ec;rw[<-zh,((zgt   s k (by rw[e])) c ec y hy),xc];rw[e];exact h
def zgu(cut:UB cs outs)(b:Nat):UB cs (HD cs outs b):=λk c ec ho y hy=>by
 obtain⟨z,z,hg⟩:=YW;unfold HD at ho ⊢;rw[At]at ho;rcases ho with ho|ho
 rw[cut k c ec ho y hy,xc];obtain⟨k',hk',e⟩:=e_.mp ho
 have e:(k:Int)=k':=by simpa using e
 have e:=cw e;subst e;rw[<-hg y];exact(pZ   _ _ (by simp) k hk' c ec y hy)
structure DZ(K:μ)(a:Ad):Prop where
 cl:Cls K (a "Layout")
 n1:NoAttr K (a "Layout") "name_blocks"
 n2:NoAttr K (a "Layout") "record_blocks"
 n3:NoAttr K (a "Layout") "piece_blocks"
 n4:NoAttr K (a "Layout") "width"
section
variable{n r c w:Int}
def lf(n r c w:Int):tT:=[("name_blocks",.int n),("record_blocks",.int r),("piece_blocks",.int c),("width",.int w)]
def UC:(lf n r c w).lookup ("name_blocks":Str)=some (V.int n):=by simp[lf]
def QY:(lf n r c w).lookup ("record_blocks":Str)=some (V.int r):=by
 simp[lf,aw,A8 (a:="record_blocks") (b:="name_blocks") (by decide)]
def YZ:(lf n r c w).lookup ("piece_blocks":Str)=some (V.int c):=by
 simp[lf,aw,A8 (a:="piece_blocks") (b:="name_blocks") (by decide),A8 (a:="piece_blocks") (b:="record_blocks") (by decide)]
def NX:(lf n r c w).lookup ("width":Str)=some (V.int w):=by
 simp[lf,aw,A8 (a:="width") (b:="name_blocks") (by decide),A8 (a:="width") (b:="record_blocks") (by decide),A8 (a:="width") (b:="piece_blocks") (by decide)]
def B1(h:(DK x "name_blocks" || DK x "record_blocks" || DK x "piece_blocks" || DK x "width")=false:=by decide +kernel):(lf n r c w).lookup x=none:=by
 simp only[rf]at h;obtain⟨⟨⟨h1,h2⟩,h3⟩,h4⟩:=h;simp[lf,aw,A8 h1,A8 h2,A8 h3,A8 h4]
end
structure LayAt(a:Ad)(H:Hp)(p:Addr)(n r c w:Nat):Prop where
 ob:∃ dx,H p=some (.ins (a "Layout") dx (lf n r c w))
 hn:n<=100
 hr:r<=100
 hc:c<=100
 h1:1<=w
 hw:w<=100
def LayAt.same(L:LayAt a H p n r c w)(s:Same H H'):LayAt a H' p n r c w:=by
 obtain⟨⟨dx,e⟩,z1,z2,z3,z4,z5⟩:=L;exact{{dx,s _ _ e},z1,z2,z3,z4,z5}
def LayAt.sb(L:LayAt a H p n r c w)(s:SameBut F H H')(f:¬ F p):LayAt a H' p n r c w:=by
 obtain⟨⟨dx,e⟩,z1,z2,z3,z4,z5⟩:=L;exact{{dx,s _ _ e f},z1,z2,z3,z4,z5}
example:(UD):=∃ (p dx:Addr) (n r c w:Nat),vs=[.ref p,.int n,.int r,.int c,.int w]/\DZ K a/\H p=some (.ins (a "Layout") dx [])/\n<=100/\r<=100/\c<=100/\1<=w/\w<=100 ∧
 ∀ H',LayAt a H' p n r c w->SameBut (· =p) H H'->Q .non H'
def GZ(x y:Int)(Q:VK)(H:Hp):Prop:=∀ t,H t=none->Q (.ref t) (upd H t<|.tup [.int x,.int y])
example:(LK):=∃ (p:Addr) (n r c w k:Nat) (b:Int),vs=[.ref p,.int b,.int k]/\DZ K a/\LayAt a H p n r c w/\GZ (b+k/w) (k%w) Q H
example:(KF):=∃ (p:Addr) (n r c w k:Nat),vs=[.ref p,.int k]/\DZ K a/\LayAt a H p n r c w/\GZ (0+k/w) (k%w) Q H
example:(HE):=∃ (p:Addr) (n r c w k:Nat),vs=[.ref p,.int k]/\DZ K a/\LayAt a H p n r c w/\GZ (n+k/w) (k%w) Q H
example:(MP):=∃ (p:Addr) (n r c w k:Nat),vs=[.ref p,.int k]/\DZ K a/\LayAt a H p n r c w/\GZ (n+r+k/w) (k%w) Q H
example:(JG):=∃ (p:Addr) (n r c w k:Nat),vs=[.ref p,.int k]/\DZ K a/\LayAt a H p n r c w/\GZ (n+r+c+k/w) (k%w) Q H
example:(JH):=∃ (p:Addr) (n r c w k:Nat),vs=[.ref p,.int k]/\DZ K a/\LayAt a H p n r c w/\GZ (n+r+c+r+k/w) (k%w) Q H
example:(NY):=∃ (p:Addr) (n r c w:Nat),vs=[.ref p]/\DZ K a/\LayAt a H p n r c w/\Q (.int<|n+r+c) H
example:(UE):=∃ (p:Addr) (n r c w:Nat),vs=[.ref p]/\DZ K a/\LayAt a H p n r c w/\Q (.int<|n+r+c+r+c) H
example:(LM):=∃ (p:Addr) (n r c w:Nat),vs=[.ref p]/\DZ K a/\LayAt a H p n r c w/\∀ t,H t=none->Q (.ref t) (upd H t<|.tup [.int (n*w),.int<|r*w,.int<|c*w])
example:(UF):=∃ (p:Addr) (n r c w:Nat),vs=[.ref p]/\DZ K a/\DH K a/\LayAt a H p n r c w /\
 ∀ x cl H',H x=none->H cl=none->PlankAt a H' x cl w (bg (n+r+c+r+c) (bg w .non)) 0->Same H H'->Q (.ref x) H'
inductive CV where
 |no
 |nm (z:Str) (k:Nat)
 |mk (i:Nat)
 |rc (m:Nat) (ps:ad)
 |tx (z:Str)
abbrev Md:=Nat->Nat->CV
def Md.put(M:Md)(kind k:Nat)(x:CV):Md:=λi j=>if i=kind/\j=k then x else M i j
structure AC where
 kind:Nat
 k:Nat
 x:CV
 nd:ad
def sh(M0:Md)(C:Wu):List AC->Md
 | []=>M0
 |a::r=>if C r.length then(sh M0 C r).put a.kind a.k a.x else sh M0 C r
abbrev hnd(M0:Md)(as:List AC):Md:=sh M0 (λ_=>true) as
def II(kind k:Nat):List AC->Option Nat
 | []=>none
 |a::r=>if a.kind=kind/\a.k=k then some r.length else II kind k r
def GJ(C:Wu):List AC->Prop
 | []=>True
 |a::r=>GJ C r/\(C r.length=true->(∀ y∈a.nd,C y=true)/\∀ j,II a.kind a.k r=some j->C j=true)
section
variable{M0 S:Md}{C:Wu}{as:List AC}{kind k m0:Nat}{x:CV}
def B8:S.put kind k x kind k=x:=if_pos ⟨rfl,rfl⟩
def ED(h:i≠kind):S.put kind k x i j=S i j:=if_neg λz=>h z.1
def CK(h:j≠k):S.put kind k x i j=S i j:=if_neg λz=>h z.2
def zgv(h:∀ j,II kind k as=some j->C j=true):sh M0 C as kind k=hnd M0 as kind k:=by
 induction as with
 |nil=>rfl
 |cons a r ih =>
  unfold II at h;simp only[sh,if_true];by_cases e:a.kind=kind/\a.k=k;rw[if_pos e]at h;obtain⟨rfl,rfl⟩:=e;rw[h _ rfl];simp only[if_true];rw[B8,B8];rw[if_neg e]at h
  have:=ih h
  have e':¬ (kind=a.kind/\k=a.k):=λz=>e ⟨z.1.symm,z.2.symm⟩;unfold Md.put;rw[if_neg e'];by_cases c:C r.length=true;rw[if_pos c,if_neg e'];exact this;rw[if_neg c];exact this
def KG(h:GJ C (a::as))(c:C as.length=true):sh M0 C as a.kind a.k=hnd M0 as a.kind a.k:=zgv (h.2 c).2
def MQ:hnd M0 (a::as)=(hnd M0 as).put a.kind a.k a.x:=rfl
def CS(c:C as.length=true):sh M0 C (a::as)=(sh M0 C as).put a.kind a.k a.x:=if_pos c
def EE(c:¬ C as.length=true):sh M0 C (a::as)=sh M0 C as:=if_neg c
def FL:CV->Nat->Bool
 |.nm _ r',r=>r'==r
 |_,_=>false
def ld(m0:Nat)(S:Md)(r:Nat):Nat:=(ο m0).countP λk=>FL (S 0 k) r
def zgw(h:kind≠0):ld m0 (S.put kind k x) r=ld m0 S r:=by
 unfold ld
 congr 1
 funext j;rw[ED h.symm]
def Y0:∀ {m0:Nat},k<m0->ld m0 (S.put 0 k x) r+(if FL (S 0 k) r then 1 else 0)=ld m0 S r+(if FL x r then 1 else 0):=by
 intro m0;unfold ld
 induction m0 with
 |zero=>intro h;exact nZ h
 |succ n ih =>
  rw[bz,ut,ut];simp only[wc,Ms];by_cases e:k=n;subst e
  have:(ο k).countP (λj=>FL ((S.put 0 k x) 0 j) r)=(ο k).countP (λj=>FL _ r):=yy λj hj=>by
   rw[CK (bd<|ak.mp hj)]
  rw[B8]
  lia
  rw[CK (λz=>e z.symm)]
  lia
structure Snd(m0:Nat)(S:Md):Prop where
 nl:∀ k z r,k<m0->S 0 k=.nm z r->∃ m ps,S 3 r=.rc m ps
 ct:∀ r m ps,S 3 r=.rc m ps->ld m0 S r<=m
 mr:∀ r m ps,S 3 r=.rc m ps->S 1 r=.mk 1
 nd:∀ r m ps,S 3 r=.rc m ps->ps.Nodup
 pm:∀ r m ps,S 3 r=.rc m ps->∀ p∈ps,S 2 p=.mk 1/\∃ t,S 4 p=.tx t
 dj:∀ r r' m m' ps ps',r≠r'->S 3 r=.rc m ps->S 3 r'=.rc m' ps'->∀ p∈ps,p∉ps'
 un:∀ k k' z r r',k<m0->k'<m0->S 0 k=.nm z r->S 0 k'=.nm z r'->k=k'
def Snd.rmark(I:Snd m0 S)(h:i=1\/∀ m ps,S 3 r≠.rc m ps):Snd m0 (S.put 1 r<|.mk i):=by
 refine{I.nl,λr' m ps e=>I.ct r' m ps e,λr' m ps e=>?_,I.nd,I.pm,I.dj,I.un};by_cases z:r'=r;subst z;rw[B8];rcases h with h|h
 rw[h];exact absurd e<|h m ps;rw[CK z];exact I.mr r' m ps e
def Snd.pmark(I:Snd m0 S)(h:i=1\/∀ r m ps,S 3 r=.rc m ps->p∉ps):Snd m0 (S.put 2 p<|.mk i):=by
 refine{I.nl,λr' m ps e=>I.ct r' m ps e,I.mr,I.nd,λr' m ps e q hq=>{?_,(I.pm r' m ps e q hq).2},I.dj,I.un};by_cases z:q=p;subst z;rw[B8];rcases h with h|h
 rw[h];exact absurd hq<|h r' m ps e;rw[CK z];exact(I.pm r' m ps e q hq).1
def Snd.text(I:Snd m0 S):Snd m0 (S.put 4 p<|.tx t):=by
 refine{I.nl,λr' m ps e=>I.ct r' m ps e,I.mr,I.nd,λr' m ps e q hq=>{(I.pm r' m ps e q hq).1,?_},I.dj,I.un};by_cases z:q=p;subst z;exact⟨t,B8⟩;rw[CK z];exact(I.pm r' m ps e q hq).2
def Snd.gone(I:Snd m0 S)(hk:k<m0):Snd m0 (S.put 0 k .no):=by
 have at':∀ {j z r},(S.put 0 k .no) 0 j=.nm z r->S 0 j=.nm z r:=λ{j z r} e=>by
  by_cases h:j=k;subst h;rw[B8]at e;cases e;rw[CK h]at e;exact e
 refine{λj z r hj e=>I.nl j z r hj<|at' e,λr m ps e=>?_,I.mr,I.nd,I.pm,I.dj,λj j' z r r' h h' e e'=>I.un j j' z r r' h h' (at' e) (at' e')}
 have l:=Y0 (S:=S) (x:=.no) (r:=r) hk
 have c:=I.ct r m ps e;rw[show FL .no r=false from rfl]at l;simp only[uq]at l
 lia
def Snd.fill(I:Snd m0 S)(hk:k<m0)(h3:S 3 r=.rc m ps)(hl:ld m0 S r+1<=m)(hz:∀ j r',j<m0->S 0 j≠.nm z r')(h0:∀ z r,S 0 k≠.nm z r):Snd m0 (S.put 0 k<|.nm z r):=by
 have at':∀ {j y q},(S.put 0 k<|.nm z r) 0 j=.nm y q->(j=k/\y=z/\q=r)\/(j≠k/\S 0 j=.nm y q):=λ{j y q} e=>by
  by_cases h:j=k;subst h;rw[B8]at e;cases e;exact .inl ⟨rfl,rfl,rfl⟩;rw[CK h]at e;exact .inr ⟨h,e⟩
 refine{λj y q hj e=>?_,λq m' ps' e=>?_,I.mr,I.nd,I.pm,I.dj,λj j' y q q' h h' e e'=>?_};rcases at' e with⟨_,_,rfl⟩|⟨_,e⟩
 exact x2 m ps h3;exact I.nl j y q hj e
 have l:=Y0 (S:=S) (x:=.nm z r) (r:=q) hk
 have e:S 3 q=.rc m' _:=e;simp only[FL]at l;by_cases z:r=q;subst z;rw[e]at h3;cases h3;simp at l;exact l ▸ hl;simp[z]at l;exact l ▸ (I.ct q m' _ e);rcases at' e with⟨e1,e2,_⟩|⟨e1,e2⟩<;>rcases at' e' with⟨f1,f2,_⟩|⟨f1,f2⟩
 rw[e1,f1];subst e2;exact absurd f2<|hz _ _ h';subst f2;exact absurd e2<|hz _ _ h;exact I.un j j' y q q' h h' e2 f2
def Snd.recd(I:Snd m0 S)(hl:ld m0 S r<=m')(hm:S 1 r=.mk 1)(hn:ps'.Nodup)(hp:∀ p∈ps',(S 2 p=.mk 1/\∃ t,S 4 p=.tx t)/\∀ q m ps,q≠r->S 3 q=.rc m ps->p∉ps):Snd m0 (S.put 3 r<|.rc m' ps'):=by
 have at':∀ {q m ps},(S.put 3 r<|.rc m' ps') 3 q=.rc m ps->(q=r/\m=m'/\ps=ps')\/(q≠r/\S 3 q=.rc m ps):=λ{q m ps} e=>by
  by_cases h:q=r;subst h;rw[B8]at e;cases e;exact .inl ⟨rfl,rfl,rfl⟩;rw[CK h]at e;exact .inr ⟨h,e⟩
 refine{λj z q hj e=>?_,λq m ps e=>?_,λq m ps e=>?_,λq m ps e=>?_,λq m ps e p h=>?_,λq q' m m1 ps ps1 ne e e' p h=>?_,I.un};by_cases h:q=r;subst h;exact x2 m' _ B8;rw[CK h];exact I.nl j z q hj e;rcases at' e with⟨rfl,rfl,_⟩|⟨_,e⟩
 exact hl;exact I.ct q m ps e;rcases at' e with⟨rfl,_,_⟩|⟨_,e⟩
 exact hm;exact I.mr q m ps e;rcases at' e with⟨_,_,rfl⟩|⟨_,e⟩
 exact hn;exact I.nd q m ps e;rcases at' e with⟨_,_,rfl⟩|⟨_,e⟩
 exact(hp p h).1;exact I.pm q m ps e p h;rcases at' e with⟨e1,_,rfl⟩|⟨e1,e2⟩<;>rcases at' e' with⟨f1,_,rfl⟩|⟨f1,f2⟩
 exact absurd (e1.trans f1.symm) ne;exact(hp p h).2 q' m1 _ (λz=>ne<|e1.trans z.symm) f2;exact λz=>(hp p z).2 q m ps (λy=>ne<|y.trans f1.symm) e2 h;exact I.dj q q' m m1 ps _ ne e2 f2 p h
def Snd.count(I:Snd m0 S)(h3:S 3 r=.rc m ps)(hl:ld m0 S r<=m'):Snd m0 (S.put 3 r<|.rc m' ps) :=
 I.recd hl (I.mr r m ps h3) (I.nd r m ps h3) λp hp=>{I.pm r m ps h3 p hp,λq m1 ps1 ne e=>I.dj r q m m1 ps _ ne.symm h3 e p hp}
def Snd.less(I:Snd m0 S)(h3:S 3 r=.rc m ps)(hs:ps'.Sublist ps):Snd m0 (S.put 3 r<|.rc m ps') :=
 I.recd (I.ct r m ps h3) (I.mr r m ps h3) ((I.nd r m ps h3).sublist hs) λp hp=>{I.pm r m ps h3 p<|hs.subset hp,λq m1 ps1 ne e=>I.dj r q m m1 ps _ ne.symm h3 e p<|hs.subset hp}
def Snd.more(I:Snd m0 S)(h3:S 3 r=.rc m ps)(h2:S 2 p=.mk 1)(h4:S 4 p=.tx t)(hu:∀ q m ps,S 3 q=.rc m ps->p∉ps):Snd m0 (S.put 3 r<|.rc m<|ps++[p]):=by
 refine I.recd (I.ct r m ps h3) (I.mr r m ps h3) (gi.mpr {I.nd r m ps h3,by simp,λx hx y hy e=>?_}) λy hy=>?_;rw[ρ]at hy;subst hy e;exact hu r m ps h3 hx;rcases ao.mp hy with hy|hy
 exact{I.pm r m ps h3 y hy,λq m1 ps1 ne e=>I.dj r q m m1 ps _ ne.symm h3 e y hy};rw[ρ.mp hy];exact{⟨h2,t,h4⟩,λq m1 ps1 z e=>hu q m1 _ e}
def Snd.drop(I:Snd m0 S)(hl:ld m0 S r=0):Snd m0 (S.put 3 r .no):=by
 have at':∀ {q m ps},(S.put 3 r .no) 3 q=.rc m ps->S 3 q=.rc m ps:=λ{q m ps} e=>by
  by_cases h:q=r;subst h;rw[B8]at e;cases e;rw[CK h]at e;exact e
 refine{λj z q hj e=>?_,λq m ps e=>(I.ct q m ps<|at' e),λq m ps e=>I.mr q m ps<|at' e,λq m ps e=>I.nd q m ps<|at' e,λq m ps e=>I.pm q m ps<|at' e,λq q' m m1 ps ps1 ne e e'=>I.dj q q' m m1 ps _ ne (at' e) (at' e'),I.un};by_cases h:q=r;subst h
 have:0<ld m0 S q:=w_.mpr {j,ak.mpr hj,by have e:S 0 j=.nm z q:=e;simp[e,FL]};exact absurd (hl ▸ this) (by decide);rw[CK h];exact I.nl j z q hj e
structure Hist(m0:Nat)(M0:Md)(as:List AC)(t o:Str->Option Nat):Prop where
 sd:∀ C,GJ C as->Snd m0 (sh M0 C as)
 k1:∀ z k r,k<m0->hnd M0 as 0 k=.nm z r->II 0 k as=o z
 k2:∀ z,(∀ k r,k<m0->hnd M0 as 0 k≠.nm z r)->t z=o z
 k3:∀ C z,GJ C as->(∀ j,o z=some j->C j=true)->∀ k r,k<m0->(sh M0 C as 0 k=.nm z r↔hnd M0 as 0 k=.nm z r)
def p0:∀ as:List AC,GJ (λ_=>true) as
 | []=>trivial
 |_::r=>{p0 r,λ_=>{λ_ _=>rfl,λ_ _=>rfl}}
variable{t o:Str->Option Nat}
def Hist.now(I:Hist m0 M0 as t o):Snd m0 (hnd M0 as):=I.sd _<|p0 as
def Hist.step(I:Hist m0 M0 as t o)(ha:a.kind≠0)(h:∀ C,GJ C (a::as)->C as.length=true->Snd m0 ((sh M0 C as).put a.kind a.k a.x)):Hist m0 M0 (a::as) t o:=by
 have s0:∀ (C:Wu) (k:Nat),sh M0 C _ 0 k=sh M0 C as 0 k:=λC k=>by
  by_cases c:C as.length=true;rw[CS c,ED ha.symm];rw[EE c]
 have s1:∀ k:Nat,hnd M0 _ 0 k=hnd M0 as 0 k:=s0 _;refine{λC hC=>?_,λz k r hk e=>?_,λz e=>I.k2 z λk r hk=>by rw[<-s1];exact e k r hk,λC z hC ho k r hk=>?_};by_cases c:C as.length=true;rw[CS c];exact h C hC c;rw[EE c];exact I.sd C hC.1;rw[s1]at e;unfold II;rw[if_neg λz=>ha z.1];exact I.k1 z k r hk e;rw[s0,s1];exact I.k3 C z hC.1 ho k r hk
def ES(f:Str->Option Nat)(z:Str)(j:Nat):Str->Option Nat:=λy=>if y=z then some j else f y
def Hist.fill(I:Hist m0 M0 as t o)(hk:k<m0)(h0:hnd M0 as 0 k=.no)(hz:∀ j r,j<m0->hnd M0 as 0 j≠.nm z r)(ht:∀ j,t z=some j->j∈nd)
  (h:∀ C,GJ C ({0,k,.nm z r,nd}::as)->C as.length=true->∃ m ps,sh M0 C as 3 r=.rc m ps/\ld m0 (sh M0 C as) r+1<=m):Hist m0 M0 ({0,k,.nm z r,nd}::as) t (ES o z as.length):=by
 have hnk:∀ {j y q},j<m0->hnd M0 as 0 j=.nm y q->j≠k/\y≠z:=λ{j y q} hj e=>{λe'=>(by rw[e',h0]at e;cases e),λe'=>hz j q hj<|e' ▸ e}
 have free:∀ C,GJ C ({0,k,.nm z r,nd}::as)->C _=true->sh M0 C as 0 k=.no/\∀ j q,j<m0->sh M0 C as 0 j≠.nm z q:=λC hC c=>{by rw[KG  hC c];exact h0,λj q hj e=>(hz j q hj ((I.k3 C z hC.1 (λi ei=>(hC.2 c).1 i (ht i (by rw[(I.k2 z hz),ei]))) j q hj).mp e))}
 refine{λC hC=>?_,λy j q hj e=>?_,λy e=>?_,λC y hC ho j q hj=>?_};by_cases c:C as.length=true;refine u2 ?_<|h C hC c;rintro m ps ⟨h3,hl⟩;obtain⟨f1,f2⟩:=free C hC c;rw[CS c];exact(I.sd C hC.1).fill hk h3 hl f2 λz r e=>by rw[f1]at e;cases e
 rw[EE c];exact I.sd C hC.1;rw[MQ]at e;unfold II;by_cases z':j=k;subst z';rw[B8]at e;cases e;rw[if_pos ⟨rfl,rfl⟩];exact(if_pos rfl).symm;rw[CK z']at e;rw[if_neg λw=>z' w.2.symm];unfold ES;rw[if_neg (hnk hj e).2];exact I.k1 y j q hj e
 have ny:y≠z:=λw=>by
  subst w;exact e k r hk (by rw[MQ,B8])
 unfold ES;rw[if_neg ny];refine I.k2 y λj q hj e'=>e j q hj ?_;rw[MQ,CK (hnk hj e').1];exact e';rw[MQ];by_cases c:C as.length=true;obtain⟨f1,f2⟩:=free C hC c;rw[CS c];by_cases z':j=k;subst z';rw[B8,B8];rw[CK z',CK z'];by_cases w:y=z;subst w;exact{λe=>absurd e<|f2 j q hj,λe=>absurd e<|hz j q hj};unfold ES at ho;rw[if_neg w]at ho;exact I.k3 C y hC.1 ho j q hj;rw[EE c];unfold ES at ho;by_cases w:y=z;subst w;rw[if_pos rfl]at ho;exact absurd (ho _ rfl) c;rw[if_neg w]at ho
 have k3:=I.k3 C y hC.1 ho j q hj;by_cases z':j=k;subst z';rw[B8];refine{λe=>?_,λe=>absurd (by cases e;rfl) w}
 have:=k3.mp e;rw[h0]at this;cases this;rw[CK z'];exact k3
def Hist.gone(I:Hist m0 M0 as t o)(hk:k<m0)(h0:hnd M0 as 0 k=.nm z r):Hist m0 M0 ({0,k,.no,nd}::as) (ES t z as.length) (ES o z as.length):=by
 have un:=I.now.un
 have only:=λ{j q} hj e=>un j k z q r hj hk e h0;refine{λC hC=>?_,λy j q hj e=>?_,λy e=>?_,λC y hC ho j q hj=>?_};by_cases c:C as.length=true;rw[CS c];exact(I.sd C hC.1).gone hk;rw[EE c];exact I.sd C hC.1;rw[MQ]at e;by_cases z':j=k;subst z';rw[B8]at e;cases e;rw[CK z']at e;unfold II ES;rw[if_neg λw=>z' w.2.symm,if_neg λw=>z'<|only hj (w ▸ e)];exact I.k1 y j q hj e;unfold ES;by_cases w:y=z;rw[if_pos w,if_pos w];rw[if_neg w,if_neg w];refine I.k2 y λj q hj e'=>e j q hj ?_
 have:j≠k:=λz'=>by rw[z',h0]at e';cases e';exact w rfl
 rw[MQ,CK this];exact e';rw[MQ];unfold ES at ho;by_cases c:C as.length=true;rw[CS c];by_cases z':j=k;subst z';rw[B8,B8];rw[CK z',CK z'];by_cases w:y=z;subst w;exact{λe=>absurd ((I.sd C hC.1).un j k y q r hj hk e (by rw[KG  hC c];exact h0)) z',λe=>absurd (only hj e) z'};rw[if_neg w]at ho;exact I.k3 C y hC.1 ho j q hj;rw[EE c];by_cases w:y=z;subst w;rw[if_pos rfl]at ho;exact absurd (ho _ rfl) c;rw[if_neg w]at ho
 have k3:=I.k3 C y hC.1 ho j q hj;by_cases z':j=k;subst z';rw[B8];refine{λe=>?_,λe=>by cases e}
 have:=k3.mp e;rw[h0]at this;cases this;exact absurd rfl w;rw[CK z'];exact k3
def Snd.ld0(I:Snd m0 S)(h:∀ m ps,S 3 r≠.rc m ps):ld m0 S r=0:=by
 refine Ei.mpr λk hk e=>?_;cases e0:S 0 k with
 |nm z q =>
  simp only[e0,FL,beq_iff_eq]at e;subst e;refine u2 ?_<|I.nl k z q (ak.mp hk) e0;rintro m ps e;exact h m ps e
 |_=>simp[e0,FL]at e
def Hist.make(I:Hist m0 M0 as t o)(hk:k<m0)(h0:hnd M0 as 0 k=.no)(hz:∀ j r,j<m0->hnd M0 as 0 j≠.nm z r)(h1:hnd M0 as 1 r≠.mk 1)(hn:as.length+1∈nd)(ht:∀ j,t z=some j->j∈nd) :
  Hist m0 M0 ({0,k,.nm z r,nd}::{3,r,.rc 1 [],[as.length]}::{1,r,.mk 1,[]}::as) t (ES o z<|as.length+2):=by
 have I1:=I.step (a:={1,r,_,[]}) (by simp) λC hC y=>(I.sd C hC.1).rmark (.inl rfl)
 have no:∀ C,GJ C ({3,r,.rc 1 [],[as.length]}::{1,r,_,[]}::as)->C _=true->ld m0 _ r=0:=λC hC c=>by
  refine(I1.sd C hC.1).ld0 λm ps e=>?_;rw[KG  hC c]at e;exact h1<|I.now.mr r m ps e
 have I2:=I1.step (a:={3,r,_,_}) (by simp) λC hC c=>by
  refine(I1.sd C hC.1).recd (by rw[no C hC c];decide) ?_ mj (by simp);rw[CS ((hC.2 c).1 _ (by simp)),B8]
 refine I2.fill hk (h0) (λj q hj=>hz j q hj) ht λC hC c=>?_
 have cL:=(hC.2 c).1 _ hn;refine x2 1 [] {by rw[CS cL,B8],?_};rw[CS cL,zgw (by simp),no C hC.1 cL];exact υ 1
def Hist.link(I:Hist m0 M0 as t o)(hk:k<m0)(h0:hnd M0 as 0 k=.no)(hz:∀ j r,j<m0->hnd M0 as 0 j≠.nm z r)(h3:hnd M0 as 3 r=.rc m ps)(hn:as.length∈nd)(ht:∀ j,t z=some j->j∈nd) :
  Hist m0 M0 ({0,k,.nm z r,nd}::{3,r,.rc (m+1) ps,[]}::as) t (ES o z<|as.length+1):=by
 have a3:∀ C,GJ C ({3,r,.rc (m+1) ps,[]}::as)->C _=true->sh M0 C as 3 r=.rc m ps:=λC hC c=>by
  rw[KG  hC c];exact h3
 refine(I.step  (by simp) λC hC c=>(I.sd C hC.1).count (a3 C hC c) (da<|(I.sd C hC.1).ct r m ps (a3 C hC c))).fill hk (h0) (λj q hj=>hz j q hj) ht λC hC c=>?_
 have cL:=(hC.2 c).1 _ hn;refine x2 _ ps {by rw[CS cL,B8],?_};rw[CS cL];exact zn<|(I.sd C hC.1.1).ct r m ps (a3 C hC.1 cL)
def Hist.fewer(I:Hist m0 M0 as t o)(hk:k<m0)(h0:hnd M0 as 0 k=.nm z r)(h3:hnd M0 as 3 r=.rc m ps)(hb:b.kind=3/\b.k=r/\as.length∈b.nd)(hC:GJ C (b::{0,k,.no,nd}::as))(c:C (as.length+1)=true) :
  sh M0 C ({0,k,.no,nd}::as) 3 r=.rc m ps/\ld m0 (sh M0 C ({0,k,.no,nd}::as)) r+1<=m/\sh M0 C as 3 r=.rc m ps:=by
 obtain⟨b1,b2,b3⟩:=hb
 have cL:=(hC.2 c).1 _ b3
 have e3:sh M0 C ({0,k,.no,nd}::as) 3 r=.rc m ps:=by
  have:=KG (M0:=M0) hC c;rw[b1,b2]at this;rw[this];exact h3
 have f3:sh M0 C as 3 r=.rc m ps:=by
  rw[CS cL]at e3;exact e3
 have f0:sh M0 C as 0 k=.nm z r:=by rw[KG  hC.1 cL];exact h0
 have l:=Y0 (S:=sh M0 C as) (x:=.no) (r:=r) hk;refine{e3,?_,f3};rw[f0,show FL _ r=true from by simp[FL]]at l
 have e:ld m0 (sh M0 C ({0,k,.no,nd}::as)) r=ld m0 ((sh M0 C as).put 0 k .no) r:=by rw[CS cL]
 exact e ▸ l ▸ ((I.sd C hC.1.1).ct r m ps f3)
def Hist.unlead(I:Hist m0 M0 as t o)(hk:k<m0)(h0:hnd M0 as 0 k=.nm z r)(h3:hnd M0 as 3 r=.rc (m+1) ps) :
  Hist m0 M0 ({3,r,.rc m ps,[as.length]}::{0,k,.no,nd}::as) (ES t z as.length) (ES o z as.length):=by
 have I1:=I.gone (nd:=nd) hk h0;exact I1.step  (by simp) λC hC c=>by
  obtain⟨e1,e2,y⟩:=I.fewer hk h0 h3 {rfl,rfl,by simp} hC c;exact(I1.sd C hC.1).count e1 (An e2)
def Hist.unmark:∀ {ps:ad} {bs:List AC},Hist m0 M0 bs t o->(∀ C,GJ C bs->C d=true->∀ q m ps',sh M0 C bs 3 q=.rc m ps'->∀ p∈ps,p∉ps')->Hist m0 M0 ((ps.map λp=>({2,p,.mk 0,[d]}:AC)).reverse++bs) t o
 | [],bs,I,_=>I
 | p::ps,bs,I,h=>by
  have:=Hist.unmark  (I.step (a:={2,p,.mk 0,[d]}) (by simp) λC hC c=>(I.sd C hC.1).pmark (.inr λr m ps' e=>h C hC.1 ((hC.2 c).1 d (by simp)) r m _ e p ai)) λC hC cd q m ps' e p' hp'=>by
   have e':sh M0 C bs 3 q=.rc m ps':=by
    by_cases c:C bs.length=true;rw[CS c]at e;exact e;rw[EE c]at e;exact e
   exact h C hC.1 cd q m _ e' p'<|ω _ hp'
  rw[ca,pz,gg];exact this
def zgx(h:∀ a∈cs,a.kind≠i):sh M0 C (cs++as) i j=sh M0 C as i j:=by
 induction cs with
 |nil=>rfl
 |cons a r ih =>
  have ih:=ih λb hb=>h b<|ω _ hb;rw[vy];by_cases c:C (r++as).length=true;rw[CS c,ED (h a ai).symm];exact ih;rw[EE c];exact ih
def Hist.dropped(I:Hist m0 M0 as t o)(hk:k<m0)(h0:hnd M0 as 0 k=.nm z r)(h3:hnd M0 as 3 r=.rc m ps)(hm:m<=1) :
  Hist m0 M0 ({1,r,.mk 0,[as.length+1]}::((ps.map λp=>({2,p,.mk 0,[as.length+1]}:AC)).reverse++{3,r,.no,[as.length]}::{0,k,.no,nd}::as)) (ES t z as.length) (ES o z as.length):=by
 have I1:=I.gone (nd:=nd) hk h0
 have I2:=I1.step (a:={3,r,_,[as.length]}) (by simp) λC hC c=>by
  obtain⟨e1,e2,x⟩:=I.fewer hk h0 h3 {rfl,rfl,by simp} hC c;exact(I1.sd C hC.1).drop (Nat.le_zero.mp<|An<|ψ e2 hm)
 have I3:=Hist.unmark   I2 λC hC cd q m' ps' e p hp=>by
  obtain⟨x,x,f3⟩:=I.fewer hk h0 h3 {rfl,rfl,by simp} hC cd;rw[CS cd]at e;by_cases z:q=r;subst z;rw[B8]at e;cases e;rw[CK z,CS ((hC.2 cd).1 _ (by simp))]at e;exact(I.sd C hC.1.1).dj r q m m' ps _ (λy=>z y.symm) f3 e p hp
 refine I3.step  (by simp) λC hC c=>(I3.sd C hC.1).rmark (.inr λm' ps' e=>?_);rw[zgx (λa ha=>by
  obtain⟨p,x,rfl⟩:=af.mp<|La.mp ha;simp),CS ((hC.2 c).1 _ (by simp)),B8]at e
 cases e
def Hist.put(I:Hist m0 M0 as t o){r m p:Nat}{ps:ad}{x:Str}(h2:hnd M0 as 2 p≠.mk 1)(h3:hnd M0 as 3 r=.rc m ps) :
  Hist m0 M0 ({3,r,.rc m<|ps++[p],[as.length+1]}::{4,p,.tx x,[as.length]}::{2,p,.mk 1,[]}::as) t o:=by
 have I1:=I.step (a:={2,p,_,[]}) (by simp) λC hC z=>(I.sd C hC.1).pmark (.inl rfl)
 have I2:=I1.step (a:={4,p,.tx x,[as.length]}) (by simp) λC hC z=>(I1.sd C hC.1).text;refine I2.step  (by simp) λC hC c=>?_
 have c1:C (as.length+1)=true:=(hC.2 c).1 _ (by simp)
 have c0:C as.length=true:=(hC.1.2 c1).1 _ (by simp);refine(I2.sd C hC.1).more  ?_ ?_ (by rw[CS c1,B8]) λq m' ps' e hp=>?_;rw[KG  hC c];exact h3;rw[CS c1,ED (by simp),CS c0,B8];rw[CS c1,CS c0]at e
 have:=((I.sd C hC.1.1.1).pm q m' _ e p hp).1;rw[KG  hC.1.1 c0]at this;exact h2 this
def Hist.take(I:Hist m0 M0 as t o)(h3:hnd M0 as 3 r=.rc m ps)(hi:ps[i]? =some p) :
  Hist m0 M0 ({2,p,.mk 0,[as.length]}::{3,r,.rc m<|ps.eraseIdx i,[]}::as) t o:=by
 have a3:∀ C,GJ C ({3,r,.rc m<|ps.eraseIdx i,[]}::as)->C _=true->sh M0 C as 3 r=.rc m ps:=λC hC c=>by
  rw[KG  hC c];exact h3
 have I1:=I.step  (by simp) λC hC c=>(I.sd C hC.1).less (a3 C hC c) (List.eraseIdx_sublist ..);refine I1.step  (by simp) λC hC c=>(I1.sd C hC.1).pmark (.inr λq m' ps' e=>?_)
 have c0:C as.length=true:=(hC.2 c).1 _ (by simp)
 have e3:=a3 C hC.1 c0;rw[CS c0]at e;by_cases z:q=r;subst z;rw[B8]at e;cases e;exact λh=>by
  obtain⟨j,hj,ej⟩:=List.mem_eraseIdx_iff_getElem?.mp h;exact hj ((List.getElem?_inj ((ε.mp hi).1) ((I.sd C hC.1.1).nd q m ps e3)).mp (hi.trans ej.symm)).symm
 rw[CK z]at e;exact(I.sd C hC.1.1).dj r q m m' ps _ (λy=>z y.symm) e3 e p (η hi)
end
abbrev HF(a:Ad):Addr:=a "Hold"
abbrev TB(K:μ)(a:Ad):Prop:=pM K (HF a) (a "Change")
abbrev EF(a:Ad)(H:Hp)(A:BA)(w:Nat)(rows:t5)(n:Nat)(cs:Rr)(outs:Tu):Prop:=BookAt a (HF a) H A w rows n cs outs
def Y1:Option Nat->V
 |none=>.non
 |some k=>.int k
def AX(l:ad):Tr:=l.map λ(k:Nat)=>V.int k
abbrev onPl(rows:t5)(w:Nat)(i j:Int):Prop:=0<=i/\i<rows.length/\0<=j/\j<w
example:(UG):=∃ x dx pl v nt,vs=[.ref x,.ref pl,v,.ref nt]/\TB K a/\H x=some (.ins (a "Change") dx [])/\Q .non (upd H x<|.ins (a "Change") dx (GI pl v nt))
example:(QZ):=∃ (b gp cl dx:Addr) (w:Nat) (rows:t5) (n:Nat),vs=[.ref b,.ref gp]/\TB K a/\DH K a/\PlankAt a H gp cl w rows n/\H b=some (.ins (HF a) dx []) /\
 ∀ (m mi lt ou:Addr) (ls:Uu) (H':Hp),H m=none->H mi=none->H lt=none->H ou=none->(∀ l∈ls,H l=none)->EF a H' ⟨b,gp,m,mi,lt,ou,ls,cl⟩ w rows n [] (λ_=>false)->SameBut (· =b) H H'->Q .non H'
example:(UH):=∃ (nl:Addr) (ns:Zu) (o:Option Nat),vs=[.ref nl,Y1 o]/\SqL K H nl (ns.map V.int)/\ns.length<=60 /\
 ∀ (t:Addr) (ks:Zu) (H':Hp),Same H H'->H' t=some (.tup<|ks.map V.int)->ks.Pairwise (· <·)->(∀ x,x∈ks↔x∈ns\/∃ k:Nat,o=some k/\x=k)->ks.length<=ns.length+1->Q (.ref t) H'
example:(UI):=∃ (A:BA) (w:Nat) (rows:t5) (n:Nat) (cs:Rr) (outs:Tu) (pl:Addr) (i j:Int),vs=[.ref A.b,.ref pl]/\TB K a/\DH K a/\EF a H A w rows n cs outs/\H pl=some (.tup [.int i,.int j]) /\
 (onPl rows w i j->Q .non H)/\(¬ onPl rows w i j->E (.ref<|a "NoBlock") none H)
example:(Q0):=∃ (A:BA) (w:Nat) (rows:t5) (n:Nat) (cs:Rr) (outs:Tu) (pl:Addr) (i j:Int),vs=[.ref A.b,.ref pl]/\TB K a/\DH K a/\EF a H A w rows n cs outs/\H pl=some (.tup [.int i,.int j]) /\
 (onPl rows w i j->Q (Y1<|EC cs i j) H)/\(¬ onPl rows w i j->E (.ref<|a "NoBlock") none H)
abbrev known(cs:Rr)(x:Int):Prop:=0<=x/\x<cs.length
example:(UJ):=∃ (A:BA) (w:Nat) (rows:t5) (n:Nat) (cs:Rr) (outs:Tu) (nl:Addr) (ns:Zu),vs=[.ref A.b,.ref nl]/\TB K a/\EF a H A w rows n cs outs/\SqL K H nl (ns.map V.int) /\
 ((∀ x∈ns,known cs x)->Q .non H)/\((∃ x∈ns,¬ known cs x)->E (.ref<|a "NoChange") none H)
example:(FV):=∃ (A:BA) (w:Nat) (rows:t5) (n:Nat) (cs:Rr) (outs:Tu) (pl nl:Addr) (v:V) (ns:Zu) (i j:Int),vs=[.ref A.b,.ref pl,v,.ref nl]/\TB K a/\DH K a/\EF a H A w rows n cs outs/\H pl=some (.tup [.int i,.int j])/\SqL K H nl (ns.map V.int)/\ns.length<=60/\cs.length<990 /\
 (onPl rows w i j->(∀ x∈ns,known cs x)->∀ (nd:Zu) (H':Hp),nd.Pairwise (· <·)->(∀ x,x∈nd↔x∈ns\/∃ k:Nat,EC cs i j=some k/\x=k)->EF a H' A w rows n (cs++[⟨i.toNat,j.toNat,v,nd⟩]) outs->SameBut A.F H H'->Q (.int cs.length) H') /\
 (¬ onPl rows w i j->E (.ref<|a "NoBlock") none H)/\(onPl rows w i j->(∃ x∈ns,¬ known cs x)->E (.ref<|a "NoChange") none H)
def ET(cs:Rr)(rows:t5)(i j:Int):Option V:=match EC cs i j with
 |some k=>(cs[k]?).map (·.val)
 |none=>(rows[i.toNat]?).bind λr=>r[j.toNat]?
example:(MR):=∃ (A:BA) (w:Nat) (rows:t5) (n:Nat) (cs:Rr) (outs:Tu) (pl:Addr) (i j:Int),vs=[.ref A.b,.ref pl]/\TB K a/\DH K a/\EF a H A w rows n cs outs/\H pl=some (.tup [.int i,.int j]) /\
 (onPl rows w i j->∀ (v:V) (H':Hp),ET cs rows i j=some v->Same H H'->Q v H')/\(¬ onPl rows w i j->E (.ref<|a "NoBlock") none H)
def Y2:Option Int->V
 |none=>.non
 |some k=>.int k
abbrev EG(kvs:tZ)(x:Int):Bool:=(BF kvs<|.inl x).isSome
example:(UK):=∃ (A:BA) (w:Nat) (rows:t5) (n:Nat) (cs:Rr) (outs:Tu) (k:Nat) (c:Ch) (g:Addr) (kvg:tZ),vs=[.ref A.b,.int k,.ref g]/\TB K a/\EF a H A w rows n cs outs/\cs[k]? =some c/\H g=some (.dK kvg) /\
 Q (Y2 (NW c.nd λx=>outs x||EG kvg x)) H
example:(UL):=∃ (A:BA) (w:Nat) (rows:t5) (n:Nat) (cs:Rr) (outs:Tu) (b:Nat) (tk:Addr) (kvt:tZ),vs=[.ref A.b,.int b,.ref tk]/\TB K a/\EF a H A w rows n cs outs/\b<rows.length/\H tk=some (.dK kvt)/\kvt.length<=1000 /\
 ∀ (t ol hl:Addr) (H':Hp),H ol=none->H hl=none->ol≠hl->Same H H'->pV H' t ol hl (outcome cs outs (EG kvt) b).out (outcome cs outs (EG kvt) b).held->Q (.ref t) H'
example:(UM):=∃ (A:BA) (w:Nat) (rows:t5) (n:Nat) (cs:Rr) (outs:Tu) (b:Nat) (vl:Addr) (row:Tr),vs=[.ref A.b,.ref vl,.int b]/\TB K a/\EF a H A w rows n cs outs/\b<rows.length/\H vl=some (.lst row)/\row.length=w /\
 ∀ (l:Addr) (H':Hp),H l=none->Same H H'->H' l=some (.lst<|EY cs outs b row)->Q (.ref l) H'
example:(UN):=∃ (A:BA) (w:Nat) (rows:t5) (n:Nat) (cs:Rr) (outs:Tu) (b:Int),vs=[.ref A.b,.int b]/\TB K a/\DH K a/\EF a H A w rows n cs outs /\
 (∀ (b':Nat) (row:Tr) (t ol hl:Addr) (H':Hp),b=b'->rows[b']? =some row->H ol=none->H hl=none->ol≠hl->pV H' t ol hl (outcome cs outs (λ_=>false) b').out (outcome cs outs (λ_=>false) b').held ->
  EF a H' A w (rows.set b'<|EY cs (HD cs outs b') b' row) (n+1) cs (HD cs outs b')->SameBut (λx=>A.F x\/x=A.gp) H H'->Q (.ref t) H') /\
 (b<0\/rows.length<=b->E (.ref<|a "NoBlock") none H)
def GoodV:Nat->Hp->V->Prop
 |0,_,_=>False
 |_+1,_,.int _=>True
 |_+1,_,.non=>True
 |_+1,_,.str z=>cy z=true
 |n+1,H,.ref p=>∃ xs,H p=some (.tup xs)/\xs.length<=100/\∀ v∈xs,GoodV n H v
 |_,_,_=>False
def UO(v:V):Prop:=v=.non\/∃ i,v=.int i
def BI(n r c w kind k:Nat):Nat:=(if kind=0 then 0 else if kind=1 then n+r+c else if kind=2 then n+r+c+r else if kind=3 then n else n+r)+k/w
def BN(n r c w kind:Nat):Nat:=(if kind=0 then n else if kind=1 then r else if kind=2 then c else if kind=3 then r else c)*w
def LN(kind:Nat)(v:V):Bool:=decide (v=.non)||(decide (0<kind)&&decide (v=.int 0))
def EH(f:Wu)(m:Nat):Int:=match (ο m).find? f with
 |some k=>k
 |none=> -1
def Q1(H:Hp)(rows:t5):Prop:=∀ r∈rows,∀ v∈r,GoodV 4 H v
def goodH(H:Hp)(cs:Rr)(rows:t5):Prop:=Q1 H rows/\∀ c∈cs,GoodV 4 H c.val
def MS(cs:Rr)(rows:t5)(n r c w kind:Nat)(k:Nat):Bool:=match ET cs rows (BI n r c w kind k:Nat) (k%w:Nat)with
 |some v=>LN kind v
 |none=>false
example:(MT):=∃ (A:BA) (w:Nat) (rows:t5) (n:Nat) (cs:Rr) (outs:Tu) (pl vl:Addr) (ts:Uu) (xs:Tr) (f:Wu) (m:Nat),vs=[.ref A.b,.ref pl,.ref vl]/\TB K a/\DH K a/\EF a H A w rows n cs outs/\H pl=some (.lst<|ts.map V.ref)/\ts.length=m/\m<=1000/\H vl=some (.tup xs)/\(∀ z∈xs,UO z) /\
 (∀ k t,ts[k]? =some t->∃ i j v,H t=some (.tup [.int i,.int j])/\onPl rows w i j/\ET cs rows i j=some v/\GoodV 4 H v/\f k=decide (v∈xs)) /\
 (∀ k:Nat,EH f m=k->∀ H',Same H H'->Q (.int k) H')/\(EH f m= -1->∀ H',Same H H'->E (.ref<|a "NoRoom") none H')
def UP(kind:Nat)(K:μ)(a:Ad)(p b:Addr)(H:Hp)(Q:VK)(E:XK):Prop:=∃ (A:BA) (n r c w:Nat) (rows:t5) (nn:Nat) (cs:Rr) (outs:Tu),b=A.b/\TB K a/\DH K a/\DZ K a/\LayAt a H p n r c w/\n<=6/\r<=6/\c<=6/\w<=6/\EF a H A w rows nn cs outs/\rows.length=n+r+c+r+c/\(∀ i j v,ET cs rows i j=some v->GoodV 4 H v) /\
 (∀ k:Nat,EH (MS cs rows n r c w kind) (BN n r c w kind)=k->∀ H',Same H H'->Q (.int k) H')/\(EH (MS cs rows n r c w kind) (BN n r c w kind)= -1->∀ H',Same H H'->E (.ref<|a "NoRoom") none H')
example:(Q2):=∃ p b,vs=[.ref p,.ref b]/\UP 0 K a p b H Q E
example:(UQ):=∃ p b,vs=[.ref p,.ref b]/\UP 1 K a p b H Q E
example:(UR):=∃ p b,vs=[.ref p,.ref b]/\UP 2 K a p b H Q E
def LP(c:Nat):Bool:=decide (32<=c)&&decide (c<=126)&&decide (c≠37)
def Q3(c:Nat):Bool:=decide (97<=c)&&decide (c<=122)
def BY(z:Str):Bool:=decide (1<=z.length)&&decide (z.length<=8)&&z.cps.toList.all Q3
def HG(z:Str):Bool:=decide (1<=z.length)&&decide (z.length<=40)&&z.cps.toList.all LP
example:(Y3):=∃ c:Nat,vs=[.str {#[c]}]/\Q (.bl<|LP c) H
example:(Y4):=∃ z:Str,vs=[.str z]/\z.length<=1000/\∀ H',Same H H'->Q (.bl<|BY z) H'
example:(Y5):=∃ z:Str,vs=[.str z]/\z.length<=1000/\∀ H',Same H H'->Q (.bl<|HG z) H'
structure US(K:μ)(a:Ad):Prop where
 cl:Cls K (a "Store")
 n1:NoAttr K (a "Store") "plan"
 n2:NoAttr K (a "Store") "book"
 n3:NoAttr K (a "Store") "taken_out"
def sf(lp b tk:Addr):tT:=[("plan",.ref lp),("book",.ref b),("taken_out",.ref tk)]
structure SA where
 A:BA
 st:Addr
 lp:Addr
 tk:Addr
structure Hs where
 b:Md
 as:List AC
abbrev Hs.f(M:Hs):Md:=hnd M.b M.as
instance:CoeFun Hs λ_=>Nat->Nat->CV:=⟨Hs.f⟩
def Hs.put(M:Hs)(kind k:Nat)(x:CV)(nd:ad):Hs:={M.b,⟨kind,k,x,nd⟩::M.as}
def Hs.put_at{M:Hs}:(M.put kind k x nd) i j=if i=kind/\j=k then x else M i j:=rfl
def RepC(H:Hp):CV->V->Prop
 |.no,v=>v=.non
 |.nm z k,v=>∃ t,v=.ref t/\H t=some (.tup [.str z,.int k])
 |.mk i,v=>v=.int i
 |.rc m ps,v=>∃ t u,v=.ref t/\H t=some (.tup [.int m,.ref u])/\H u=some (.tup<|AX ps)
 |.tx z,v=>v=.str z
def DL:Nat->CV->Prop
 |_,.no=>True
 |0,.nm _ _=>True
 |1,.mk i=>i<=1
 |2,.mk i=>i<=1
 |3,.rc _ _=>True
 |4,.tx _=>True
 |_,_=>False
inductive LaidA(n r c w:Nat)(H:Hp):Rr->List AC->Prop
 |nil:LaidA n r c w H [] []
 |snoc {cs:Rr} {as:List AC} {ch:Ch} {x:AC}:LaidA n r c w H cs as->ch.blk=BI n r c w x.kind x.k->ch.cell=x.k%w->RepC H x.x ch.val->(∀ y:Int,y∈ch.nd↔(∃ j∈x.nd,y=(j:Nat))\/∃ j:Nat,II x.kind x.k as=some j/\y=j)->x.kind<5->x.k<BN n r c w x.kind->LaidA n r c w H (cs++[ch]) (x::as)
structure SM(a:Ad)(H:Hp)(S:SA)(n r c w:Nat)(rows:t5)(nn:Nat)(cs:Rr)(outs:Tu)(tks:tZ)(M:Hs):Prop where
 ob:∃ dx,H S.st=some (.ins (a "Store") dx (sf S.lp S.A.b S.tk))
 ly:LayAt a H S.lp n r c w
 bk:EF a H S.A w rows nn cs outs
 tk:H S.tk=some (.dK tks)
 tl:tks.length<=cs.length
 tv:∀ z v,BF tks (.inr z)=some v->∃ k:Nat,v=.int k/\k<cs.length
 ap:¬ S.A.F S.tk
 sz:n<=6/\r<=6/\c<=6/\w<=6/\rows.length=n+r+c+r+c
 gd:goodH H cs rows
 rp:∀ kind k v,kind<5->k<BN n r c w kind->ET cs rows (BI n r c w kind k:Nat) (k%w:Nat)=some v->RepC H (M kind k) v
 ok:∀ kind k,kind<5->k<BN n r c w kind->DL kind (M kind k)
 la:LaidA n r c w H cs M.as
def D7(M:Hs)(k:Nat):Option (Str × Nat):=match M 0 k with
 |.nm z r=>some (z,r)
 |_=>none
def KH(M:Hs)(m:Nat):Xu:=(ο m).filterMap λk=>(D7 M k).map (·.1)
def cellOf(M:Hs)(m:Nat)(z:Str):Option Nat:=(ο m).find? λk=>(D7 M k).any λp=>decide<|p.1=z
def CQ(kind:Nat):CV->Bool
 |.no=>true
 |.mk i=>decide (0<kind)&&decide (i=0)
 |_=>false
def EI(M:Hs)(kind m:Nat):Int:=EH (λk=>CQ kind<|M kind k) m
abbrev CL(K:μ)(a:Ad):Prop:=TB K a/\DH K a/\DZ K a/\US K a
abbrev p5(cs:Rr)(i j:Int)(x:Int):Prop:=∃ k:Nat,EC cs i j=some k/\x=k
structure SX where
 S:SA
 n:Nat
 r:Nat
 c:Nat
 w:Nat
 rows:t5
 nn:Nat
 outs:Int->Bool
abbrev SX.at(X:SX)(a:Ad)(H:Hp)(cs:Rr)(tks:tZ)(M:Hs):Prop:=SM a H X.S X.n X.r X.c X.w X.rows X.nn cs X.outs tks M
abbrev SX.m0(X:SX):Nat:=X.n*X.w
example:(NZ):=∃ (x dx lp gp cl:Addr) (n r c w:Nat) (rows:t5) (nn:Nat) (M:Md),vs=[.ref x,.ref lp,.ref gp]/\CL K a/\H x=some (.ins (a "Store") dx [])/\LayAt a H lp n r c w/\PlankAt a H gp cl w rows nn/\(n<=6/\r<=6/\c<=6/\w<=6/\rows.length=n+r+c+r+c)/\Q1 H rows/\(∀ kind k v,kind<5->k<BN n r c w kind->ET [] rows (BI n r c w kind k:Nat) (k%w:Nat)=some v->RepC H (M kind k) v)/\(∀ kind k,kind<5->k<BN n r c w kind->DL kind (M kind k)) ∧
 ∀ (S:SA) (H':Hp),S.st=x->S.lp=lp->S.A.gp=gp->S.A.cl=cl->(∀ y o,H y=some o->y=cl\/¬ S.A.F y)->H S.tk=none->SM a H' S n r c w rows nn [] (λ_=>false) [] {M,[]}->SameBut (· =x) H H'->Q .non H'
example:(N0):=∃ (X:SX) (cs:Rr) (tks:tZ) (M:Hs),vs=[.ref X.S.st]/\CL K a/\X.at a H cs tks M /\
 ∀ (l:Addr) (xs:Tr) (H':Hp),Same H H'->H' l=some (.lst xs)->xs.length=X.m0->(∀ k v,xs[k]? =some v->RepC H' (M 0 k) v)->Q (.ref l) H'
example:(N1):=∃ (X:SX) (cs:Rr) (tks:tZ) (M:Hs),vs=[.ref X.S.st]/\CL K a/\X.at a H cs tks M /\
 ∀ (l:Addr) (ks:Xu) (H':Hp),H l=none->Same H H'->H' l=some (.lst<|ks.map V.str)->ks.Perm (KH M X.m0)->D_ ks=true->Q (.ref l) H'
example:(N2):=∃ (X:SX) (cs:Rr) (tks:tZ) (M:Hs) (z:Str),vs=[.ref X.S.st,.str z]/\CL K a/\X.at a H cs tks M/\∀ (H':Hp),Same H H'->Q (Y1<|cellOf M X.m0 z) H'
example:(KI):=∃ (X:SX) (cs:Rr) (tks:tZ) (M:Hs) (z:Str),vs=[.ref X.S.st,.str z]/\CL K a/\X.at a H cs tks M /\
 (∀ cell k,cellOf M X.m0 z=some cell->cell<X.m0->M 0 cell=.nm z k->∀ H',Same H H'->Q (.int k) H')/\(cellOf M X.m0 z=none->∀ H',Same H H'->E (.ref<|a "NoName") none H')
example:(JI):=∃ (X:SX) (cs:Rr) (tks:tZ) (M:Hs) (rec:Nat),vs=[.ref X.S.st,.int rec]/\CL K a/\X.at a H cs tks M/\rec<X.r*X.w/\∀ v H',RepC H' (M 3 rec) v->Same H H'->Q v H'
example:(Q4):=∃ (X:SX) (cs:Rr) (tks:tZ) (M:Hs) (z:Str) (gl:Addr) (zs:Xu),vs=[.ref X.S.st,.str z,.ref gl]/\CL K a/\X.at a H cs tks M/\H gl=some (.lst<|zs.map V.str)/\zs.length<=60/\(∀ y∈zs,y.length<=1000) /\
 (zs.all BY=true->cellOf M X.m0 z=none->∀ H',Same H H'->Q .non H')/\(zs.all BY=false->∀ H',Same H H'->E (.ref<|a "NoName") none H')/\(zs.all BY=true->(∃ k,cellOf M X.m0 z=some k)->∀ H',Same H H'->E (.ref<|a "Twice") none H')
def UT(X:SX)(a:Ad)(H:Hp)(cs:Rr)(tks:tZ)(M':Hs)(Q:VK):Prop:=∀ (ch:Ch) (H':Hp),X.at a H' (cs++[ch]) tks M'->SameBut X.S.A.F H H'->Q (.int cs.length) H'
def E8(tks:tZ)(z:Str):ad:=match BF tks (.inr z)with
 |some (.int k)=>[k.toNat]
 |_=>[]
abbrev LQ(ns:Zu):ad:=ns.map Pn
example:(Q5):=∃ (X:SX) (cs:Rr) (tks:tZ) (M:Hs) (cell rec need:Nat) (z:Str),vs=[.ref X.S.st,.int cell,.str z,.int rec,.int need]/\CL K a/\X.at a H cs tks M/\cell<X.m0/\need<cs.length/\cs.length<980/\cy z=true/\UT X a H cs tks (M.put 0 cell (.nm z rec) (need::E8 tks z)) Q
example:(N3):=∃ (X:SX) (cs:Rr) (tks:tZ) (M:Hs) (rec m m':Nat) (more:Int) (ps:ad) (nl:Addr) (ns:Zu),vs=[.ref X.S.st,.int rec,.int more,.ref nl]/\CL K a/\X.at a H cs tks M/\rec<X.r*X.w/\M 3 rec=.rc m ps/\(m:Int)+more=m'/\ps.length<=100/\H nl=some (.lst<|ns.map V.int)/\ns.length<=60/\(∀ x∈ns,known cs x)/\cs.length<980/\UT X a H cs tks (M.put 3 rec (.rc m' ps) (LQ ns)) Q
example:(Q6):=∃ (X:SX) (cs:Rr) (tks:tZ) (M:Hs) (rec m:Nat) (ps ps':ad) (pl nl:Addr) (ns:Zu),vs=[.ref X.S.st,.int rec,.ref pl,.ref nl]/\CL K a/\X.at a H cs tks M/\rec<X.r*X.w/\M 3 rec=.rc m ps/\H pl=some (.tup<|AX ps')/\ps'.length<=100/\H nl=some (.lst<|ns.map V.int)/\ns.length<=60/\(∀ x∈ns,known cs x)/\cs.length<980/\UT X a H cs tks (M.put 3 rec (.rc m ps') (LQ ns)) Q
example:(Q7):=∃ (X:SX) (cs:Rr) (tks:tZ) (M:Hs) (cell:Nat) (z:Str) (nl:Addr) (ns:Zu),vs=[.ref X.S.st,.str z,.ref nl]/\CL K a/\X.at a H cs tks M/\cellOf M X.m0 z=some cell/\cell<X.m0/\H nl=some (.lst<|ns.map V.int)/\ns.length<=60/\(∀ x∈ns,known cs x)/\cs.length<980 /\
 ∀ (ch:Ch) (H':Hp),X.at a H' (cs++[ch]) (B0 tks (.inr z) (.int cs.length)) (M.put 0 cell .no<|LQ ns)->SameBut (λx=>X.S.A.F x\/x=X.S.tk) H H'->Q (.int cs.length) H'
def Hs.unmark(M:Hs)(d:Nat)(ps:ad):Hs:=ps.foldl (λM p=>M.put 2 p (.mk 0) [d]) M
example:(UU):=∃ (X:SX) (cs:Rr) (tks:tZ) (M:Hs) (rec m gone:Nat) (ps:ad),vs=[.ref X.S.st,.int rec,.int gone]/\CL K a/\X.at a H cs tks M/\rec<X.r*X.w/\M 3 rec=.rc m ps/\gone<cs.length/\(∀ p∈ps,p<X.c*X.w)/\ps.length<=36/\cs.length<940 /\
 ∀ (ex:Rr) (l:Addr) (H':Hp),H l=none->H' l=some (.lst (AX ((ο<|ps.length+2).map (cs.length+·))))->ex.length=ps.length+2->X.at a H' (cs++ex) tks (((M.put 3 rec .no [gone]).unmark cs.length ps).put 1 rec (.mk 0) [cs.length])->SameBut X.S.A.F H H'->Q (.ref l) H'
def MU(X:SX)(a:Ad)(H:Hp)(cs:Rr)(d:Nat)(tks':tZ)(M':Hs)(Q:VK):Prop:=∀ (ex:Rr) (l:Addr) (H':Hp),ex.length=d->H l=none->H' l=some (.lst (AX ((ο d).map (cs.length+·))))->X.at a H' (cs++ex) tks' M'->SameBut (λx=>X.S.A.F x\/x=X.S.tk) H H'->Q (.ref l) H'
def EU(a:Ad)(H:Hp)(c:String)(E:XK):Prop:=∀ H',Same H H'->E (.ref<|a c) none H'
example:(UV):=∃ (X:SX) (cs:Rr) (tks:tZ) (M:Hs) (z:Str),vs=[.ref X.S.st,.str z]/\CL K a/\X.at a H cs tks M/\z.length<=1000/\cs.length<930 /\
 (BY z=true->cellOf M X.m0 z=none->∀ rec cell:Nat,EI M 1 (X.r*X.w)=rec->EI M 0 X.m0=cell->rec<X.r*X.w->cell<X.m0->MU X a H cs 3 tks (((M.put 1 rec (.mk 1) []).put 3 rec (.rc 1 []) [cs.length]).put 0 cell (.nm z rec) ((cs.length+1)::E8 tks z)) Q) /\
 (BY z=false->EU a H "NoName" E)/\(BY z=true->(∃ k,cellOf M X.m0 z=some k)->EU a H "Twice" E) ∧
 (BY z=true->cellOf M X.m0 z=none->(EI M 1 (X.r*X.w)= -1\/EI M 0 X.m0= -1)->EU a H "NoRoom" E)
example:(Q8):=∃ (X:SX) (cs:Rr) (tks:tZ) (M:Hs) (y z:Str),vs=[.ref X.S.st,.str y,.str z]/\CL K a/\X.at a H cs tks M/\y.length<=1000/\z.length<=1000/\cs.length<930 /\
 (BY y=true->BY z=true->cellOf M X.m0 z=none->∀ old rec cell:Nat,cellOf M X.m0 y=some old->old<X.m0->M 0 old=.nm y rec->rec<X.r*X.w/\∃ m ps,M 3 rec=.rc m ps/\ps.length<=100/\(EI M 0 X.m0=cell->cell<X.m0->MU X a H cs 2 tks ((M.put 3 rec (.rc (m+1) ps) []).put 0 cell (.nm z rec) (cs.length::E8 tks z)) Q)) /\
 ((BY y&&BY z)=false->EU a H "NoName" E)/\(BY y=true->BY z=true->(∃ k,cellOf M X.m0 z=some k)->EU a H "Twice" E)/\(BY y=true->BY z=true->cellOf M X.m0 z=none->cellOf M X.m0 y=none->EU a H "NoName" E) ∧
 (BY y=true->BY z=true->cellOf M X.m0 z=none->(∃ k,cellOf M X.m0 y=some k)->EI M 0 X.m0= -1->EU a H "NoRoom" E)
example:(UW):=∃ (X:SX) (cs:Rr) (tks:tZ) (M:Hs) (z:Str),vs=[.ref X.S.st,.str z]/\CL K a/\X.at a H cs tks M/\cs.length<930 /\
 (∀ cell rec:Nat,cellOf M X.m0 z=some cell->cell<X.m0->M 0 cell=.nm z rec->rec<X.r*X.w/\∃ m ps,M 3 rec=.rc m ps/\(∀ p∈ps,p<X.c*X.w)/\ps.length<=36 /\
  (1<m->MU X a H cs 2 (B0 tks (.inr z) (.int cs.length)) ((M.put 0 cell .no []).put 3 rec (.rc (m-1) ps) [cs.length]) Q)/\(m<=1->MU X a H cs (ps.length+3) (B0 tks (.inr z) (.int cs.length)) ((((M.put 0 cell .no []).put 3 rec .no [cs.length]).unmark (cs.length+1) ps).put 1 rec (.mk 0) [cs.length+1]) Q)) /\
 (cellOf M X.m0 z=none->EU a H "NoName" E)
example:(UX):=∃ (X:SX) (cs:Rr) (tks:tZ) (M:Hs) (z t:Str),vs=[.ref X.S.st,.str z,.str t]/\CL K a/\X.at a H cs tks M/\t.length<=1000/\cy t=true/\cs.length<930 /\
 (∀ cell rec:Nat,cellOf M X.m0 z=some cell->cell<X.m0->M 0 cell=.nm z rec->HG t=true->∀ p:Nat,EI M 2 (X.c*X.w)=p->p<X.c*X.w->rec<X.r*X.w/\∃ m ps,M 3 rec=.rc m ps/\ps.length<=90/\MU X a H cs 3 tks (((M.put 2 p (.mk 1) []).put 4 p (.tx t) [cs.length]).put 3 rec (.rc m<|ps++[p]) [cs.length+1]) Q) /\
 (cellOf M X.m0 z=none->EU a H "NoName" E)/\((∃ k,cellOf M X.m0 z=some k)->HG t=false->EU a H "NoPiece" E)/\((∃ k,cellOf M X.m0 z=some k)->HG t=true->EI M 2 (X.c*X.w)= -1->EU a H "NoRoom" E)
example:(MV):=∃ (X:SX) (cs:Rr) (tks:tZ) (M:Hs) (z:Str),vs=[.ref X.S.st,.str z]/\CL K a/\X.at a H cs tks M /\
 (∀ cell rec:Nat,cellOf M X.m0 z=some cell->cell<X.m0->M 0 cell=.nm z rec->rec<X.r*X.w/\∃ m ps,M 3 rec=.rc m ps/\ps.length<=100/\∃ ts:Xu,Paired (λp t=>p<X.c*X.w/\M 4 p=.tx t) ps ts/\∀ l H',H l=none->Same H H'->H' l=some (.lst<|ts.map V.str)->Q (.ref l) H') /\
 (cellOf M X.m0 z=none->EU a H "NoName" E)
example:(UY):=∃ (X:SX) (cs:Rr) (tks:tZ) (M:Hs) (z:Str) (x:Int),vs=[.ref X.S.st,.str z,.int x]/\CL K a/\X.at a H cs tks M/\cs.length<930 /\
 (∀ cell rec:Nat,cellOf M X.m0 z=some cell->cell<X.m0->M 0 cell=.nm z rec->rec<X.r*X.w/\∃ m ps,M 3 rec=.rc m ps/\ps.length<=100/\((x<0\/ps.length<=x)->EU a H "NoPiece" E)/\(∀ (k p:Nat),x=k->ps[k]? =some p->p<X.c*X.w/\MU X a H cs 2 tks ((M.put 3 rec (.rc m<|ps.eraseIdx k) []).put 2 p (.mk 0) [cs.length]) Q)) ∧
 (cellOf M X.m0 z=none->EU a H "NoName" E)
example:(UZ):=∃ (X:SX) (cs:Rr) (tks:tZ) (M:Hs) (y z:Str),vs=[.ref X.S.st,.str y,.str z]/\CL K a/\X.at a H cs tks M/\y.length<=1000/\z.length<=1000/\cs.length<920 /\
 (BY y=true->BY z=true->cellOf M X.m0 z=none->∀ old rec cell:Nat,cellOf M X.m0 y=some old->old<X.m0->M 0 old=.nm y rec->rec<X.r*X.w/\∃ m ps,M 3 rec=.rc m ps/\ps.length<=100/\(EI M 0 X.m0=cell->cell<X.m0->MU X a H cs 4 (B0 tks (.inr y) (.int (cs.length+2:Nat))) ((((M.put 3 rec (.rc (m+1) ps) []).put 0 cell (.nm z rec) (cs.length::E8 tks z)).put 0 old .no [cs.length+1]).put 3 rec (.rc m ps) [cs.length+2]) Q)) /\
 ((BY y&&BY z)=false->EU a H "NoName" E)/\(BY y=true->BY z=true->(∃ k,cellOf M X.m0 z=some k)->EU a H "Twice" E)/\(BY y=true->BY z=true->cellOf M X.m0 z=none->cellOf M X.m0 y=none->EU a H "NoName" E) ∧
 (BY y=true->BY z=true->cellOf M X.m0 z=none->(∃ k,cellOf M X.m0 y=some k)->EI M 0 X.m0= -1->EU a H "NoRoom" E)
abbrev N4:=Option<|Str × Nat
abbrev JK:=Option<|Int × ad
structure Vw where
 nm:List N4
 rc:List JK
 pc:List (Option Str)
 rm:List (Option Int)
 pm:List (Option Int)
def AS{α :Type}(l:List (Option α))(k:Nat):Option α :=(l[k]?).join
def JL:JK->ad
 |none=>[]
 |some (_,ps)=>ps
def MW(nm:List N4):ad:=nm.filterMap λc=>c.map (·.2)
def EZ(rc:List JK):ad:=rc.flatMap JL
def led(vw:Vw)(r:Nat):Nat:=(MW vw.nm).count r
def EJ(vw:Vw)(p:Nat):Nat:=(EZ vw.rc).count p
def LR(vw:Vw):List JK:=((ο vw.rc.length).filter λr=>decide<|0<led vw r).map (AS vw.rc)
def G0(vw:Vw)(p:Nat):Nat:=(EZ<|LR vw).count p
abbrev _root_.Ru:=Nat->List V
def CZ(n:Nat)(p:Wu)(f:Ru):t5:=((ο n).filter p).map f
def GK(vw:Vw)(k:Nat):Bool:=match AS vw.nm k with
 |none=>false
 |some c=>(AS vw.rc c.2).isNone
def G1(vw:Vw)(k:Nat):Bool:=match AS vw.nm k with
 |none=>false
 |some c=>(ο k).any λj=>match AS vw.nm j with
  |none=>false
  |some d=>decide<|d.1=c.1
def JM(vw:Vw)(r:Nat):Bool:=match AS vw.rc r with
 |none=>false
 |some c=>decide<|c.1<(led vw r:Int)
def GL(vw:Vw)(r:Nat):Bool:=match AS vw.rc r with
 |none=>false
 |some c=>decide (0<led vw r)&&decide ((led vw r:Int)<c.1)
def N5(vw:Vw):t5:=CZ vw.nm.length (GK vw) (λk=>[.str "lost",.int k])++CZ vw.nm.length (G1 vw) (λk=>[.str "twice",.int k])
def N6(vw:Vw):t5:=CZ vw.pc.length (λp=>decide<|1<EJ vw p) (λp=>[.str "shared",.int p])++CZ vw.pc.length (λp=>decide (0<EJ vw p)&&(AS vw.pc p).isNone) (λp=>[.str "empty",.int p])++CZ vw.rc.length (JM vw) (λr=>[.str "few",.int r])
def Q9(vw:Vw):t5:=CZ vw.rc.length (λr=>decide (0<led vw r) && !decide (AS vw.rm r=some 1)) (λr=>[.str "free",.str "record",.int r])++CZ vw.pc.length (λp=>decide (0<EJ vw p) && !decide (AS vw.pm p=some 1)) (λp=>[.str "free",.str "piece",.int p])
def faults(vw:Vw):t5:=N5 vw++N6 vw++Q9 vw
def N7(vw:Vw):t5:=CZ vw.rc.length (GL vw) (λr=>[.str "many",.int r,.int<|led vw r])++CZ vw.rc.length (λr=>(AS vw.rc r).isSome&&decide (led vw r=0)) (λr=>[.str "left",.str "record",.int r])
def N8(vw:Vw):t5:=CZ vw.pc.length (λp=>decide (AS vw.pm p=some 1)&&decide (G0 vw p=0)) (λp=>[.str "left",.str "piece",.int p])
def N9(vw:Vw):t5:=CZ vw.rc.length (λr=>decide (AS vw.rm r=some 1)&&(AS vw.rc r).isNone) (λr=>[.str "marked",.int r])
def IJ(vw:Vw):t5:=N7 vw++N8 vw++N9 vw
structure EK(vw:Vw):Prop where
 n1:∀ c,some c∈vw.nm->c.2<vw.rc.length/\cy c.1=true
 n2:∀ c,some c∈vw.rc->(∀ p∈c.2,p<vw.pc.length)/\c.2.length<=20
 n3:∀ s,some s∈vw.pc->cy s=true
 l1:vw.rm.length=vw.rc.length
 l2:vw.pm.length=vw.pc.length
 bn:vw.nm.length<=100
 br:vw.rc.length<=100
 bp:vw.pc.length<=100
def NmV(H:Hp)(v:V):N4->Prop
 |none=>v=.non
 |some c=>∃ p,v=.ref p/\H p=some (.tup [.str c.1,.int c.2])
def RcV(H:Hp)(v:V):JK->Prop
 |none=>v=.non
 |some c=>∃ p q,v=.ref p/\H p=some (.tup [.int c.1,.ref q])/\H q=some (.tup<|AX c.2)
def PcV(_:Hp)(v:V):Option Str->Prop
 |none=>v=.non
 |some s=>v=.str s
def MkV(_:Hp)(v:V):Option Int->Prop
 |none=>v=.non
 |some i=>v=.int i
def LstAt{α :Type}(R:Hp->V-> α ->Prop)(H:Hp)(p:Addr)(cs:List α):Prop:=∃ vs,H p=some (.lst vs)/\Paired (R H) vs cs
def FindsL(H:Hp)(l:Addr)(fs:t5):Prop:=∃ ps:Uu,H l=some (.lst<|ps.map V.ref)/\Paired (λp f=>H p=some (.tup f)) ps fs
structure TV(K:μ)(a:Ad):Prop where
 cl:Cls K (a "View")
 n1:NoAttr K (a "View") "name_values"
 n2:NoAttr K (a "View") "record_values"
 n3:NoAttr K (a "View") "piece_values"
 n4:NoAttr K (a "View") "record_marks"
 n5:NoAttr K (a "View") "piece_marks"
 n6:NoAttr K (a "View") "leads"
 n7:NoAttr K (a "View") "namings"
 n8:NoAttr K (a "View") "reached"
def p6(a:Ad)(H:Hp)(x:Addr)(f:Str)(v:V):Prop:=∃ dx fs,H x=some (.ins (a "View") dx fs)/\fs.lookup f=some v
structure VA where
 n:Addr
 r:Addr
 p:Addr
 rm:Addr
 pm:Addr
 ld:Addr
 ng:Addr
 rh:Addr
def vf(A:VA):tT:=[("name_values",.ref A.n),("record_values",.ref A.r),("piece_values",.ref A.p),("record_marks",.ref A.rm),("piece_marks",.ref A.pm),("leads",.ref A.ld),("namings",.ref A.ng),("reached",.ref A.rh)]
structure ViewAt(a:Ad)(H:Hp)(x:Addr)(A:VA)(vw:Vw):Prop where
 ob:∃ dx,H x=some (.ins (a "View") dx (vf A))
 n:LstAt NmV H A.n vw.nm
 r:LstAt RcV H A.r vw.rc
 p:LstAt PcV H A.p vw.pc
 rm:LstAt MkV H A.rm vw.rm
 pm:LstAt MkV H A.pm vw.pm
 ld:H A.ld=some (.lst<|AX<|(ο vw.rc.length).map (led vw))
 ng:H A.ng=some (.lst<|AX<|(ο vw.pc.length).map (EJ vw))
 rh:H A.rh=some (.lst<|AX<|(ο vw.pc.length).map (G0 vw))
 ok:EK vw
structure PlV(H:Hp)(rows:t5)(n r c w:Nat)(vw:Vw):Prop where
 vs:∃ v1 v2 v3 v4 v5:Tr,rows.flatten=v1++v2++v3++v4++v5/\Paired (NmV H) v1 vw.nm/\Paired (RcV H) v2 vw.rc/\Paired (PcV H) v3 vw.pc/\Paired (MkV H) v4 vw.rm/\Paired (MkV H) v5 vw.pm
 ln:vw.nm.length=n*w
 lr:vw.rc.length=r*w
 lp:vw.pc.length=c*w
 ok:EK vw
def newL(vs:Tr)(H:Hp)(Q:VK):Prop:=∀ l H',H l=none->Same H H'->H' l=some (.lst vs)->Q (.ref l) H'
def newF(fs:t5)(H:Hp)(Q:VK):Prop:=∀ l H',H l=none->Same H H'->FindsL H' l fs->Q (.ref l) H'
def LS(rows:t5)(b j:Nat):V:=(((rows[b]?).bind (·[j]?)).getD .non)
example:(LT):=∃ (gp cl pl:Addr) (w:Nat) (rows:t5) (m:Nat) (ts:Uu) (ps:List (Nat × Nat)),vs=[.ref gp,.ref pl]/\DH K a/\PlankAt a H gp cl w rows m/\H pl=some (.lst<|ts.map V.ref)/\Paired (λt (ij:Nat × Nat)=>H t=some (.tup [.int ij.1,.int ij.2])) ts ps/\(∀ ij∈ps,ij.1<rows.length/\ij.2<w)/\ps.length<=1000 /\
 newL (ps.map λij=>LS rows ij.1 ij.2) H Q
example:(RA):=∃ (many:Nat) (nl:Addr) (ks:ad),vs=[.int many,.ref nl]/\H nl=some (.lst<|AX ks)/\(∀ k∈ks,k<many)/\many<=1000/\ks.length<=10000/\newL (AX<|(ο many).map λk=>ks.count k) H Q
example:(U0):=∃ (rl:Addr) (cs:List JK),vs=[.ref rl]/\LstAt RcV H rl cs/\cs.length<=100/\(∀ c,some c∈cs->c.2.length<=20)/\newL (AX<|EZ cs) H Q
example:(Y6):=∃ (x ar al:Addr) (vw:Vw),vs=[.ref x]/\TV K a/\p6 a H x "record_values" (.ref ar)/\p6 a H x "leads" (.ref al)/\LstAt RcV H ar vw.rc/\H al=some (.lst<|AX<|(ο vw.rc.length).map (led vw))/\vw.rc.length<=100/\∀ l H',H l=none->Same H H'->LstAt RcV H' l (LR vw)->Q (.ref l) H'
example:(U1):=∃ (x:Addr) (A:VA) (vw:Vw),vs=[.ref x]/\TV K a/\ViewAt a H x A vw/\newL (AX<|(ο vw.rc.length).filter λr=>(AS vw.rc r).isSome) H Q
example:(RB):=∃ (x:Addr) (A:VA) (vw:Vw),vs=[.ref x]/\TV K a/\ViewAt a H x A vw/\newL (AX<|(ο vw.pc.length).filter λp=>decide<|0<EJ vw p) H Q
example:(U2):=∃ (x:Addr) (A:VA) (vw:Vw) (r:Nat) (c:Int × ad),vs=[.ref x,.int r]/\TV K a/\ViewAt a H x A vw/\AS vw.rc r=some c/\Q (.int c.1) H
def LU(f:Vw->t5)(K:μ)(a:Ad):Sp:=λvs H Q _=>∃ (x:Addr) (A:VA) (vw:Vw),vs=[.ref x]/\TV K a/\ViewAt a H x A vw/\newF (f vw) H Q
def Y7(K:μ)(a:Ad):Sp:=LU N5 K a
def Y8(K:μ)(a:Ad):Sp:=LU N6 K a
def Y9(K:μ)(a:Ad):Sp:=LU Q9 K a
def U3(K:μ)(a:Ad):Sp:=LU faults K a
def ZA(K:μ)(a:Ad):Sp:=LU N7 K a
def ZB(K:μ)(a:Ad):Sp:=LU N8 K a
def ZC(K:μ)(a:Ad):Sp:=LU N9 K a
def ZD(K:μ)(a:Ad):Sp:=LU IJ K a
example:(RC):=∃ (x dx ly gp cl:Addr) (n r c w:Nat) (rows:t5) (m:Nat) (vw:Vw),vs=[.ref x,.ref ly,.ref gp]/\TV K a/\DZ K a/\DH K a/\H x=some (.ins (a "View") dx [])/\LayAt a H ly n r c w/\PlankAt a H gp cl w rows m/\rows.length=n+r+c+r+c/\PlV H rows n r c w vw ∧
 ∀ (A:VA) (H':Hp),ViewAt a H' x A vw->SameBut (· =x) H H'->Q .non H'
def Ground(K:μ)(a:Ad)(H:Hp)(ly gp:Addr)(vw:Vw):Prop:=∃ (cl:Addr) (n r c w:Nat) (rows:t5) (m:Nat),TV K a/\DZ K a/\DH K a/\LayAt a H ly n r c w/\PlankAt a H gp cl w rows m/\rows.length=n+r+c+r+c/\PlV H rows n r c w vw
example:(U4):=∃ (ly gp:Addr) (vw:Vw),vs=[.ref ly,.ref gp]/\Ground K a H ly gp vw/\newF (faults vw++IJ vw) H Q
example:(ZE):=∃ (ly gp:Addr) (vw:Vw),vs=[.ref ly,.ref gp]/\Ground K a H ly gp vw/\∀ H',Same H H'->Q (.bl<|decide<|faults vw=[]) H'
def FM(vw:Vw)(r:Nat):JK:=match AS vw.rc r with
 |none=>none
 |some c=>if led vw r=0 then none else some ((led vw r:Int),c.2)
def KJ(vw:Vw)(r:Nat):Option Int:=match AS vw.rc r with
 |none=>if AS vw.rm r=some 1 then some 0 else AS vw.rm r
 |some _=>if led vw r=0 then some 0 else AS vw.rm r
def MY(vw:Vw)(p:Nat):Option Int:=if AS vw.pm p=some 1/\G0 vw p=0 then some 0 else AS vw.pm p
def mended(vw:Vw):Vw:={vw.nm,(ο vw.rc.length).map (FM vw),vw.pc,(ο vw.rc.length).map (KJ vw),(ο vw.pc.length).map (MY vw)}
inductive Cel where
 |nm (c:N4)
 |rc (c:JK)
 |pc (c:Option Str)
 |mk (c:Option Int)
deriving DecidableEq
def CelV(H:Hp)(v:V):Cel->Prop
 |.nm c=>NmV H v c
 |.rc c=>RcV H v c
 |.pc c=>PcV H v c
 |.mk c=>MkV H v c
def Cel.kind:Cel->Nat
 |.nm _=>0
 |.rc _=>1
 |.pc _=>2
 |.mk _=>3
def Cel.ok:Cel->Prop
 |.nm (some c)=>cy c.1=true
 |.pc (some s)=>cy s=true
 |_=>True
abbrev _root_.Fr:=List Cel
def DM(vw:Vw):Fr:=vw.nm.map .nm++vw.rc.map .rc++vw.pc.map .pc++vw.rm.map .mk++vw.pm.map .mk
def DI(w:Nat)(cs:Fr)(b:Nat):Fr:=(cs.drop<|b*w).take w
def OA(w n:Nat)(cs cs':Fr):Nat:=((ο n).filter λb=> !decide (DI w cs b=DI w cs' b)).length
inductive Lv where
 |many (r:Nat)
 |leftR (r:Nat)
 |leftP (p:Nat)
 |marked (r:Nat)
def E9(vw:Vw):List Lv:=((ο vw.rc.length).filter (GL vw)).map .many++((ο vw.rc.length).filter λr=>(AS vw.rc r).isSome&&decide (led vw r=0)).map .leftR++((ο vw.pc.length).filter λp=>decide (AS vw.pm p=some 1)&&decide (G0 vw p=0)).map .leftP++((ο vw.rc.length).filter λr=>decide (AS vw.rm r=some 1)&&(AS vw.rc r).isNone).map .marked
def p7(vw:Vw):Lv->Tr
 |.many r=>[.str "many",.int r,.int<|led vw r]
 |.leftR r=>[.str "left",.str "record",.int r]
 |.leftP p=>[.str "left",.str "piece",.int p]
 |.marked r=>[.str "marked",.int r]
def E3(vw:Vw)(n r c w:Nat):Lv->List (Nat × Cel)
 |.many k=>[(n*w+k,.rc<|FM vw k)]
 |.leftR k=>[(n*w+k,.rc none),((n+r+c)*w+k,.mk<|some 0)]
 |.leftP k=>[((n+r+c+r)*w+k,.mk<|some 0)]
 |.marked k=>[((n+r+c)*w+k,.mk<|some 0)]
def pk(w f:Nat):List AM:=[.inl ((f/w:Nat):Int),.inl ((f%w:Nat):Int)]
structure Site(K:μ)(a:Ad)(H:Hp)(ly gp cl:Addr)(n r c w:Nat)(rows:t5)(m:Nat)(vw:Vw):Prop where
 tv:TV K a
 tl:DZ K a
 tp:DH K a
 la:LayAt a H ly n r c w
 pl:PlankAt a H gp cl w rows m
 rl:rows.length=n+r+c+r+c
 pv:PlV H rows n r c w vw
 w1:1<=w
 w6:w<=6
 n6:n<=6
 r6:r<=6
 c6:c<=6
example:(ZF):=∃ (ly gp cl fd:Addr) (n r c w:Nat) (rows:t5) (m:Nat) (vw:Vw) (lv:Lv),vs=[.ref ly,.ref gp,.ref fd]/\Site K a H ly gp cl n r c w rows m vw/\lv∈E9 vw/\H fd=some (.tup<|p7 vw lv) /\
 ∀ (dl:Addr) (more:RJ) (H':Hp),H dl=none->Same H H'->H' dl=some (.dT more)->Paired (λ(kv:List AM × V) (fx:Nat × Cel)=>kv.1=pk w fx.1/\CelV H' kv.2 fx.2) more (E3 vw n r c w lv)->TJ more->Q (.ref dl) H'
example:(ZG):=∃ (gp cl dl:Addr) (w:Nat) (rows:t5) (m:Nat) (kvs:RJ) (cs cs':Fr),vs=[.ref gp,.ref dl]/\DH K a/\PlankAt a H gp cl w rows m/\rows.length<=30/\1<=w/\w<=6/\H dl=some (.dT kvs)/\Paired (CelV H) rows.flatten cs/\cs'.map Cel.kind=cs.map Cel.kind/\(∀ c∈cs,c.ok)/\(∀ c∈cs',c.ok) /\
 (∀ (f:Nat) (c c':Cel),cs[f]? =some c->cs'[f]? =some c'->(BF kvs (pk w f)=none/\c'=c)\/∃ v,BF kvs (pk w f)=some v/\CelV H v c') /\
 ∀ (rows':t5) (H':Hp),PlankAt a H' gp cl w rows' (m+OA w rows.length cs cs')->rows'.length=rows.length->Paired (CelV H') rows'.flatten cs'->SameBut (λx=>x=gp\/x=cl) H H'->Q .non H'
example:(p8):=∃ (ly gp cl:Addr) (n r c w:Nat) (rows:t5) (m:Nat) (vw:Vw),vs=[.ref ly,.ref gp]/\Site K a H ly gp cl n r c w rows m vw/\faults vw=[] /\
 ∀ (fo:Addr) (rows':t5) (H':Hp),H fo=none->FindsL H' fo (IJ vw)->PlankAt a H' gp cl w rows' (m+OA w rows.length (DM vw) (DM<|mended vw))->rows'.length=n+r+c+r+c->PlV H' rows' n r c w (mended vw)->SameBut (λx=>x=gp\/x=cl) H H'->Q (.ref fo) H'
def SX.wr(X:SX)(cs:Rr)(b:Nat)(row:Tr):SX:={ X with rows:=X.rows.set b<|EY cs (HD cs X.outs b) b row,nn:=X.nn+1,outs:=HD cs X.outs b }
example:(U5):=∃ (X:SX) (cs:Rr) (tks:tZ) (M:Hs) (b:Nat) (row:Tr),vs=[.ref X.S.st,.int b]/\CL K a/\X.at a H cs tks M/\X.rows[b]? =some row/\∀ t H',(X.wr cs b row).at a H' cs tks M->SameBut (λx=>X.S.A.F x\/x=X.S.A.gp) H H'->Q (.ref t) H'
def LV(tks:tZ):Str->Option Nat:=λz=>(E8 tks z).head?
def RowsAre(H:Hp)(n r c w:Nat)(rows:t5)(S:Md):Prop:=∀ kind k v,kind<5->k<BN n r c w kind->(rows[BI n r c w kind k]?).bind (λq=>q[k%w]?)=some v->RepC H (S kind k) v
structure InL(n r c w:Nat)(S:Md):Prop where
 no:∀ kind k,¬ k<BN n r c w kind->S kind k=.no
 ok:∀ kind k,DL kind<|S kind k
abbrev SX.C(X:SX):Nat->Bool:=λj=>X.outs (j:Nat)
structure C6(a:Ad)(H:Hp)(X:SX)(cs:Rr)(tks:tZ)(M:Hs):Prop where
 st:X.at a H cs tks M
 hi:∃ o,Hist X.m0 M.b M.as (LV tks) o
 bo:InL X.n X.r X.c X.w M.b
 cut:UB cs X.outs
 rows:RowsAre H X.n X.r X.c X.w X.rows (sh M.b X.C M.as)
 few:X.c*X.w<=18
 ok:∀ x∈M.as,DL x.kind x.x
 w1:1<=X.w
def LW:CV->N4
 |.nm z r=>some (z,r)
 |_=>none
def KK:CV->JK
 |.rc m ps=>some ((m:Int),ps)
 |_=>none
def RD:CV->Option Str
 |.tx z=>some z
 |_=>none
def FA:CV->Option Int
 |.mk i=>some (i:Int)
 |_=>none
def BK(n r c w:Nat)(S:Md):Vw:={(ο<|n*w).map λk=>LW<|S 0 k,(ο<|r*w).map λk=>KK<|S 3 k,(ο<|c*w).map λk=>RD<|S 4 k,(ο<|r*w).map λk=>FA<|S 1 k,(ο<|c*w).map λk=>FA<|S 2 k}
def BZ(n r c w:Nat)(S:Md):Md:=λkind k =>
 if kind=1 then(match S 3 k with
  |.rc _ _=>if ld (n*w) S k=0 then .mk 0 else S 1 k
  |_=>match S 1 k with
   |.mk i=>if i=1 then .mk 0 else .mk i
   |x=>x)
 else if kind=2 then(match S 2 k with
  |.mk i=>if i=1/\G0 (BK n r c w S) k=0 then .mk 0 else .mk i
  |x=>x)
 else if kind=3 then(match S 3 k with
  |.rc _ ps=>if ld (n*w) S k=0 then .no else .rc (ld (n*w) S k) ps
  |x=>x)
 else S kind k
structure Gnd(K:μ)(a:Ad)(H:Hp)(ly gp cl:Addr)(n r c w:Nat)(rows:t5)(nn:Nat)(S:Md):Prop where
 tv:TV K a
 t4:CL K a
 la:LayAt a H ly n r c w
 pl:PlankAt a H gp cl w rows nn
 sz:n<=6/\r<=6/\c<=6/\w<=6/\rows.length=n+r+c+r+c
 few:c*w<=18
 w1:1<=w
 gd:Q1 H rows
 rw:RowsAre H n r c w rows S
 bo:InL n r c w S
 sd:Snd (n*w) S
def ZH(K:μ)(a:Ad):Sp:=p8 K a
example:(RF):=∃ (ly gp cl:Addr) (n r c w:Nat) (rows:t5) (nn:Nat) (S:Md),vs=[.ref ly,.ref gp]/\Gnd K a H ly gp cl n r c w rows nn S /\
 ∀ (X:SX) (H':Hp),X.S.lp=ly->X.S.A.gp=gp->X.S.A.cl=cl->X.n=n->X.r=r->X.c=c->X.w=w->(∀ y o,H y=some o->y=cl\/¬ X.S.A.F y)->H X.S.tk=none->C6 a H' X [] [] {BZ n r c w S,[]}->SameBut (λx=>x=gp\/x=cl) H H'->Q (.ref X.S.st) H'
def U6(ns:Zu)(k:Nat):Int:=ns.getD k 0
example:(U7):=∃ (s:Addr) (ns:Zu) (k:Nat),vs=[.ref s,.int k]/\SqL K H s (ns.map V.int)/\ns.length<=1000/\Q (.int<|U6 ns k) H
example:(OB):=∃ (c:Int) (m:Nat),vs=[.int c,.int m]/\m<=100/\∀ l (xs:Zu) H',H l=none->Same H H'->H' l=some (.lst<|xs.map V.int)->xs.length=m->(∀ x∈xs,0<=x/\x<2000000000)->Q (.ref l) H'
example:(ZI):=∃ x:Int,vs=[.int x]/\∀ (z:Str) H',HG z=true->Same H H'->Q (.str z) H'
example:(ZJ):=∃ x:Int,vs=[.int x]/\∀ (t:Addr) (n r c w:Nat) H',Same H H'->H' t=some (.tup [.int n,.int r,.int c,.int w])->1<=n->n<=3->1<=r->r<=3->1<=c->c<=3->1<=w->w<=6->Q (.ref t) H'
example:(ZK):=∃ (c:Int) (m:Nat),vs=[.int c,.int m]/\m<=36/\∀ l (zs:Xu) H',H l=none->Same H H'->H' l=some (.lst<|zs.map V.str)->zs.length=m->(∀ z∈zs,BY z=true)->Q (.ref l) H'
structure TD(K:μ)(a:Ad):Prop where
 n1:fk K (.ref<|a "NoName") (.ref<|a "NoName")=some true
 t1:fk K (.ref<|a "Twice") (.ref<|a "NoName")=some false
 t2:fk K (.ref<|a "Twice") (.ref<|a "Twice")=some true
 p1:fk K (.ref<|a "NoPiece") (.ref<|a "NoName")=some false
 p2:fk K (.ref<|a "NoPiece") (.ref<|a "Twice")=some false
 p3:fk K (.ref<|a "NoPiece") (.ref<|a "NoPiece")=some true
 r1:fk K (.ref<|a "NoRoom") (.ref<|a "NoName")=some false
 r2:fk K (.ref<|a "NoRoom") (.ref<|a "Twice")=some false
 r3:fk K (.ref<|a "NoRoom") (.ref<|a "NoPiece")=some false
 r4:fk K (.ref<|a "NoRoom") (.ref<|a "NoRoom")=some true
abbrev LD:=List<|Str × Int
abbrev RE:=Int × Addr × Xu
def lK(L:LD):tZ:=L.map λp=>(.inr p.1,.int p.2)
abbrev _root_.Sr:=List RE
def rK(R:Sr):tZ:=R.map λe=>(.inl e.1,.ref e.2.1)
def has(L:LD)(z:Str):Bool:=(BF (lK L) (.inr z)).isSome
structure Bk(L:LD)(R:Sr)(fr:Int):Prop where
 ln:(L.map (·.1)).Nodup
 rn:(R.map (·.1)).Nodup
 lr:∀ p∈L,∃ e∈R,e.1=p.2
 lt:∀ e∈R,e.1<fr
 nk:∀ p∈L,cy p.1=true
structure SAt(H:Hp)(st d rr:Addr)(L:LD)(R:Sr)(fr:Int):Prop where
 s:H st=some (.lst [.ref d,.ref rr,.int fr])
 dl:H d=some (.dK<|lK L)
 dr:H rr=some (.dK<|rK R)
 e:∀ e∈R,H e.2.1=some (.lst<|e.2.2.map V.str)/\∀ t∈e.2.2,cy t=true
 ne:d≠rr/\∀ e∈R,e.2.1≠st
 ap:(R.map (·.2.1)).Nodup
 bk:Bk L R fr
def EL(st d rr:Addr)(R:Sr):Addr->Prop:=λx=>x=st\/x=d\/x=rr\/∃ e∈R,x=e.2.1
def few(L:LD)(R:Sr):Prop:=L.length<=20/\R.length<=20/\∀ e∈R,e.2.2.length<=20
def EV(R:Sr):Nat:=(R.map (·.2.2.length)).sum
def GO(m0 m1 m2:Nat)(L:LD)(R:Sr)(kind:Nat)(y z:Str)(x:Int)(nt:Nat):String :=
 if(kind<3\/kind=6)/\has L (if kind<2 then y else z)=true then "twice"
 else if 1<kind/\has L y=false then "name"
 else if kind=5/\¬ (0<=x/\x<nt)then "piece"
 else if(kind<3\/kind=6)/\(kind<2/\R.length=m1\/L.length=m0)then "room"
 else if(kind=3\/kind=4)/\EV R=m2 then "room" else ""
def C8(L:LD)(y:Str):LD:=L.filter λp=>decide<|p.1≠y
def HH(L:LD)(fr g:Int)(kind:Nat)(y z:Str):LD :=
 if kind<2 then L++[(y,fr)]else if kind=2 then L++[(z,g)]else if kind<6 then L else C8 (if kind=6 then L++[(z,g)]else L) y
def E4(R:Sr)(g:Int)(us:Xu):Sr:=R.map λe=>if e.1=g then(e.1,e.2.1,us)else e
def EM(L':LD)(R:Sr)(g:Int):Sr:=if g∈L'.map (·.2)then R else R.filter λe=>decide<|e.1≠g
def G2(L:LD)(R:Sr)(fr g:Int)(kind:Nat)(y z t:Str)(x:Int)(l:Addr)(ts:Xu):Sr :=
 if kind<2 then R++[(fr,l,[])]else if kind=2 then R else if kind<5 then E4 R g (ts++[t])else if kind=5 then E4 R g (ts.eraseIdx x.toNat)else EM (HH L fr g kind y z) R g
def p9(fr:Int)(kind:Nat):Int:=if kind<2 then fr+1 else fr
structure U8(L:LD)(R:Sr)(kind:Nat)(y z:Str)(x g:Int)(ts:Xu):Prop where
 nw:(kind<3\/kind=6)->∀ i,((if kind<2 then y else z),i)∉L
 th:1<kind->(y,g)∈L
 tx:1<kind->∃ l,(g,l,ts)∈R
 at5:kind=5->0<=x/\x<ts.length
def cn(kind m:Nat)(S:Md):Nat:=(ο m).countP λk=> !CQ kind (S kind k)
def ct(L:LD)(i:Int):Nat:=(L.map (·.2)).count i
structure Mt(m0 m1 m2:Nat)(S:Md)(L:LD)(R:Sr)(pl:Int->Nat):Prop where
 ld:∀ z q,(∃ k,k<m0/\S 0 k=.nm z q)↔∃ i,(z,i)∈L/\pl i=q
 rc:∀ e∈R,∃ ps,S 3 (pl e.1)=.rc (ct L e.1) ps/\Paired (λp t=>S 4 p=.tx t) ps e.2.2
 ij:∀ e∈R,∀ e'∈R,pl e.1=pl e'.1->e.1=e'.1
 c0:cn 0 m0 S=L.length
 c1:cn 1 m1 S=R.length
 c2:cn 2 m2 S=EV R
abbrev MX(X:SX)(M:Hs)(L:LD)(R:Sr)(pl:Int->Nat):Prop:=Mt X.m0 (X.r*X.w) (X.c*X.w) M.f L R pl
abbrev IK(X:SX)(L:LD)(R:Sr)(kind:Nat)(y z:Str)(x:Int)(nt:Nat):String:=GO X.m0 (X.r*X.w) (X.c*X.w) L R kind y z x nt
def U9(L:LD)(R:Sr)(y:Str)(nt:Nat):Prop:=∀ p∈L,p.1=y->∃ e∈R,e.1=p.2/\e.2.2.length=nt
example:(ZL):=∃ (st d rr t:Addr) (L:LD) (R:Sr) (fr:Int) (n r c w kind:Nat) (y z:Str) (x:Int) (nt:Nat),vs=[.ref st,.ref t,.int kind,.str y,.str z,.int x]/\SAt H st d rr L R fr/\few L R/\H t=some (.tup [.int n,.int r,.int c,.int w])/\(n<=3/\r<=3/\c<=3/\w<=6)/\kind<8/\U9 L R y nt/\∀ H',Same H H'->Q (.str<|bw<|GO (n*w) (r*w) (c*w) L R kind y z x nt) H'
example:(VB):=∃ (d rr:Addr) (L:LD) (R:Sr) (y:Str) (g:Int),vs=[.ref d,.ref rr,.str y]/\H d=some (.dK<|lK L)/\H rr=some (.dK<|rK R)/\d≠rr/\(L.map (·.1)).Nodup/\(R.map (·.1)).Nodup/\L.length<=100/\(y,g)∈L/\(∃ e∈R,e.1=g) /\
 ∀ H',H' d=some (.dK<|lK<|C8 L y)->H' rr=some (.dK<|rK<|EM (C8 L y) R g)->SameBut (λx=>x=d\/x=rr) H H'->Q .non H'
example:(ZM):=∃ (st d rr:Addr) (L:LD) (R:Sr) (fr:Int) (kind:Nat) (y z t:Str) (x g:Int) (ts:Xu),vs=[.ref st,.int kind,.str y,.str z,.str t,.int x]/\SAt H st d rr L R fr/\few L R/\kind<8/\(cy y=true/\cy z=true/\cy t=true)/\U8 L R kind y z x g ts /\
 ∀ l H',(kind<2->H l=none)->SAt H' st d rr (HH L fr g kind y z) (G2 L R fr g kind y z t x l ts) (p9 fr kind)->SameBut (EL st d rr R) H H'->Q .non H'
example:(ZN):=∃ (X:SX) (cs:Rr) (tks:tZ) (M:Hs) (L:LD) (R:Sr) (fr:Int) (pl:Int->Nat) (kind:Nat) (y z t:Str) (x:Int) (nt:Nat),vs=[.ref X.S.st,.int kind,.str y,.str z,.str t,.int x]/\CL K a/\TD K a/\C6 a H X cs tks M/\cs.length<900/\kind<8/\BY y=true/\BY z=true/\HG t=true/\Bk L R fr/\MX X M L R pl/\U9 L R y nt /\
 ∀ (cs':Rr) (tks':tZ) (M':Hs) (H':Hp),C6 a H' X cs' tks' M'->cs'.length+cn 2 (X.c*X.w) M'<=cs.length+cn 2 (X.c*X.w) M+4->(IK X L R kind y z x nt≠""->MX X M' L R pl)->(IK X L R kind y z x nt=""->∀ g ts l,U8 L R kind y z x g ts->∃ pl',MX X M' (HH L fr g kind y z) (G2 L R fr g kind y z t x l ts) pl')->SameBut (λx=>X.S.A.F x\/x=X.S.tk) H H'->Q (.str<|bw<|IK X L R kind y z x nt) H'
def VC(H:Hp)(nl:Addr)(zs:Xu):Prop:=H nl=some (.lst<|zs.map V.str)/\zs.length=5/\∀ z∈zs,BY z=true
def OC(X:SX)(st d rr:Addr)(R:Sr):Prop:=∀ x,EL st d rr R x->¬ X.S.A.F x/\x≠X.S.tk
example:(VD):=∃ (X:SX) (cs:Rr) (tks:tZ) (M:Hs) (st d rr t nl:Addr) (L:LD) (R:Sr) (fr:Int) (pl:Int->Nat) (zs:Xu) (x:Int),vs=[.ref X.S.st,.ref st,.ref t,.int x,.ref nl]/\CL K a/\TD K a/\C6 a H X cs tks M/\cs.length<900/\SAt H st d rr L R fr/\MX X M L R pl/\OC X st d rr R/\VC H nl zs/\¬ X.S.A.F nl/\H t=some (.tup [.int X.n,.int X.r,.int X.c,.int X.w])/\(X.n<=3/\X.r<=3/\X.c<=3/\X.w<=6) /\
 ∀ (cs':Rr) (tks':tZ) (M':Hs) (L':LD) (R':Sr) (fr':Int) (pl':Int->Nat) (H':Hp),C6 a H' X cs' tks' M'->cs'.length+cn 2 (X.c*X.w) M'<=cs.length+cn 2 (X.c*X.w) M+4->SAt H' st d rr L' R' fr'->MX X M' L' R' pl'->OC X st d rr R'->(∀ x,EL st d rr R' x->H x=none\/EL st d rr R x)->SameBut (λx=>X.S.A.F x\/x=X.S.tk\/EL st d rr R x) H H'->Q (.bl true) H'
example:(RG):=∃ (X:SX) (cs:Rr) (tks:tZ) (M:Hs) (ly gp st d rr:Addr) (L:LD) (R:Sr) (fr:Int) (pl:Int->Nat) (vw:Vw),vs=[.ref X.S.st,.ref ly,.ref gp,.ref st]/\CL K a/\C6 a H X cs tks M/\(X.n<=3/\X.r<=3/\X.c<=3/\X.w<=6)/\SAt H st d rr L R fr/\MX X M L R pl/\OC X st d rr R/\Ground K a H ly gp vw/\faults vw++IJ vw=[]/\∀ H',Same H H'->Q (.bl true) H'
def IL(vw:Vw):LD:=vw.nm.filterMap λc=>c.map λp=>(p.1,(p.2:Int))
structure ZO(vw:Vw)(L:LD)(R:Sr):Prop where
 rn:(R.map (·.1)).Nodup
 el:∀ e∈R,∃ z q m ps,e.1=(q:Nat)/\(z,e.1)∈L/\AS vw.rc q=some (m,ps)/\Paired (λp t=>AS vw.pc p=some t) ps e.2.2
 lr:∀ p∈L,∃ e∈R,e.1=p.2
example:(RH):=∃ (gp cl t:Addr) (n r c w:Nat) (rows:t5) (m:Nat) (vw:Vw),vs=[.ref gp,.ref t]/\DH K a/\PlankAt a H gp cl w rows m/\rows.length=n+r+c+r+c/\PlV H rows n r c w vw/\H t=some (.tup [.int n,.int r,.int c,.int w])/\(n<=3/\r<=3/\c<=3/\w<=6)/\faults vw=[] /\
 ∀ st d rr R H',H st=none->H d=none->H rr=none->(∀ e∈R,H e.2.1=none)->Same H H'->SAt H' st d rr (IL vw) R 1000->ZO vw (IL vw) R->Q (.ref st) H'
example:(qB):=∃ (s:Addr) (ns:Zu),vs=[.ref s]/\TV K a/\CL K a/\TD K a/\SqL K H s (ns.map V.int)/\ns.length<=63/\∀ H',Q (.bl true) H'
abbrev FK:=μ
abbrev XE:=St->XK
abbrev RT:=FK->Ad->XE->XE->TS
def A3{f g:RT}(h:∀ K a E E1,f K a E E1=g K a E E1){K a E E1 D σ H}:f K a E E1 D σ H=g K a E E1 D σ H:=by rw[h]
abbrev DD:TE:=tC<|.int 0
abbrev CT:TE:=tC<|.int 1
abbrev G3:TE:=tC<|.int 2
abbrev KL:TE:=tC<|.int 3
abbrev VE:TE:=tC<|.int 4
abbrev KM:TE:=tC<|.int 5
abbrev KN:TE:=tC<|.int 6
abbrev qE:TE:=tC<|.int 7
abbrev JN:TE:=tC<|.int 8
abbrev FB(n:Int):TE:=tC<|.int n
abbrev AI(x0:TE):TA:=C7 x0 BL
abbrev A9(x0 x1:TE):TA:=C7 x0<|C7 x1 BL
abbrev C0(x0 x1 x2:TE):TA:=C7 x0<|C7 x1<|C7 x2 BL
abbrev HI(x0 x1 x2 x3:TE):TA:=C7 x0<|C7 x1<|C7 x2<|C7 x3 BL
abbrev A1(K:μ)(x:TE)(n:Int):TE:=AD (BR K) x (tC<|.int n)
abbrev AB:TE:=EA 0
abbrev AK:TE:=EA 1
abbrev MZ:TE:=EA 10
abbrev ZP:TE:=EA 11
abbrev AR:TE:=EA 2
abbrev A7:TE:=EA 3
abbrev BM:TE:=EA 4
abbrev B2:TE:=EA 5
abbrev DB:TE:=EA 6
abbrev DR:TE:=EA 7
abbrev JO:TE:=EA 8
abbrev HJ:TE:=EA 9
section
variable{K:FK}{a:Ad}{n:Nat}{E E1:XE}{D:Ends}{σ:St}{H:Hp}
local macro_rules
 |`(command|example : $x:term := [$p,*])=>do
  let i:=Lean.mkIdent
  let f:=fun (y:Lean.Term)=>`($y $(i `K) $(i `a) $(i `E) $(i `E))
  let q:=p.getElems
  let t<-q.pop.foldrM (fun y z=>do `(AH $(<-f y) $z)) (<-f q.back!)
  `(command|def $(i x.raw.getId):ident ($(i `K):ident:FK) ($(i `a):ident:Ad) ($(i `E):ident:XE):TS:=$t)
 |`(command|example : $x:term := $t:term)=>do
  let i:=Lean.mkIdent
  let n:=x.raw.getId
  return Lean.mkNullNode #[←`(command|def $(i n):ident : RT := fun $(i `K):ident $(i `a):ident $(i `E):ident $(i `E1):ident => $t),←`(command|theorem $(i<|n.appendAfter "_"):ident : type_of%(@A3 _ _ $(i<|n++`eq_1)) := rfl)]
example:zgy:=(AW<|BX (FJ K<|AI<|AT K AB "record_values") (FE K 2<|DF (AF 0) (DF (AF 1) FD)) (A6<|AD IB (AD (BR K) (AT K AR "leads") AB) DD) AK 2 [0])
example:qG:=[zgy]
example:zgz:=(AW<|BX (FJ K<|AI<|AT K AB "record_values") (FE K 2<|DF (AF 0) (DF (AF 1) FD)) (A6<|AD GW AK<|tC .non) AB 2 [])
example:qH:=[zgz]
example:zg0:=(AW<|BX (FJ K<|AI<|AT K AB "namings") (FE K 2<|DF (AF 0) (DF (AF 1) FD)) (A6<|AD IB AK DD) AB 2 [])
example:qI:=[zg0]
example:zg1:=(AW<|A1 K (AD (BR K) (AT K AB "record_values") AK) 0)
example:qJ:=[zg1]
example:zg2:=(AQ (BW BL) (AF 1))
example:zg3:=(AQ (BW BL) (AF 2))
example:zg4:=(AQ HZ<|AF 3)
example:qK:=(CC<|D8 K "list" EX AK<|AI<|CN<|A9 (tC<|.str "lost") BM)
example:qM:=(BG (A6<|AD GH (AD (BR K) (AT K AB "record_values") (A1 K B2 1)) (tC .non)) (qK K a E E) BS)
example:qN:=(CC<|D8 K "list" EX AR<|AI<|CN<|A9 (tC<|.str "twice") BM)
example:ZQ:=(BG (A6<|JD (A1 K B2 0) A7) (qN K a E E) BS)
example:VF:=(FI A7 (A1 K B2 0) (tC<|.bl true))
example:qO:=(BG (A6<|AD GW B2<|tC .non) (AH (qM K a E E) (AH (ZQ K a E E) (VF K a E E))) BS)
example:zhb:=(DG (FJ K<|AI<|AT K AB "name_values") (LH K 2<|E7 (AF 4) (E7 (AF 5) JE)) (qO K a E E))
example:ZR:=(AW<|AD (BH K) AK AR)
example:qP:=[zg2,zg3,zg4,zhb,ZR]
example:qQ:=(AQ (BX (FJ K<|AI<|AT K AB "piece_marks") (FE K 2<|DF (AF 0) (DF (AF 1) FD)) (A6<|AD (B7 K) AK CT) AB 2 []) (AF 1))
example:zhd:=(AW<|BX (CY K AK) (AF 0) (A6<|AD (B7 K) (AD (BR K) (AT K AK "reached") AB) DD) (CN<|C0 (tC<|.str "left") (tC<|.str "piece") AB) 1 [0])
example:ZS:=[qQ,zhd]
example:qS:=(AQ (BX (FJ K<|AI<|AT K AB "record_marks") (FE K 2<|DF (AF 0) (DF (AF 1) FD)) (A6<|AD (B7 K) AK CT) AB 2 []) (AF 1))
example:zhf:=(AW<|BX (CY K AK) (AF 0) (A6<|AD GH (AD (BR K) (AT K AK "record_values") AB) (tC .non)) (CN<|A9 (tC<|.str "marked") AB) 1 [0])
example:ZT:=[qS,zhf]
example:qT:=(AQ (BX (DJ<|AI AB) (AF 0) CG DD 1 []) (AF 2))
example:qU:=(TF K AR A7 CT O7)
example:zhi:=(DG (CY K AK) (AF 3) (qU K a E E))
example:zhj:=(AW AR)
example:ZU:=[qT,zhi,zhj]
example:zhk:=(AQ (BW BL) (AF 1))
example:qV:=(CC<|D8 K "list" (YE K) AK (AI<|A1 K AR 1))
example:qW:=(BG (A6<|AD GW AR<|tC .non) (qV K a E E) BS)
example:zhn:=(DG (CY K AB) (AF 2) (qW K a E E))
example:zho:=(AW AK)
example:qX:=[zhk,zhn,zho]
example:zhp:=(C2 K AB AK "place")
example:zhq:=(C2 K AB AR "value")
example:zhr:=(C2 K AB A7 "needs")
example:qY:=[zhp,zhq,zhr]
example:qZ:=(GD (a "NoChange") E (AI<|tC<|.str "there is no change of such a number"))
example:rA:=(BG (GA<|A6<|FH EO D9 DD AR<|CO (E6 K) (AI<|AT K AB "made")) (qZ K a E E) BS)
example:zhu:=(DG (CY K AK) (AF 2) (rA K a E E))
example:rC:=[zhu]
example:rE:=(AW<|CO (LG K) (AI<|SY K AB))
example:rF:=(BG (A6<|AD GH AK<|tC .non) (rE K a E E) BS)
example:rH:=(AW<|CO (LG K) (AI<|SY K<|AD (BH K) (CO (LF K) (AI AB)) (BW<|AI AK)))
example:VG:=[rF,rH]
example:zhx:=(AW A7)
example:zhy:=(BG (HS (A6<|IG A7<|AT K AB "outs") (A6<|IG A7 AR)) (zhx K a E E) BS)
example:zhz:=(DG (CY K<|AT K (AD (BR K) (AT K AB "made") AK) "needs") (AF 3) (zhy K a E E))
example:zh0:=(AW<|tC .non)
example:rJ:=[zhz,zh0]
example:zh1:=(AQ (CO (LF K) (AI AK)) (AF 3))
example:rM:=(AQ (AT K (AD (BR K) (AT K AB "made") BM) "value") (NJ A7 (A1 K (AT K (AD (BR K) (AT K AB "made") BM) "place") 1) NP))
example:rN:=(BG (A6<|JD BM<|AT K AB "outs") (rM K a E E) BS)
example:zh4:=(DG (CY K<|AD (BR K) (AT K AB "made_in") AR) (AF 4) (rN K a E E))
example:zh5:=(AW A7)
example:rO:=[zh1,zh4,zh5]
example:rP:=(AW<|KC (FH EO EO (tC<|.str " ") AB (tC<|.str "~")) (AD (DQ K) (CO (QF K) (AI AB)) (FB 37)))
example:ZV:=[rP]
example:rQ:=(AW<|KC (FH EO EO CT (CO (E6 K) (AI AB)) JN) (CO (NQ K) (AI<|BX (QE AB) (AF 0) CG (FH EO EO (tC<|.str "a") AB (tC<|.str "z")) 1 [])))
example:ZW:=[rQ]
example:rR:=(C2 K AB (BX (DJ<|AI AK) (AF 0) CG (AD (DP K) (CN<|AI<|tC .non) AK) 1 [2]) "contents")
example:zh9:=(C2 K AB AR "width")
example:zia:=(C2 K AB DD "written")
example:ZX:=[rR,zh9,zia]
example:zib:=(AW<|CO (E6 K) (AI<|AT K AB "contents"))
example:rS:=[zib]
example:zic:=(AW<|AT K AB "width")
example:rT:=[zic]
example:zid:=(GD (a "NoBlock") E (AI<|tC<|.str "there is no such block"))
example:rV:=(BG (GA<|A6<|FH EO D9 DD AK<|CO (E6 K) (AI<|AT K AB "contents")) (zid K a E E) BS)
example:ZY:=[rV]
example:zif:=(C2 K AB AK "name_blocks")
example:zig:=(C2 K AB AR "record_blocks")
example:zih:=(C2 K AB A7 "piece_blocks")
example:zii:=(C2 K AB BM "width")
example:rW:=[zif,zig,zih,zii]
example:zij:=(AW<|CN<|C0 (AD (DP K) (AT K AB "name_blocks") (AT K AB "width")) (AD (DP K) (AT K AB "record_blocks") (AT K AB "width")) (AD (DP K) (AT K AB "piece_blocks") (AT K AB "width")))
example:rX:=[zij]
example:zik:=(AW<|AD (BH K) (AD (BH K) (AT K AB "name_blocks") (AT K AB "record_blocks")) (AT K AB "piece_blocks"))
example:rY:=[zik]
example:zil:=(AW<|CN<|A9 (AD (BH K) AK (AD GG AR<|AT K AB "width")) (AD C3 AR<|AT K AB "width"))
example:rZ:=[zil]
example:zim:=(AW<|AD (BR K) AB AK)
example:r8:=(BG (A6<|AD D9 AK<|CO (E6 K) (AI AB)) (zim K a E E) BS)
example:zio:=(AW DD)
example:ZZ:=[r8,zio]
example:sA:=(AQ (AD (BH K) (AD C3 AB<|FB 920419823) KM) (AF 2))
example:sB:=(AQ (AD (BH K) (AD C3 (AD GG AB<|FB 920419823) (FB 899809363)) KL) (AF 3))
example:sC:=(AQ (BW BL) (AF 4))
example:sD:=(AQ (AD C3 (AD (BH K) (AD (DP K) AR (FB 70001)) A7) (FB 920419823)) (AF 2))
example:sE:=(AQ (AD C3 (AD (BH K) (AD (BH K) (AD (DP K) A7 (FB 60013)) (AD (DP K) AR AR)) B2) (FB 899809363)) (AF 3))
example:sF:=(CC<|D8 K "list" EX BM<|AI<|AD (BH K) AR A7)
example:ziw:=(DG (DJ<|AI AK) (AF 5) (AH (sD K a E E) (AH (sE K a E E) (sF K a E E))))
example:zix:=(AW BM)
example:Z0:=[sA,sB,sC,ziw,zix]
example:ziy:=(AQ AB<|TY K 3<|E7 (AF 6) (E7 (AF 7) (E7 (AF 8) JE)))
example:sG:=(AQ (WM (A6<|AD (MH K) AR (CN<|A9 G3 KN)) BM A7) (AF 9))
example:zi0:=(AW<|tC<|.str "twice")
example:sI:=(BG (HS (A6<|AD (MH K) AR (CN<|HI DD CT G3 KN)) (A6<|JD HJ DB)) (zi0 K a E E) BS)
example:zi1:=(AW<|tC<|.str "name")
example:sJ:=(BG (HS (A6<|AD IB AR CT) (A6<|IG A7 DB)) (zi1 K a E E) BS)
example:zi3:=(AW<|tC<|.str "piece")
example:sK:=(BG (HS (A6<|AD (B7 K) AR KM) (GA<|A6<|FH EO D9 DD B2<|CO (E6 K) (AI<|EB DR<|EB DB A7))) (zi3 K a E E) BS)
example:sL:=(AQ (KC (AD D9 AR G3) (AD (B7 K) (CO (TC K) (AI DR)) (AD (DP K) (A1 K AK 1) (A1 K AK 3)))) (AF 10))
example:sM:=(AW<|tC<|.str "room")
example:Z1:=(BG (HS (A6<|AD (MH K) AR (CN<|HI DD CT G3 KN)) (L7 (IF K MZ) (A6<|AD (B7 K) (CO (TC K) (AI DB)) (AD (DP K) (A1 K AK 0) (A1 K AK 3))))) (sM K a E E) BS)
example:sN:=(AW<|tC<|.str "room")
example:Z2:=(BG (HS (A6<|AD (MH K) AR (CN<|A9 KL VE)) (A6<|AD (B7 K) (CO (oQ K) (AI<|QM DR (AF 0) CG (CO (E6 K) (AI<|EB AK AB)) 1 [7])) (AD (DP K) (A1 K AK 2) (A1 K AK 3)))) (sN K a E E) BS)
example:Z3:=(AW<|tC<|.str "")
example:sO:=[ziy,sG,sI,sJ,sK,sL,Z1,Z2,Z3]
example:sP:=(AQ (P8 AB AR) (AF 3))
example:sQ:=(CC<|P8 AK A7)
example:sR:=(BG (A6<|AD (oN K) A7 (QM AB (AF 0) CG (EB AK AB) 1 [0])) (sQ K a E E) BS)
example:Z4:=[sP,sR]
example:sT:=(AQ (BX (CY K<|AN (a "View") "pieces_named" (RB K a) E AB BL) (AF 0) (A6<|AD IB (AD (BR K) (AT K AK "namings") AB) CT) (CN<|A9 (tC<|.str "shared") AB) 1 [0]) (AF 1))
example:sU:=(AQ (BX (CY K<|AN (a "View") "pieces_named" (RB K a) E AB BL) (AF 0) (A6<|AD GH (AD (BR K) (AT K AK "piece_values") AB) (tC .non)) (CN<|A9 (tC<|.str "empty") AB) 1 [0]) (AF 2))
example:sV:=(AQ (BX (CY K<|AN (a "View") "records_standing" (U1 K a) E AB BL) (AF 0) (A6<|AD D9 (AN (a "View") "count_of" (U2 K a) (λ_=>E0) AK (AI AB)) (AD (BR K) (AT K AK "leads") AB)) (CN<|A9 (tC<|.str "few") AB) 1 [0]) (AF 3))
example:zjh:=(AW<|AD (BH K) (AD (BH K) AK AR) A7)
example:Z5:=[sT,sU,sV,zjh]
example:sW:=(AQ (BX (FJ K<|AI<|AT K AB "leads") (FE K 2<|DF (AF 0) (DF (AF 1) FD)) (A6<|AD IB AK DD) AB 2 []) (AF 1))
example:sX:=(AQ (BX (CY K AK) (AF 0) (A6<|AD (DQ K) (AD (BR K) (AT K AK "record_marks") AB) CT) (CN<|C0 (tC<|.str "free") (tC<|.str "record") AB) 1 [0]) (AF 2))
example:sY:=(AQ (BX (CY K<|AN (a "View") "pieces_named" (RB K a) E AB BL) (AF 0) (A6<|AD (DQ K) (AD (BR K) (AT K AK "piece_marks") AB) CT) (CN<|C0 (tC<|.str "free") (tC<|.str "piece") AB) 1 [0]) (AF 3))
example:zjl:=(AW<|AD (BH K) AR A7)
example:Z6:=[sW,sX,sY,zjl]
example:zjm:=(AQ (BW BL) (AF 1))
example:zjn:=(AQ (BW BL) (AF 2))
example:zjo:=(AQ (AD (BR K) (AT K AB "leads") A7) (AF 4))
example:sZ:=(CC<|D8 K "list" EX AR<|AI<|CN<|C0 (tC<|.str "left") (tC<|.str "record") A7)
example:tD:=(CC<|D8 K "list" EX AK<|AI<|CN<|C0 (tC<|.str "many") A7 BM)
example:zjr:=(BG (A6<|AD IB (AN (a "View") "count_of" (U2 K a) E AB (AI A7)) BM) (tD K a E E) BS)
example:tE:=(BG (A6<|AD (B7 K) BM DD) (sZ K a E E) (zjr K a E E))
example:zjt:=(DG (CY K<|AN (a "View") "records_standing" (U1 K a) E AB BL) (AF 3) (AH (zjo K a E E) (tE K a E E)))
example:zju:=(AW<|AD (BH K) AK AR)
example:tF:=[zjm,zjn,zjt,zju]
example:tG:=(C2 K AB AK "ground")
example:tH:=(C2 K AB (BW BL) "made")
example:tI:=(C2 K AB (BX (DJ<|AI<|AN (a "Plank") "blocks" (MJ K a) E AK BL) (AF 0) CG (BW BL) 1 []) "made_in")
example:zjy:=(C2 K AB P7 "latest")
example:zjz:=(C2 K AB HZ "outs")
example:Z7:=[tG,tH,tI,zjy,zjz]
example:zj0:=(GD (a "NoBlock") E (AI<|tC<|.str "there is no such place on the plank"))
example:zj1:=(BG (L7 (GA<|A6<|FH EO D9 DD (A1 K AK 0) (AN (a "Plank") "blocks" (MJ K a) E (AT K AB "ground") BL)) (GA<|A6<|FH EO D9 DD (A1 K AK 1) (AN (a "Plank") "cells" (T3 K a) E (AT K AB "ground") BL))) (zj0 K a E E) BS)
example:tJ:=[zj1]
example:tK:=(AQ (CO (QJ K) (AI AR)) (AF 3))
example:tM:=(AQ (BW BL) (AF 4))
example:tO:=(AQ (BW BL) (AF 5))
example:tQ:=(AQ (AN (a "Hold") "lack_of" (UK K a) E AB (A9 DB A7)) (AF 7))
example:tS:=(FI A7 DB<|tC<|.bl true)
example:tU:=(CC<|D8 K "list" EX BM<|AI DB)
example:tW:=(CC<|D8 K "list" EX B2<|AI<|CN<|A9 DB DR)
example:tY:=(BG (A6<|AD GH DR<|tC .non) (AH (tS K a E E) (tU K a E E)) (tW K a E E))
example:t3:=(BG (HS (A6<|IG DB<|AT K AB "outs") (A6<|IG DB A7)) (AH (tQ K a E E) (tY K a E E)) BS)
example:t7:=(DG (CY K<|AD (BR K) (AT K AB "made_in") AK) (AF 6) (t3 K a E E))
example:t8:=(AW<|CN<|A9 BM B2)
example:Z8:=[tK,tM,tO,t7,t8]
example:uA:=(AW<|KC (FH EO EO CT (CO (E6 K) (AI AB)) (FB 40)) (CO (NQ K) (AI<|BX (QE AB) (AF 0) CG (BJ (Y3 K a) (λ_=>E0) (AI AB)) 1 [])))
example:Z9:=[uA]
example:uB:=(CC<|AN (a "Plank") "ask_for_block" (MK K a) E AB (AI AK))
example:zj6:=(AW<|CO (LF K) (AI<|AD (BR K) (AT K AB "contents") AK))
example:aA:=[uB,zj6]
example:uC:=(CC<|AN (a "Plank") "ask_for_block" (MK K a) E AB (AI AK))
example:zj8:=(GD (a "NoBlock") E (AI<|tC<|.str "the list is not as long as a block"))
example:uD:=(BG (A6<|AD (DQ K) (CO (E6 K) (AI AR)) (AT K AB "width")) (zj8 K a E E) BS)
example:uE:=(AQ (CO (LG K) (AI AR)) (NJ (AT K AB "contents") AK NP))
example:uF:=(SJ K AB CT O7 "written")
example:aB:=[uC,uD,uE,uF]
example:zkc:=(AW<|AN (a "Layout") "place_from" (LK K a) E AB (A9 DD AK))
example:uG:=[zkc]
example:zkd:=(AW<|AN (a "Layout") "place_from" (LK K a) E AB (A9 (AT K AB "name_blocks") AK))
example:uH:=[zkd]
example:zke:=(AW<|AN (a "Layout") "place_from" (LK K a) E AB (A9 (AD (BH K) (AT K AB "name_blocks") (AT K AB "record_blocks")) AK))
example:uI:=[zke]
example:zkf:=(AW<|AN (a "Layout") "place_from" (LK K a) E AB (A9 (AN (a "Layout") "blocks_ahead_of_marks" (NY K a) E AB BL) AK))
example:uJ:=[zkf]
example:zkg:=(AW<|AN (a "Layout") "place_from" (LK K a) E AB (A9 (AD (BH K) (AN (a "Layout") "blocks_ahead_of_marks" (NY K a) E AB BL) (AT K AB "record_blocks")) AK))
example:uK:=[zkg]
example:zkh:=(AW<|AD (BH K) (AD (BH K) (AN (a "Layout") "blocks_ahead_of_marks" (NY K a) E AB BL) (AT K AB "record_blocks")) (AT K AB "piece_blocks"))
example:uL:=[zkh]
example:zki:=(AQ (tC<|.str "abcdefghijklmnopqrstuvwxyz") (AF 2))
example:zkj:=(AQ (BJ (OB K a) E (A9 (AD GG AB G3) (FB 12))) (AF 3))
example:uM:=(AW<|BX (DJ<|AI AK) (AF 0) CG (AD (DP K) (AD (BR K) AK (AD C3 (AD (BH K) (A1 K AR 0) (AD GG AB JN)) (FB 26))) (AD (BH K) CT (AD C3 AB JN))) 1 [2,3])
example:uN:=(BG (A6<|AD (B7 K) (AD C3 AB G3) CT) (uM K a E E) BS)
example:zkm:=(AQ (AD (BH K) G3 (AD C3 (A1 K A7 0) qE)) (AF 4))
example:zkn:=(AQ (AD C3 (A1 K A7 1) BM) (AF 5))
example:zko:=(AQ (AD C3 (AD (BH K) (AD (BH K) B2 CT) (AD C3 (A1 K A7 2) (AD QT BM CT))) BM) (AF 6))
example:zkp:=(AQ (BW BL) (AF 7))
example:uO:=(AQ (tC<|.str "") (AF 9))
example:uP:=(AQ (AD (BH K) (AD (DP K) JO (CO (ST K) (AI<|AD (B7 K) MZ B2))) (AD (DP K) (AD GG JO<|FB 26) (CO (ST K) (AI<|AD (B7 K) MZ DB)))) (AF 11))
example:uQ:=(AQ (AD (BH K) HJ (AD (BR K) AR (AD C3 (AD (BH K) (AD (BR K) A7 (AD (BH K) KL MZ)) ZP) (FB 26)))) (AF 9))
example:uR:=(DG (DJ<|AI BM) (AF 10) (AH (uP K a E E) (uQ K a E E)))
example:uS:=(CC<|D8 K "list" EX DR<|AI HJ)
example:uT:=(DG (DJ<|AI AK) (AF 8) (AH (uO K a E E) (AH (uR K a E E) (uS K a E E))))
example:zkw:=(AW DR)
example:uU:=[zki,zkj,uN,zkm,zkn,zko,zkp,uT,zkw]
example:zkx:=(AQ (tC<|.str " !\"#$&'()*+,-./0123456789:;<=>?@ABCDEFGHIJKLMNOPQRSTUVWXYZ[\\]^_`") (AF 1))
example:zky:=(AQ (AD (BH K) AK (tC<|.str "abcdefghijklmnopqrstuvwxyz{|}~")) (AF 1))
example:zkz:=(AQ (BJ (OB K a) E (A9 AB KL)) (AF 2))
example:zk0:=(AQ (AD (BH K) CT (AD C3 (A1 K AR 0) KN)) (AF 3))
example:zk1:=(AQ (FB 40) (AF 3))
example:uV:=(BG (A6<|AD (B7 K) (AD C3 (AD GG (A1 K AR 0) KN) JN) DD) (zk1 K a E E) BS)
example:aC:=(AW<|D8 K "str" (X6 K) (tC<|.str "") (AI<|BX (DJ<|AI A7) (AF 0) CG (AD (BR K) AK (AD C3 (AD (BH K) (A1 K AR 1) (AD (DP K) (AD GG AB<|AD (BH K) CT (AD C3 (A1 K AR 2) KL)) (A1 K AR 2))) (FB 94))) 1 [1,2]))
example:uW:=[zkx,zky,zkz,zk0,uV,aC]
example:zk4:=(AQ (BJ (OB K a) E (A9 (AD GG AB KN) KL)) (AF 1))
example:zk5:=(AW<|CN<|HI (AD (BH K) CT (AD C3 (A1 K AK 0) KL)) (AD (BH K) CT (AD C3 (A1 K AK 1) KL)) (AD (BH K) CT (AD C3 (A1 K AK 2) KL)) (AD (BH K) CT (AD C3 AB KN)))
example:uX:=[zk4,zk5]
example:zk6:=(AQ AB<|TY K 3<|E7 (AF 6) (E7 (AF 7) (E7 (AF 8) JE)))
example:zk7:=(FI DB AR JO)
example:zk8:=(FI DR JO<|BW BL)
example:zk9:=(AQ (AD (BH K) JO CT) (NJ AB G3 NP))
example:zla:=(FI DB A7<|EB DB AR)
example:uY:=(CC<|D8 K "list" EX (EB DR<|EB DB AR) (AI BM))
example:uZ:=(CC<|D8 K "list" zbm (EB DR<|EB DB AR) (AI B2))
example:vA:=(FI DB A7<|EB DB AR)
example:vB:=(BG (A6<|AD (B7 K) AK KN) (vA K a E E) BS)
example:vC:=(CC<|BJ (VB K a) E (C0 DB DR AR))
example:vE:=(BG (A6<|AD (B7 K) AK KM) (uZ K a E E) (AH (vB K a E E) (vC K a E E)))
example:vF:=(BG (A6<|AD D9 AK KM) (uY K a E E) (vE K a E E))
example:vG:=(BG (A6<|AD (B7 K) AK G3) (zla K a E E) (vF K a E E))
example:vH:=(BG (A6<|AD D9 AK G3) (AH (zk7 K a E E) (AH (zk8 K a E E) (zk9 K a E E))) (vG K a E E))
example:vI:=[zk6,vH]
example:zlj:=(AW<|AD (BH K) (AD (BH K) (BJ (Y7 K a) E (AI AB)) (BJ (Y8 K a) E (AI AB))) (BJ (Y9 K a) E (AI AB)))
example:vJ:=[zlj]
example:zlk:=(AW<|AD (BH K) (AD (BH K) (BJ (ZA K a) E (AI AB)) (BJ (ZB K a) E (AI AB))) (BJ (ZC K a) E (AI AB)))
example:vK:=[zlk]
example:zll:=(AW<|BX (CY K AK) (FE K 2<|DF (AF 0) (DF (AF 1) FD)) CG (AD (BR K) (AN (a "Plank") "read" (KE K a) (λ_=>E0) AR (AI AB)) AK) 2 [0])
example:vL:=[zll]
example:zlm:=(AQ (AN (a "Layout") "record_at" (HE K a) E AB (AI<|A1 K AR 1)) (AF 3))
example:vM:=(AW<|MI [ (A7 ,(CN<|A9 (A1 K AR 2) (A1 K (AD (BR K) (AN (a "Plank") "read" (KE K a) E AK (AI<|A1 K A7 0)) (A1 K A7 1)) 1))) ])
example:vN:=(BG (A6<|AD (B7 K) (A1 K AR 0) (tC<|.str "many")) (AH (zlm K a E E) (vM K a E E)) BS)
example:vO:=(AW<|MI [ ((AN (a "Layout") "record_mark" (JG K a) E AB (AI<|A1 K AR 1)) ,DD) ])
example:vP:=(BG (A6<|AD (B7 K) (A1 K AR 0) (tC<|.str "marked")) (vO K a E E) BS)
example:zlr:=(AW<|MI [ ((AN (a "Layout") "record_at" (HE K a) E AB (AI<|A1 K AR 2)) ,(tC .non)) ,((AN (a "Layout") "record_mark" (JG K a) E AB (AI<|A1 K AR 2)) ,DD) ])
example:vQ:=(BG (A6<|AD (B7 K) (A1 K AR 1) (tC<|.str "record")) (zlr K a E E) BS)
example:vR:=(AW<|MI [ ((AN (a "Layout") "piece_mark" (JH K a) E AB (AI<|A1 K AR 2)) ,DD) ])
example:aD:=[vN,vP,vQ,vR]
example:zlu:=(AQ (AN (a "Plank") "read" (KE K a) E AB (AI AR)) (AF 3))
example:vS:=(AQ (BX (FJ K<|AI A7) (FE K 2<|DF (AF 0) (DF (AF 1) FD)) CG (XC AR (CN<|A9 A7 AB) AK) 2 [1,2]) (AF 4))
example:vT:=(CC<|AN (a "Plank") "write" (QW K a) E AB (A9 AR BM))
example:vU:=(BG (A6<|AD (DQ K) BM A7) (vT K a E E) BS)
example:vV:=(DG (DJ<|AI<|AN (a "Plank") "blocks" (MJ K a) E AB BL) (AF 2) (AH (zlu K a E E) (AH (vS K a E E) (vU K a E E))))
example:aE:=[vV]
example:zlz:=(CC<|AN (a "Hold") "ask_for_place" (UI K a) E AB (AI AK))
example:zl0:=(AW<|NU (AT K AB "latest") AK)
example:vW:=[zlz,zl0]
example:zl1:=(AQ (AN (a "Plank") "read" (KE K a) E (AT K AB "ground") (AI AK)) (AF 2))
example:zl2:=(AQ (AN (a "Hold") "outcome" (UL K a) E AB (A9 AK HZ)) (AF 3))
example:vX:=(FI (AT K AB "outs") BM (tC<|.bl true))
example:zl4:=(DG (CY K<|A1 K A7 0) (AF 4) (vX K a E E))
example:zl5:=(CC<|AN (a "Plank") "write" (QW K a) E (AT K AB "ground") (A9 AK<|AN (a "Hold") "laid_over" (UM K a) E AB (A9 AR AK)))
example:zl6:=(AW A7)
example:vY:=[zl1,zl2,zl4,zl5,zl6]
example:zl7:=(AW<|GU (a "Plank") (T2 K a) E (A9 (AN (a "Layout") "blocks" (UE K a) E AB BL) (AT K AB "width")))
example:vZ:=[zl7]
example:zl8:=(AQ (BW BL) (AF 2))
example:v0:=(AQ (AD (BH K) AR (AN (a "Plank") "read" (KE K a) E AB (AI A7))) (AF 2))
example:v6:=(DG (DJ<|AI<|AD (BH K) (AD (BH K) (A1 K AK 0) (A1 K AK 1)) (A1 K AK 2)) (AF 3) (v0 K a E E))
example:zmb:=(AQ (A1 K AK 3) (AF 4))
example:zmc:=(AQ (J1 (J7 K) AR (IH<|AD (DP K) (A1 K AK 0) BM) J0) (AF 5))
example:zmd:=(AQ (J1 (J7 K) AR (IH<|AD (DP K) (AD (BH K) (A1 K AK 0) (A1 K AK 1)) BM) J0) (AF 6))
example:v7:=(AQ HZ<|AF 7)
example:v8:=(AQ HZ<|AF 8)
example:zmg:=(AW<|tC .non)
example:v9:=(BG (L7 (A6<|JD (A1 K HJ 0) DR) (A6<|AD GH (AD (BR K) B2 (A1 K HJ 1)) (tC .non))) (zmg K a E E) BS)
example:wA:=(FI DR (A1 K HJ 0) (A1 K HJ 1))
example:wB:=(FI JO (A1 K HJ 1) (BX (CY K<|A1 K (AD (BR K) B2 (A1 K HJ 1)) 1) (AF 0) CG (AD (BR K) AK AB) 1 [6]))
example:wC:=(BG (A6<|AD GW HJ<|tC .non) (AH (v9 K a E E) (AH (wA K a E E) (wB K a E E))) BS)
example:wD:=(DG (CY K<|J1 (J7 K) AR J0 (IH<|AD (DP K) (A1 K AK 0) BM)) (AF 9) (wC K a E E))
example:wE:=(AW<|BW<|C0 DR JO<|FB 1000)
example:wF:=[zl8,v6,zmb,zmc,zmd,v7,v8,wD,wE]
example:zmn:=(AQ (AN (a "Layout") "counts" (LM K a) E AK BL) (AF 3))
example:zmo:=(AQ (A1 K A7 1) (AF 4))
example:zmp:=(AQ (A1 K A7 2) (AF 5))
example:wG:=(C2 K AB (BJ (LT K a) E (A9 AR<|BX (DJ<|AI<|A1 K A7 0) (AF 0) CG (AN (a "Layout") "name_at" (KF K a) (λ_=>E0) AK (AI AB)) 1 [1])) "name_values")
example:wH:=(C2 K AB (BJ (LT K a) E (A9 AR<|BX (DJ<|AI BM) (AF 0) CG (AN (a "Layout") "record_at" (HE K a) (λ_=>E0) AK (AI AB)) 1 [1])) "record_values")
example:wI:=(C2 K AB (BJ (LT K a) E (A9 AR<|BX (DJ<|AI B2) (AF 0) CG (AN (a "Layout") "piece_at" (MP K a) (λ_=>E0) AK (AI AB)) 1 [1])) "piece_values")
example:wJ:=(C2 K AB (BJ (LT K a) E (A9 AR<|BX (DJ<|AI BM) (AF 0) CG (AN (a "Layout") "record_mark" (JG K a) (λ_=>E0) AK (AI AB)) 1 [1])) "record_marks")
example:wK:=(C2 K AB (BJ (LT K a) E (A9 AR<|BX (DJ<|AI B2) (AF 0) CG (AN (a "Layout") "piece_mark" (JH K a) (λ_=>E0) AK (AI AB)) 1 [1])) "piece_marks")
example:wL:=(C2 K AB (BJ (RA K a) E (A9 BM<|BX (CY K<|AT K AB "name_values") (AF 0) (A6<|AD GW AB<|tC .non) (A1 K AB 1) 1 [])) "leads")
example:wM:=(C2 K AB (BJ (RA K a) E (A9 B2<|BJ (U0 K a) E (AI<|AT K AB "record_values"))) "namings")
example:wN:=(C2 K AB (BJ (RA K a) E (A9 B2<|BJ (U0 K a) E (AI<|AN (a "View") "records_led_to" (Y6 K a) E AB BL))) "reached")
example:wO:=[zmn,zmo,zmp,wG,wH,wI,wJ,wK,wL,wM,wN]
example:zmy:=(AQ (AN (a "Hold") "newest" (Q0 K a) E AB (AI AK)) (AF 4))
example:zmz:=(CC<|AN (a "Hold") "ask_for_changes" (UJ K a) E AB (AI A7))
example:zm0:=(AQ (CO (E6 K) (AI<|AT K AB "made")) (AF 5))
example:zm1:=(CC<|D8 K "list" EX (AT K AB "made") (AI<|GU (a "Change") (UG K a) E (C0 AK AR<|BJ (UH K a) E (A9 A7 BM))))
example:zm2:=(CC<|D8 K "list" EX (AD (BR K) (AT K AB "made_in") (A1 K AK 0)) (AI B2))
example:zm3:=(FI (AT K AB "latest") AK B2)
example:zm4:=(AW B2)
example:wP:=[zmy,zmz,zm0,zm1,zm2,zm3,zm4]
example:zm5:=(AQ (AN (a "Hold") "newest" (Q0 K a) E AB (AI AK)) (AF 2))
example:zm6:=(AW<|AD (BR K) (AN (a "Plank") "read" (KE K a) E (AT K AB "ground") (AI<|A1 K AK 0)) (A1 K AK 1))
example:zm7:=(BG (A6<|AD GH AR<|tC .non) (zm6 K a E E) BS)
example:zm8:=(AW<|AT K (AD (BR K) (AT K AB "made") AR) "value")
example:wQ:=[zm5,zm7,zm8]
example:zm9:=(C2 K AB AK "plan")
example:zna:=(C2 K AB (GU (a "Hold") (QZ K a) E (AI AR)) "book")
example:znb:=(C2 K AB HZ "taken_out")
example:wR:=[zm9,zna,znb]
example:znc:=(AW<|AN (a "Hold") "write" (UN K a) E (AT K AB "book") (AI AK))
example:wS:=[znc]
example:znd:=(AW A7)
example:zne:=(BG (A6<|AD (QL K) (AN (a "Hold") "in_hand" (MR K a) E AB (AI BM)) AR) (znd K a E E) BS)
example:znf:=(DG (FJ K<|AI AK) (LH K 2<|E7 (AF 3) (E7 (AF 4) JE)) (zne K a E E))
example:zng:=(GD (a "NoRoom") E (AI<|tC<|.str "nothing of what is to be taken is free"))
example:wT:=[znf,zng]
example:wU:=(AW<|BX (DJ<|AI<|A1 K (AN (a "Layout") "counts" (LM K a) E (AT K AB "plan") BL) 0) (AF 0) CG (AN (a "Hold") "in_hand" (MR K a) (λ_=>E0) (AT K AK "book") (AI<|AN (a "Layout") "name_at" (KF K a) (λ_=>E0) (AT K AK "plan") (AI AB))) 1 [0])
example:aF:=[wU]
example:wV:=(AW<|AN (a "Hold") "in_hand" (MR K a) E (AT K AB "book") (AI<|AN (a "Layout") "record_at" (HE K a) E (AT K AB "plan") (AI AK)))
example:aG:=[wV]
example:wW:=(AQ (BW<|AI BM) (AF 5))
example:znk:=(CC<|D8 K "list" EX B2<|AI<|EB (AT K AB "taken_out") AR)
example:znl:=(BG (A6<|JD AR<|AT K AB "taken_out") (znk K a E E) BS)
example:aH:=(AW<|AN (a "Hold") "change" (FV K a) E (AT K AB "book") (C0 (AN (a "Layout") "name_at" (KF K a) E (AT K AB "plan") (AI AK)) (CN<|A9 AR A7) B2))
example:aI:=[wW,znl,aH]
example:znn:=(AQ (GU (a "View") (RC K a) E (A9 AB AK)) (AF 2))
example:zno:=(AW<|AD (BH K) (BJ (U3 K a) E (AI AR)) (BJ (ZD K a) E (AI AR)))
example:wX:=[znn,zno]
example:wY:=(AW<|AD (B7 K) (CO (E6 K) (AI<|BJ (U3 K a) E (AI<|GU (a "View") (RC K a) E (A9 AB AK)))) DD)
example:aJ:=[wY]
example:wZ:=(AQ (BX (DJ<|AI<|A1 K (AN (a "Layout") "counts" (LM K a) E AB BL) 0) (AF 0) CG (AN (a "Layout") "name_at" (KF K a) (λ_=>E0) AK (AI AB)) 1 [0]) (AF 2))
example:znr:=(AW<|BJ (MT K a) E (C0 AK AR<|CN<|AI<|tC .non))
example:aK:=[wZ,znr]
example:w5:=(AQ (BX (DJ<|AI<|A1 K (AN (a "Layout") "counts" (LM K a) E AB BL) 1) (AF 0) CG (AN (a "Layout") "record_mark" (JG K a) (λ_=>E0) AK (AI AB)) 1 [0]) (AF 2))
example:znt:=(AW<|BJ (MT K a) E (C0 AK AR<|CN<|A9 (tC .non) DD))
example:aL:=[w5,znt]
example:w8:=(AQ (BX (DJ<|AI<|A1 K (AN (a "Layout") "counts" (LM K a) E AB BL) 2) (AF 0) CG (AN (a "Layout") "piece_mark" (JH K a) (λ_=>E0) AK (AI AB)) 1 [0]) (AF 2))
example:znv:=(AW<|BJ (MT K a) E (C0 AK AR<|CN<|A9 (tC .non) DD))
example:aM:=[w8,znv]
example:w9:=(AW<|CO (YA K) (AI<|BX (CY K<|AN (a "Store") "name_cells" (N0 K a) E AB BL) (AF 0) (A6<|AD GW AB<|tC .non) (A1 K AB 0) 1 []))
example:aN:=[w9]
example:xA:=(AW AR)
example:xB:=(BG (HS (A6<|AD GW A7<|tC .non) (A6<|AD (B7 K) (A1 K A7 0) AK)) (xA K a E E) BS)
example:znz:=(DG (FJ K<|AI<|AN (a "Store") "name_cells" (N0 K a) E AB BL) (LH K 2<|E7 (AF 2) (E7 (AF 3) JE)) (xB K a E E))
example:zn0:=(AW<|tC .non)
example:xC:=[znz,zn0]
example:zn1:=(AQ (AN (a "Store") "standing" (JI K a) E AB (AI AK)) (AF 4))
example:xD:=(AW<|AN (a "Hold") "change" (FV K a) E (AT K AB "book") (C0 (AN (a "Layout") "record_at" (HE K a) E (AT K AB "plan") (AI AK)) (CN<|A9 (AD (BH K) (A1 K BM 0) AR) (A1 K BM 1)) A7))
example:xE:=[zn1,xD]
example:xF:=(AW<|AN (a "Hold") "change" (FV K a) E (AT K AB "book") (C0 (AN (a "Layout") "record_at" (HE K a) E (AT K AB "plan") (AI AK)) (CN<|A9 (A1 K (AN (a "Store") "standing" (JI K a) E AB (AI AK)) 0) AR) A7))
example:aO:=[xF]
example:zn4:=(AQ (A1 K (AN (a "Store") "standing" (JI K a) E AB (AI AK)) 1) (AF 3))
example:xG:=(AQ (AN (a "Hold") "change" (FV K a) E (AT K AB "book") (C0 (AN (a "Layout") "record_at" (HE K a) E (AT K AB "plan") (AI AK)) (tC .non) (BW<|AI AR))) (AF 4))
example:xH:=(AQ (BW<|AI BM) (AF 5))
example:xI:=(CC<|D8 K "list" EX B2<|AI<|AN (a "Hold") "change" (FV K a) E (AT K AB "book") (C0 DB DD<|BW<|AI BM))
example:xJ:=(DG (CY K<|AD (BH K) (BX (CY K A7) (AF 0) CG (AN (a "Layout") "piece_mark" (JH K a) (λ_=>E0) (AT K AK "plan") (AI AB)) 1 [0]) (BW<|AI<|AN (a "Layout") "record_mark" (JG K a) E (AT K AB "plan") (AI AK))) (AF 6) (xI K a E E))
example:zn9:=(AW B2)
example:xK:=[zn4,xG,xH,xJ,zn9]
example:zoa:=(GD (a "NotSound") E (AI<|tC<|.str "the plank has faults"))
example:zob:=(BG (GA<|IF K<|BJ (ZE K a) E (A9 AB AK)) (zoa K a E E) BS)
example:zoc:=(AQ (BJ (U4 K a) E (A9 AB AK)) (AF 2))
example:zod:=(AQ P7<|AF 3)
example:xL:=(CC<|D8 K "dict" YJ A7<|AI<|BJ (ZF K a) E (C0 AB AK BM))
example:zof:=(DG (CY K AR) (AF 4) (xL K a E E))
example:xM:=(CC<|BJ (ZG K a) E (A9 AK A7))
example:zoh:=(AW AR)
example:aP:=[zob,zoc,zod,zof,xM,zoh]
example:zoi:=(GD (a "NoName") E (AI<|tC<|.str "the text is no name"))
example:xN:=(BG (GA<|IF K<|CO (NQ K) (AI<|BX (CY K AR) (AF 0) CG (BJ (Y4 K a) (λ_=>E0) (AI AB)) 1 [])) (zoi K a E E) BS)
example:zok:=(GD (a "Twice") E (AI<|tC<|.str "the new name stands already"))
example:zol:=(BG (A6<|AD GW (AN (a "Store") "cell_of" (N2 K a) E AB (AI AK)) (tC .non)) (zok K a E E) BS)
example:aQ:=[xN,zol]
example:zom:=(AQ (AN (a "Store") "cell_of" (N2 K a) E AB (AI AK)) (AF 2))
example:zon:=(GD (a "NoName") E (AI<|tC<|.str "no such name stands"))
example:zoo:=(BG (A6<|AD GH AR<|tC .non) (zon K a E E) BS)
example:zop:=(AW<|A1 K (AD (BR K) (AN (a "Store") "name_cells" (N0 K a) E AB BL) AR) 1)
example:xO:=[zom,zoo,zop]
example:xP:=(AQ (AN (a "Hold") "change" (FV K a) E (AT K AB "book") (C0 (AN (a "Layout") "name_at" (KF K a) E (AT K AB "plan") (AI<|AN (a "Store") "cell_of" (N2 K a) E AB (AI AK))) (tC .non) AR)) (AF 3))
example:zor:=(FI (AT K AB "taken_out") AK A7)
example:zos:=(AW A7)
example:aR:=[xP,zor,zos]
example:xQ:=(CC<|AN (a "Store") "ask_for_new_name" (Q4 K a) E AB (A9 AK<|BW<|AI AK))
example:zou:=(AQ (BJ (UQ K a) E (A9 (AT K AB "plan") (AT K AB "book"))) (AF 2))
example:zov:=(AQ (BJ (Q2 K a) E (A9 (AT K AB "plan") (AT K AB "book"))) (AF 3))
example:xR:=(AQ (AN (a "Hold") "change" (FV K a) E (AT K AB "book") (C0 (AN (a "Layout") "record_mark" (JG K a) E (AT K AB "plan") (AI AR)) CT (BW BL))) (AF 4))
example:xS:=(AQ (AN (a "Hold") "change" (FV K a) E (AT K AB "book") (C0 (AN (a "Layout") "record_at" (HE K a) E (AT K AB "plan") (AI AR)) (CN<|A9 CT<|CN BL) (BW<|AI BM))) (AF 5))
example:xT:=(AW<|BW<|C0 BM B2<|AN (a "Store") "fill_cell" (Q5 K a) E AB (HI A7 AK AR B2))
example:aS:=[xQ,zou,zov,xR,xS,xT]
example:xU:=(CC<|AN (a "Store") "ask_for_new_name" (Q4 K a) E AB (A9 AR<|BW<|A9 AK AR))
example:zo0:=(AQ (AN (a "Store") "record_of" (KI K a) E AB (AI AK)) (AF 3))
example:zo1:=(AQ (BJ (Q2 K a) E (A9 (AT K AB "plan") (AT K AB "book"))) (AF 4))
example:zo2:=(AQ (AN (a "Store") "recount" (N3 K a) E AB (C0 A7 CT<|BW BL)) (AF 5))
example:xV:=(AW<|BW<|A9 B2<|AN (a "Store") "fill_cell" (Q5 K a) E AB (HI BM AR A7 B2))
example:aT:=[xU,zo0,zo1,zo2,xV]
example:zo4:=(AQ (AN (a "Store") "record_of" (KI K a) E AB (AI AK)) (AF 2))
example:zo5:=(AQ (AN (a "Store") "empty_cell" (Q7 K a) E AB (A9 AK<|BW BL)) (AF 3))
example:xW:=(AW<|BW<|A9 A7<|AN (a "Store") "recount" (N3 K a) E AB (C0 AR (O0 QU CT) (BW<|AI A7)))
example:zo7:=(BG (A6<|AD IB (A1 K (AN (a "Store") "standing" (JI K a) E AB (AI AR)) 0) CT) (xW K a E E) BS)
example:xX:=(AW<|AD (BH K) (BW<|AI A7) (AN (a "Store") "drop_record" (UU K a) E AB (A9 AR A7)))
example:xY:=[zo4,zo5,zo7,xX]
example:zo9:=(AQ (AN (a "Store") "record_of" (KI K a) E AB (AI AK)) (AF 3))
example:zpa:=(GD (a "NoPiece") E (AI<|tC<|.str "the text is none of a piece"))
example:zpb:=(BG (GA<|IF K<|BJ (Y5 K a) E (AI AR)) (zpa K a E E) BS)
example:zpc:=(AQ (BJ (UR K a) E (A9 (AT K AB "plan") (AT K AB "book"))) (AF 4))
example:xZ:=(AQ (AN (a "Hold") "change" (FV K a) E (AT K AB "book") (C0 (AN (a "Layout") "piece_mark" (JH K a) E (AT K AB "plan") (AI BM)) CT (BW BL))) (AF 5))
example:yA:=(AQ (AN (a "Hold") "change" (FV K a) E (AT K AB "book") (C0 (AN (a "Layout") "piece_at" (MP K a) E (AT K AB "plan") (AI BM)) AR (BW<|AI B2))) (AF 6))
example:yB:=(AW<|BW<|C0 B2 DB<|AN (a "Store") "regroup" (Q6 K a) E AB (C0 A7 (AD (BH K) (A1 K (AN (a "Store") "standing" (JI K a) E AB (AI A7)) 1) (CN<|AI BM)) (BW<|AI DB)))
example:yC:=[zo9,zpb,zpc,xZ,yA,yB]
example:zpg:=(AQ (AN (a "Store") "record_of" (KI K a) E AB (AI AK)) (AF 3))
example:zph:=(AQ (A1 K (AN (a "Store") "standing" (JI K a) E AB (AI A7)) 1) (AF 4))
example:zpi:=(GD (a "NoPiece") E (AI<|tC<|.str "the record has no piece at that place"))
example:yD:=(BG (GA<|A6<|FH EO D9 DD AR<|CO (E6 K) (AI BM)) (zpi K a E E) BS)
example:zpk:=(AQ (AN (a "Store") "regroup" (Q6 K a) E AB (C0 A7 (AD (BH K) (J1 (J7 K) BM J0 (IH AR)) (J1 (J7 K) BM (IH<|AD (BH K) AR CT) J0)) (BW BL))) (AF 5))
example:yE:=(AW<|BW<|A9 B2<|AN (a "Hold") "change" (FV K a) E (AT K AB "book") (C0 (AN (a "Layout") "piece_mark" (JH K a) E (AT K AB "plan") (AI<|AD (BR K) BM AR)) DD (BW<|AI B2)))
example:yF:=[zpg,zph,yD,zpk,yE]
example:zpm:=(AQ (A1 K (AN (a "Store") "standing" (JI K a) E AB (AI<|AN (a "Store") "record_of" (KI K a) E AB (AI AK))) 1) (AF 2))
example:zpn:=(AW<|BX (CY K AR) (AF 0) CG (AN (a "Hold") "in_hand" (MR K a) (λ_=>E0) (AT K AK "book") (AI<|AN (a "Layout") "piece_at" (MP K a) (λ_=>E0) (AT K AK "plan") (AI AB))) 1 [0])
example:yG:=[zpm,zpn]
example:zpo:=(CC<|BJ (ZH K a) E (A9 AB AK))
example:zpp:=(AW<|GU (a "Store") (NZ K a) E (A9 AB AK))
example:yH:=[zpo,zpp]
example:zpq:=(AQ (AN (a "Store") "link" (Q8 K a) E AB (A9 AK AR)) (AF 3))
example:zpr:=(AQ (AN (a "Store") "record_of" (KI K a) E AB (AI AK)) (AF 4))
example:yI:=(AQ (AN (a "Store") "empty_cell" (Q7 K a) E AB (A9 AK<|BW<|AI<|A1 K A7 1)) (AF 5))
example:yJ:=(AW<|AD (BH K) A7 (BW<|A9 B2<|AN (a "Store") "recount" (N3 K a) E AB (C0 BM (O0 QU CT) (BW<|AI B2))))
example:yK:=[zpq,zpr,yI,yJ]
example:zpu:=(AW<|tC<|.bl false)
example:zpv:=(BG (L7 (A6<|AD GH A7<|tC .non) (A6<|AD (DQ K) (BJ (U4 K a) E (A9 AK AR)) (BW BL))) (zpu K a E E) BS)
example:zpw:=(AW<|tC<|.bl false)
example:yL:=(BG (A6<|AD (DQ K) (AN (a "Store") "names" (N1 K a) E AB BL) (CO (TU K) (AI<|A1 K A7 0))) (zpw K a E E) BS)
example:zpy:=(AW<|tC<|.bl false)
example:yM:=(BG (A6<|AD (DQ K) (AN (a "Store") "texts" (MV K a) E AB (AI BM)) (EB (A1 K A7 1) (EB (A1 K A7 0) BM))) (zpy K a E E) BS)
example:yN:=(YK (A1 K A7 0) (AF 4) (yM K a E E))
example:zp1:=(AW<|tC<|.bl true)
example:yO:=[zpv,yL,yN,zp1]
example:yP:=(AQ (tC<|.str "") (AF 6))
example:yQ:=(CC<|AN (a "Store") "make" (UV K a) E1 AB (AI AR))
example:yR:=(CC<|AN (a "Store") "link" (Q8 K a) E1 AB (A9 AR A7))
example:yS:=(CC<|AN (a "Store") "put" (UX K a) E1 AB (A9 AR BM))
example:yT:=(CC<|AN (a "Store") "take" (UY K a) E1 AB (A9 AR B2))
example:yU:=(CC<|AN (a "Store") "move" (UZ K a) E1 AB (A9 AR A7))
example:yV:=(CC<|AN (a "Store") "cut" (UW K a) E1 AB (AI AR))
example:yW:=(BG (A6<|AD (B7 K) AK KN) (yU K a E E1) (yV K a E E1))
example:yX:=(BG (A6<|AD (B7 K) AK KM) (yT K a E E1) (yW K a E E1))
example:yY:=(BG (A6<|AD D9 AK KM) (yS K a E E1) (yX K a E E1))
example:yZ:=(BG (A6<|AD (B7 K) AK G3) (yR K a E E1) (yY K a E E1))
example:zA:=(BG (A6<|AD D9 AK G3) (yQ K a E E1) (yZ K a E E1))
example:aU:=(AQ (tC<|.str "room") (AF 6))
example:aV:=(AQ (tC<|.str "piece") (AF 6))
example:aW:=(AQ (tC<|.str "twice") (AF 6))
example:aX:=(AQ (tC<|.str "name") (AF 6))
example:zB:=(XQ (λE1=>(zA K a E E1)) (J6 (λcls=>fk K cls<|.ref<|a "NoName") (aX K a E E) (J6 (λcls=>fk K cls<|.ref<|a "Twice") (aW K a E E) (J6 (λcls=>fk K cls<|.ref<|a "NoPiece") (aV K a E E) (J6 (λcls=>fk K cls<|.ref<|a "NoRoom") (aU K a E E) XO)))))
example:VH:=(AW DB)
example:aY:=[yP,zB,VH]
example:zqj:=(AQ (BJ (OB K a) E (A9 (AD GG A7 JN) VE)) (AF 5))
example:zC:=(AQ (AD C3 A7 JN) (AF 6))
example:zql:=(AQ (AD (BR K) BM (AD C3 (A1 K B2 0) KM)) (AF 7))
example:zqm:=(AQ (AD (BR K) BM (AD C3 (A1 K B2 1) KM)) (AF 8))
example:zD:=(AQ (BJ (ZI K a) E (AI<|A1 K B2 2)) (AF 9))
example:zqo:=(AQ (AD QT (AD C3 (A1 K B2 3) VE) CT) (AF 10))
example:zqp:=(AQ (BJ (ZL K a) E (C7 AK<|C7 AR<|HI DB DR JO MZ)) (AF 11))
example:zqq:=(AW<|tC<|.bl false)
example:zE:=(BG (A6<|AD (DQ K) (BJ (ZN K a) E (C7 AB<|C7 DB<|HI DR JO HJ MZ)) ZP) (zqq K a E E) BS)
example:zqs:=(CC<|BJ (ZM K a) E (C7 AK<|C7 DB<|HI DR JO HJ MZ))
example:zF:=(BG (A6<|AD (B7 K) ZP (tC<|.str "")) (zqs K a E E) BS)
example:zqu:=(AW<|tC<|.bl false)
example:aZ:=(BG (A6<|AD (DQ K) (AN (a "Store") "names" (N1 K a) E AB BL) (CO (TU K) (AI<|A1 K AK 0))) (zqu K a E E) BS)
example:bA:=(AW<|QS (IG DR<|A1 K AK 0) (AD (B7 K) (AN (a "Store") "texts" (MV K a) E AB (AI DR)) (EB (A1 K AK 1) (EB (A1 K AK 0) DR))))
example:zG:=[zqj,zC,zql,zqm,zD,zqo,zqp,zE,zF,aZ,bA]
example:zqx:=(AQ (BJ (ZJ K a) E (AI<|BJ (U7 K a) E (A9 AB DD))) (AF 1))
example:zqy:=(AQ (BJ (ZK K a) E (A9 (BJ (U7 K a) E (A9 AB CT)) KM)) (AF 2))
example:zH:=(AQ (GU (a "Layout") (UD K a) E (HI (A1 K AK 0) (A1 K AK 1) (A1 K AK 2) (A1 K AK 3))) (AF 3))
example:zq0:=(AQ (AN (a "Layout") "plank" (UF K a) E A7 BL) (AF 4))
example:zq1:=(AQ (GU (a "Store") (NZ K a) E (A9 A7 BM)) (AF 5))
example:zI:=(AQ (BW<|C0 HZ HZ<|FB 1000) (AF 6))
example:zq3:=(AW<|tC<|.bl false)
example:zJ:=(BG (GA<|IF K<|BJ (VD K a) E (C7 B2<|HI DB AK (AD GG DR JN) AR)) (zq3 K a E E) BS)
example:zK:=(CC<|AN (a "Store") "write" (U5 K a) E B2 (AI<|AD C3 (AD GG DR JN) (AN (a "Plank") "blocks" (MJ K a) E BM BL)))
example:zL:=(AQ (BJ (RF K a) E (A9 A7 BM)) (AF 5))
example:zM:=(AQ (BJ (RH K a) E (A9 BM AK)) (AF 6))
example:zq8:=(AW<|tC<|.bl false)
example:zN:=(BG (GA<|IF K<|BJ (RG K a) E (HI B2 A7 BM DB)) (zq8 K a E E) BS)
example:zO:=(BG (A6<|AD D9 (AD C3 DR JN) qE) (zK K a E E) (AH (zL K a E E) (AH (zM K a E E) (zN K a E E))))
example:zP:=(BG (A6<|AD D9 (AD C3 DR JN) VE) (zJ K a E E) (zO K a E E))
example:zQ:=(DG (CY K<|J1 (J7 K) AB (IH G3) J0) (AF 7) (zP K a E E))
example:zR:=(AQ (BJ (RF K a) E (A9 A7 BM)) (AF 5))
example:zS:=(AW<|BJ (RG K a) E (HI B2 A7 BM<|BJ (RH K a) E (A9 BM AK)))
example:zT:=[zqx,zqy,zH,zq0,zq1,zI,zQ,zR,zS]
end
local macro_rules
 |`(tactic|push_cast [$l,*])=>do
  let g:=fun (s:String)=>((s.splitOn " ").map fun n=>Lean.mkIdent n.toName).toArray
  let a←(g "Vq Vv Vx Vy Vz Wb Wc Wd zdc zde Wg Wh Wj zdi zdl zdu Wk Wl Wm Wp Wq zc5 zc3 zc7 zc0 zda Wv Ww Wx Wy Wz Xb zf0 zf3 zf6 Xc Xd Xg Xh Xj zfx Xk Xl zfm zfq zfn zfr Xm zcp zcq YL zcr zcs zct zcu o9 zcv zcw zdo zdp zdq zdr zds Xp Xq Xw Xx Xy Yd Yh Yg zd0 zdz zd1 Yj Yk Yb Xz Yc Yl zd6 zd7 zd8 zd9 zea zeb zec zed zee zef zeg zeh zei zej zek zel zem zen zeo zep zeq zer Ym zex Yp ze0 ze3 ze6 ze9 zfc zff zfi za0 za1 za2 zaz zay zfv zfu zb0 zcg zch zci zcj Zj Zg zcl zbo zgd").mapM fun n=>`(Lean.Parser.Tactic.simpLemma|↓$n:term)
  let b←(g "QT C3 GG rPw QU Ux Ends.drop AZ zcx zcy dv uh List.reduceReplicate zi Nat.reduceSub vy t_ List.getElem?_cons_zero List.getElem?_cons_succ yr Option.join_some List.set_cons_zero List.set_cons_succ V.int.injEq V.ref.injEq V.bl.injEq V.str.injEq List.cons.injEq and_true true_and q1 q2 q3 q4 qL qR reduceCtorEq false_and and_false or_false false_or qF decide_eq_true_eq vd K_ qD eq_self if_true uq if_false ite_true Bool.true_eq_false qC qA Int.reduceToNat Int.reduceLT Int.reduceLE Int.reduceEq Nat.reduceLeDiff az not_true_eq_false not_false_eq_true").mapM fun n=>`(Lean.Parser.Tactic.simpLemma|$n:term)
  `(tactic|simp only [$a,*,$b,*,$l,*])
def nO{H:Hp}{t:Addr}{o:HO}{P:Hp->Prop}(h:H t=none)(k:∀ H',Same H H'->H' t=some o->P H'):P (upd H t o):=k _ (AL h) AE
def D0{H:Hp}{t:Addr}{o:HO}(h:H t=none):∃ H',upd H t o=H'/\Same H H'/\H' t=some o:={_,rfl,AL h,AE}
section
variable{K:μ}{a:Ad}{vs:Tr}{H:Hp}{Q:VK}{E:XK}
def RK{α β :Type}{F: α -> β ->Prop}{x: α}:∀ {l:List α} {m:List β} {i:Nat},Paired F l m->l[i]? =some x->∃ y,m[i]? =some y/\F x y
 |_,_,0,.cons h _,e=>{_,rfl,by cases e;exact h}
 |_,_,i+1,.cons _ t,e=>RK (i:=i) t e
local macro_rules
 |`(command|example:($n:ident,$x,*):=$t:term)=>do
  let q:=x.getElems
  let i:=Lean.mkIdent
  let l:Array Lean.Term:=(List.replicate (q[2]!.raw.isNatLit?.getD 0) (Lean.Syntax.mkStrLit "")).toArray
  let a<-`($(q[0]!) $(i `K) $(i `a) $(i `vs) $(i `H) $(i `Q) $(i `E))
  let b<-`($(q[1]!) $(i `K) $(i `a) (fun _=>$(i `E)) (AV $(i `Q)) (AZ [$l,*] $(i `vs)) $(i `H))
  if q.size=4 then `(command|def $n:ident ($(i `h):ident : $a) : $b := $t) else `(command|def $n:ident : $a → $b := $t)
example:(zrf,T2,ZX,3):=by
 apply u4;rintro p dx m w ⟨rfl,T,hp,hm,h1,h2,q⟩;push_cast[ZX,↓rR_];refine{i0,by lia,(LA (CJ m<|oA hm rfl) (λi ys H'=>Same H H'/\∃ ts:List _,ys=ts.map V.ref/\Paired (λt r=>H' t=some (.tup r)) ts (bg i<|bg w .non)) {Same.refl _,[],rfl,.nil} (λi ys H' hi hl hzz=>?_) (λys H' hl hzz cl BC=>?_))};obtain⟨s,ts,e,P⟩:=hzz
 have fin:∀ (t':Addr) (H2:Hp),Same H' H2->H2 t'=some _->Same H H2/\∃ ts':List _,ys++[V.ref t']=ts'.map _/\Paired (λt r=>H2 t=some (.tup r)) ts' (bg _ _):=λt' H2 s2 e2=>by
  refine{s.trans s2,ts++[t'],by rw[e,χ];rfl,?_};rw[List.replicate_succ'];exact Paired.snoc (Paired.mapP P λt r z=>s2 _ _ z) e2
 refine{by decide,λt ht=>.inr ?_}
 have s1:Same H' (upd H' t<|.tup [V.non]):=λb o z=>by rw[AG (BE z ht)];exact z
 refine x3 t w _ {rfl,rfl,SqT.of AE,by simp,by lia,by lia,CJ _ (by simp;exact oA h2 rfl),λe1=>?_,λe1 u hu=>?_};refine fin t _ s1 ?_;rw[AE,(cw e1)];rfl;rw[mZ];exact fin u _ (s1.trans λb o z=>by rw[AG (BE z hu)];exact z) AE;obtain⟨s,ts,e,P⟩:=hzz
 have npc:=BE (s _ _ hp) BC;refine y3 {(by rw[AG npc];exact s _ _ hp),T.cl,T.nC,by decide,y3 {AE,T.cl,T.nW,J9 (by decide),y3 {AE,T.cl,T.nN,J9  (si (J9  (by decide))),?_}}};rw[HR,HR];refine q cl _ (s.free BC) {⟨dx,AE⟩,{ts,by rw[AG npc.symm,AE,e],?_},λr hr=>?_,by simpa using hm,h2} λb o eb hb=>?_;refine Paired.mapP P λt r z=>?_;rw[AG (BD z (s _ _ hp) (by intro z';cases z')),AG<|BE z BC];exact z;rw[tq hr,vk];rw[AG hb,AG<|BE (s _ _ eb) BC];exact s _ _ eb
example:(zrg,MJ,rS,1):=by
 apply u5;rintro p cl w rows n ⟨rfl,T,P,q⟩;obtain⟨ts,h2,h3⟩:=P.ls;obtain⟨dx,h1⟩:=P.ob;refine y3 {h1,T.cl,T.nC,_,TZ _ _ _,_,.inl {_,SqL.of h2,?_},q};rw[ζ,h3.length]
example:(zrh,T3,rT,1):=by
 apply u5;rintro p cl w rows n ⟨rfl,T,P,q⟩;obtain⟨dx,h1⟩:=P.ob;exact y3 {h1,T.cl,T.nW,_,pF _ _ _,q}
example:(zri,MK,ZY,2):=by
 apply u6;rintro p cl w rows n b ⟨rfl,T,P,q,qe⟩;obtain⟨ts,h2,h3⟩:=P.ls;obtain⟨dx,h1⟩:=P.ob;push_cast[ZY,↓rV_];split;rename_i h0;refine y3 {h1,T.cl,T.nC,_,TZ _ _ _,_,.inl {_,SqL.of h2,(by rw[ζ,h3.length])},?_};split;exact{by decide,qe (by lia)};exact q h0 (by lia);exact{by decide,qe (by lia)}
def zU(cl:Addr)(w n:Int):(pf cl w n).lookup ("ask_for_block":Str)=none:=LI _ _ _ (by decide) (by decide) (by decide)
example:(zrj,KE,aA,2):=by
 apply u6;rintro p cl w rows n b ⟨rfl,T,P,q,qe⟩;obtain⟨dx,h1⟩:=P.ob;obtain⟨ts,h2,h3⟩:=P.ls;push_cast[aA,↓uB_,MK];refine y2 {h1,zU _ _ _,T,x3 cl w _ {⟨n,P⟩,λh0 hb=>y3 {h1,T.cl,T.nC,_,TZ _ _ _,?_},qe}};obtain⟨i,rfl⟩:∃ i:Nat,b=i:={_,(ic h0).symm}
 have hi:=d_.mp hb;obtain⟨t,et,ht⟩:=GS h3<|θ hi;exact CW (SqL.of h2) rfl (v:=.ref t) (by rw[τ,et];rfl) {_,.inr<|SqT.of ht,q i _ rfl<|θ hi}
example:(zrk,QW,aB,3):=by
 apply u8;rintro p cl w rows n b v xs ⟨rfl,T,P,hv,hx,q,qe⟩;obtain⟨ts,h2,h3⟩:=P.ls;obtain⟨dx,h1⟩:=P.ob
 have npc:=P.ne;push_cast[aB,↓uC_,↓uD_,↓uE_,↓uF_,MK];refine y2 {h1,zU _ _ _,T,x3 cl w _ {⟨n,P⟩,λh0 hb=>{_,.inl ⟨_,hv,rfl⟩,y3 {h1,T.cl,T.nW,_,pF _ _ _,?_}},λz=>qe<|z.imp id .inl}};obtain⟨i,rfl⟩:∃ i:Nat,b=i:={_,(ic h0).symm}
 push_cast[];split;exact{by decide,qe (.inr (.inr (by lia)))}
 have hw:xs.length=w:=by lia
 refine{xs,.inl {hv,λt ht=>?_}}
 have ntp:=BE h1 ht
 have ntc:=BE h2 ht;refine y3 {by rw[AG ntp];exact h1,T.cl,T.nC,_,TZ _ _ _,(x4 cl _ i i {rfl,rfl,by rw[AG ntc];exact h2,?_,?_})};unfold HX;rw[if_pos (i0),if_pos (by rw[ζ,h3.length];exact hb),az];refine y3 {by rw[AG npc,AG ntp];exact h1,T.cl,T.nN,_,zgi _ _ _,?_};push_cast[];refine y2 {by rw[AG npc,AG ntp];exact h1,by show 3<1000;decide,(q i rfl (d_.mp hb) hw _ {⟨dx,AE⟩,{ts.set i t,?_,?_},λr hr=>?_,by rw[ky];exact P.sz,P.sw} λx o ex hxn=>?_)};rw[AG npc.symm,AE,List.map_set]
 have keep:∀ u r,H u=some (.tup r)->upd (upd (upd H t<|.tup xs) cl (.lst<|(ts.map V.ref).set i (.ref t))) p (.ins (a "Plank") dx (pf cl w<|n+1)) u=some _:=λu r hu=>by
  rw[AG (BD hu h1 (by intro z;cases z)),AG (BD hu h2 (by intro z;cases z)),AG<|BE hu ht];exact hu
 refine mY ?_ i<|Paired.mapP h3 keep;rw[AG ntp.symm,AG ntc.symm,AE];rcases ss hr with z|z
 exact P.wd r z;rw[z];exact hw
 have hxn:x≠p/\x≠cl:={λz=>hxn<|.inl z,λz=>hxn<|.inr z}
 rw[AG hxn.1,AG hxn.2,AG<|BE ex ht];exact ex
def RL(cl:Addr)(w n:Int):(pf cl w n).lookup ("read":Str)=none:=LI _ _ _ (by decide) (by decide) (by decide)
def zV(cl:Addr)(w n:Int):(pf cl w n).lookup ("write":Str)=none:=LI _ _ _ (by decide) (by decide) (by decide)
def zrl:T2 K a vs H Q E->vs.length=3:=by
 apply u4;rintro z z z z ⟨rfl,z⟩
 rfl
def zrm:MJ K a vs H Q E->vs.length=1:=by
 apply u5;rintro z z z z z ⟨rfl,z⟩
 rfl
def zrn:T3 K a vs H Q E->vs.length=1:=by
 apply u5;rintro z z z z z ⟨rfl,z⟩
 rfl
def zro:MK K a vs H Q E->vs.length=2:=by
 apply u6;rintro z z z z z z ⟨rfl,z⟩
 rfl
def zrp:KE K a vs H Q E->vs.length=2:=by
 apply u6;rintro z z z z z z ⟨rfl,z⟩
 rfl
def zrq:QW K a vs H Q E->vs.length=3:=by
 apply u8;rintro z z z z z z z z ⟨rfl,z⟩
 rfl
def FN(h:fs.length<n):(BP f v fs).length<n+1:=cr (O4 f v fs) (si h)
def SameBut.none{b:Addr}{H H1:Hp}{x:Addr}(s:SameBut (· =b) H H1)(hb:H1 b≠yp)(h:H1 x=yp):H x=yp:=by
 cases e:H x with
 |none=>rfl
 |some o =>
  have:x≠b:=λz=>hb<|z ▸ h;rw[s _ _ e this]at h;cases h
example:(zrr,UG,qY,4):=by
 apply u5;rintro x dx pl v nt ⟨rfl,T,hx,q⟩;refine y3 {hx,T.cc,T.nP,by decide,y3 {AE,T.cc,T.nV,FN  (by decide),y3 {AE,T.cc,T.nN,FN  (FN  (by decide)),?_}}};rw[HR,HR];exact q
def zrs:UG K a vs H Q E->vs.length=4:=by
 apply u5;rintro z z z z z ⟨rfl,z⟩
 rfl
example:(zrt,QZ,Z7,2):=by
 apply u7;rintro b gp cl dx w rows n ⟨rfl,T,TP,P,hb,q⟩;push_cast[Z7,↓tG_,↓tH_,↓tI_]
 have e1:upd H b _ b=some (.ins (HF a) dx (BP "ground" (.ref gp) [])):=AE;refine y3 {hb,T.cl,T.nG,by decide,by decide,?_}
 have s1:SameBut _ H (upd H b<|.ins (HF a) dx (BP "ground" (.ref gp) [])):=λx o e n=>by rw[AG n];exact e
 revert e1 s1;generalize upd H b _=H1;intro e1 s1 m hm
 have hmH:=s1.none (by rw[e1];intro z;cases z) hm
 have nbm:=BE e1 hm;refine y3 {by rw[AG nbm];exact e1,T.cl,T.nM,FN  (by decide),?_}
 have s2:SameBut _ H (upd (upd H1 m<|.lst []) b (.ins (HF a) dx (BP "made" (.ref m) (BP "ground" (.ref gp) [])))):=(s1.upd<|.inr hmH).upd (.inl rfl)
 have e2:upd (upd H1 m<|.lst []) b _ b=some (.ins (HF a) dx (BP "made" (.ref m) (BP "ground" (.ref gp) []))):=AE
 have m2:upd (upd H1 m<|.lst []) b (.ins (HF a) dx (BP "made" (.ref m) (BP "ground" (.ref gp) []))) m=some (.lst []):=by rw[AG nbm.symm,AE]
 revert s2 e2 m2;generalize upd _ b _=H2;intro s2 e2 m2
 have P2:PlankAt a H2 gp cl w rows n:=by
  obtain⟨⟨dx',f1⟩,⟨ts,f2,f3⟩,r1,r2,r3⟩:=P;exact{{_,s2 _ _ f1 (BD f1 hb (NV (by simp[pf])))},{ts,s2 _ _ f2 (BD f2 hb (by intro z;cases z)),Paired.mapP f3 λt r z=>s2 _ _ z (BD z hb (by intro z;cases z))},r1,r2,r3}
 obtain⟨dp,hp⟩:=P2.ob;refine y2 {hp,LI _ _ _ (by decide) (by decide) (by decide),x5 gp cl w _ n {rfl,TP,P2,i0,by have:=P.sz;lia,?_}};rw[az];refine LA (CJ _<|oA P.sz rfl) (λi ys H'=>Same H2 H'/\∃ ls:List _,ys=ls.map V.ref/\ls.Nodup/\∀ l∈ls,H' l=some (.lst [])/\H2 l=none) {Same.refl _,[],rfl,mj,by simp} (λi ys H' hi hl hzz=>?_) (λys H' hl hzz mi HP=>?_);obtain⟨s,ls,ey,nd,al⟩:=hzz;refine{by decide,λl hl'=>{s.trans<|AL hl',ls++[l],by rw[ey,χ];rfl,(gi.mpr {nd,by simp,λx hx y hy e=>by rw[ρ]at hy;subst hy e;rw[(al _ hx).1]at hl';cases hl'}),λx hx=>?_}};rcases ao.mp hx with hx|hx
 exact{AL hl' _ _ (al x hx).1,(al x hx).2};rw[ρ.mp hx];exact{AE,s.free hl'};obtain⟨s,ls,ey,nd,al⟩:=hzz
 have s3:SameBut (· =b) H (upd H' mi<|.lst ys):=by
  intro x o e nx
  have e':=s _ _<|s2 _ _ e nx;rw[AG (BE e' HP)];exact e'
 have e3:upd H' mi (.lst ys) b=some (.ins (HF a) dx (BP "made" (.ref m) (BP "ground" (.ref gp) []))):=by rw[AG (BE (s _ _ e2) HP)];exact s _ _ e2
 have m3:upd H' mi (.lst ys) m=some (.lst []):=by rw[AG (BE (s _ _ m2) HP)];exact s _ _ m2
 have i3:upd H' mi (.lst ys) mi=some (.lst<|ls.map V.ref):=by rw[AE,ey]
 have l3:∀ l∈ls,upd H' mi (.lst ys) l=some _/\H l=none/\l≠mi/\l≠m:=λl hl'=>by
  have z:=al l hl'
  have n1:=BE z.1 HP;exact{by rw[AG n1];exact z.1,s2.none (by rw[e2];intro z;cases z) z.2,n1,λy=>by rw[y,m2]at z;cases z.2}
 have hmiH:=s2.none (by rw[e2];intro z;cases z) (s.free HP);revert s3 e3 m3 i3 l3;generalize upd H' mi _=H3;refine λs3 e3 m3 i3 l3=>y3 {e3,T.cl,T.nI,FN  (FN  (by decide)),λlt A0=>?_}
 have nb4:=BE AE A0;rw[AG nb4.symm]at A0;refine y3 {by rw[AG nb4,AE],T.cl,T.nL,FN  (FN  (FN  (by decide))),λou D4=>?_}
 have nb5:=BE AE D4;rw[AG nb5.symm]at D4
 have nl5:=BE AE D4;rw[AG nl5.symm,AG nb5.symm]at D4;refine y3 {by rw[AG nb5,AE],T.cl,T.nO,FN  (FN  (FN  (FN  (by decide)))),?_};rw[zgn];generalize eH:upd _ b _=H5
 have kp:∀ x,x≠b->x≠lt->x≠ou->H5 x=H3 x:=λx n1 n2 n3=>by rw[<-eH,AG n1,AG n3,AG n1,AG n2,AG n1]
 have kk:∀ x o,H3 x=some o->x≠b->H5 x=some o:=λx o e n1=>by rw[kp x n1 (BE e A0) (BE e D4)];exact e
 have s5:=λx o e n1=>kk x o (s3 _ _ e n1) n1
 have nbx:∀ x xs,H3 x=some (.lst xs)->x≠b:=λx xs e=>BD e e3 (by intro z;cases z);refine q m mi lt ou ls H5 hmH hmiH (s3.none (by rw[e3];intro z;cases z) A0) (s3.none (by rw[e3];intro z;cases z) D4) (λl hl'=>(l3 l hl').2.1) {{{dx,by rw[<-eH,AE]},{[],kk _ _ m3<|nbx _ _ m3,.nil},kk _ _ i3<|nbx _ _ i3,λi l e=>?_,nd,{[],?_,λi j=>rfl,υ _},{[],(by rw[<-eH,AG nb5.symm,AE]),λk=>rfl,mj,by simp},by simp,by simp,by simp,{(BE (s _ _ m2) HP),(λz=>(l3 _ z).2.2.2 rfl),(λz=>(l3 _ z).2.2.1 rfl),?_,?_,?_},by simp},?_,(by rw[<-hl,ey,ζ])} s5
 have z:=l3 l<|η e;exact kk _ _ z.1<|nbx _ _ z.1;rw[<-eH,AG nb4.symm,AG nl5,AG nb4.symm,AE];obtain⟨ts,z,v⟩:=P.ls;exact BE z hmH;obtain⟨ts,z,v⟩:=P.ls;exact BE z hmiH;obtain⟨ts,z,v⟩:=P.ls;exact λy=>by rw[(l3 _ y).2.1]at z;cases z
 obtain⟨⟨dx',f1⟩,⟨ts,f2,f3⟩,r1,r2,r3⟩:=P;exact{{_,s5 _ _ f1 (BD f1 hb (NV (by simp[pf])))},{ts,s5 _ _ f2 (BD f2 hb (by intro z;cases z)),Paired.mapP f3 λt r z=>s5 _ _ z (BD z hb (by intro z;cases z))},r1,r2,r3}
def zru:QZ K a vs H Q E->vs.length=2:=by
 apply u7;rintro z z z z z z z ⟨rfl,z⟩
 rfl
example:(zrv,UH,VG,2):=by
 apply u3;rintro nl ns o ⟨rfl,hs,hl,q⟩;cases o with
 |none =>
  push_cast[VG,↓rE_,↓rF_];refine{ns,hs,oC hl rfl,λx o D ks hx hD r m l=>{_,.inl {SqL.of AE,λt ht=>q t ks _ (((AL hx).trans (AL hD)).trans (AL ht)) AE r (λy=>?_) (da l)}}};rw[m y];simp
 |some k =>
  push_cast[VG,↓rF_,↓rH_];refine{_,.inl hs,λl hl'=>{by decide,λp hp=>.inl ?_}}
  have s0:Same H (upd _ p<|.lst [.int k]):=(AL hl').trans (AL hp)
  have e1:upd (upd H l<|.lst<|ns.map V.int) p (.lst [.int k]) l=some (.lst<|ns.map V.int):=by rw[AG (BE AE hp),AE]
  have e2:upd (upd H l<|.lst<|ns.map V.int) p _ p=some (.lst [.int k]):=AE;revert s0 e1 e2;refine λs0 e1 e2=>x4 l p _ _ {rfl,rfl,e1,e2,CJ _ (by simp;exact oA hl rfl),λr hr=>{r,rfl,ns++[(k:Int)],?_,by simp;exact oG hl rfl,λx o D ks hx hD rs m ll=>{_,.inl {SqL.of AE,λt ht=>q t ks _ ((((s0.trans<|AL hr).trans (AL hx)).trans (AL hD)).trans (AL ht)) AE rs (λy=>?_) (by simpa using ll)}}}};rw[χ];exact SqL.of AE;rw[m y];simp
def zrw:UH K a vs H Q E->vs.length=2:=by
 apply u3;rintro z z z ⟨rfl,z⟩
 rfl
example:(zrx,UI,tJ,2):=by
 apply u9;rintro A w rows n cs outs pl i j ⟨rfl,T,TP,B,hp,q,qe⟩;obtain⟨dx,hb⟩:=B.bk.ob;obtain⟨dp,hg⟩:=B.pk.ob
 have ng:∀ {m:Str},¬ m="contents"->¬ m="width"->¬ m="written"->(pf A.cl w n).lookup m=none:=λh1 h2 h3=>LI _ _ _ h1 h2 h3;refine BB hp  rfl rfl ?_;push_cast[];split;rename_i h0;refine y3 {hb,T.cl,T.nG,_,QX,y2 {hg,ng (by decide) (by decide) (by decide),x5 _ _ w _ n {rfl,TP,B.pk,?_}}};push_cast[];split;exact{by decide,qe λz=>by lia};refine BB hp  rfl rfl ?_;push_cast[];split;rename_i h2;refine y3 {hb,T.cl,T.nG,_,QX,y2 {hg,ng (by decide) (by decide) (by decide),x5 _ _ w _ n {rfl,TP,B.pk,?_}}};push_cast[];split;exact{by decide,qe λz=>by lia};exact q {h0,by lia,h2,by lia};exact{by decide,qe λz=>by lia};exact{by decide,qe λz=>by lia}
def zry:UI K a vs H Q E->vs.length=2:=by
 apply u9;rintro z z z z z z z z z ⟨rfl,z⟩
 rfl
example:(zrz,Q0,vW,2):=by
 apply u9;rintro A w rows n cs outs pl i j ⟨rfl,T,TP,B,hp,q,qe⟩;obtain⟨dx,hb⟩:=B.bk.ob;obtain⟨kvs,hl,hv,z⟩:=B.bk.lat;refine y2 {hb,DV,x9 A w _ n cs _ pl i j {rfl,T,TP,B,hp,λh=>(y3 {hb,T.cl,T.nL,_,pL,.inr {_,.inl hl},_,dT2 hl hp,?_}),qe}};rw[hv]
 have:=q h;cases e:EC cs i j with
 |none=>rw[e]at this;exact this
 |some k=>rw[e]at this;exact this
def zr0:Q0 K a vs H Q E->vs.length=2:=by
 apply u9;rintro z z z z z z z z z ⟨rfl,z⟩
 rfl
def BookIn.len(B:BookIn C D H A w cs outs):∃ xs,H A.m=some (.lst xs)/\xs.length=cs.length:=by
 obtain⟨chs,e,p⟩:=B.made;exact{_,e,by rw[ζ,p.length]}
example:(zr1,UJ,rC,3):=by
 apply u8;rintro A w rows n cs outs nl ns ⟨rfl,T,B,hs,q,qe⟩;obtain⟨dx,hb⟩:=B.bk.ob;obtain⟨xs,hm,hml⟩:=B.bk.len;refine .inl {⟨_,hs⟩,(IC  (λi σ H'=>H'=H/\(∃ z,σ=[some _,some _,z])/\∀ x∈ns.take i,known cs x) {rfl,⟨_,rfl⟩,by simp} (by rintro i σ H' _ ⟨e,_⟩;exact e ▸ hs) (λi x σ H' hx hzz=>?_) (λσ H' hzz=>?_))};obtain⟨rfl,⟨z,rfl⟩,kn⟩:=hzz;rw[τ,au]at hx;obtain⟨x',hx',rfl⟩:=hx
 have bad:¬ known cs x'->1<=sizeLine/\E _ _ H':=λh=>{by decide,qe {x',η hx',h}}
 push_cast[↓qZ_,↓rA_];split;rename_i h0;refine y3 {hb,T.cl,T.nM,_,MM,_,.inl {_,SqL.of hm,hml.symm},?_};split;exact bad λz=>by lia
 intro y hy;rw[dz,hx']at hy;rcases ao.mp hy with hy|hy
 exact kn y hy;simp only[Option.toList_some,ρ]at hy;subst hy;exact{h0,by lia};exact bad λz=>by lia
 obtain⟨e,⟨z,ez⟩,kn⟩:=hzz;subst e;refine q λx hx=>kn x ?_;rw[ζ,ce];exact hx
def zr2:UJ K a vs H Q E->vs.length=2:=by
 apply u8;rintro z z z z z z z z ⟨rfl,z⟩
 rfl
example:(zr3,FV,wP,6):=by
 apply KS;rintro A w rows n cs outs pl nl v ns i j ⟨rfl,T,TP,B,hp,hs,hl,hc,q,q1,q2⟩;obtain⟨xs,hm,hml⟩:=B.bk.len;obtain⟨dx,hb⟩:=B.bk.ob;refine y2 {hb,DV,x9 A w _ n cs outs pl i j {rfl,T,TP,B,hp,λhon=>(y2 {hb,DV,x8 A w rows n cs outs nl ns {rfl,T,B,hs,λhkn=>(y3 {hb,T.cl,T.nM,_,MM,cs.length,.inl {_,SqL.of hm,hml.symm},(y3 {hb,T.cl,T.nM,_,MM,.inl {rfl,_,SqL.of hm},x3 nl ns (EC cs i j) {rfl,hs,hl,λt ks H1 s1 et kr km kl=>(λx dy hx hdy ndy=>x5 x dy pl v t {rfl,T,AE,rfl,?_})}})}),q2 hon}}),q1}};rw[HR]
 have s2:Same H1 (upd (upd H1 dy<|.own x) x (.ins (a "Change") dy (GI pl v t))):=(AL hdy).trans (AL (by rw[AG ndy.symm];exact hx))
 have ex:upd (upd H1 dy<|.own x) x (.ins (a "Change") dy (GI pl v t)) x=some (.ins (a "Change") dy (GI pl v t)):=AE;revert s2 ex;generalize upd (upd H1 dy<|.own x) x (.ins (a "Change") dy (GI pl v t))=H2;intro s2 ex
 have s:=s1.trans s2;replace et:=s2 _ _ et;obtain⟨chs,hm',pch⟩:=B.bk.made
 have HP:=B.bk.mil;obtain⟨kvs,A0,hv,OO⟩:=B.bk.lat;obtain⟨i0,i1,j0,j1⟩:=hon;obtain⟨DS,D4,hvo,hko⟩:=B.bk.out;obtain⟨j',rfl⟩:∃ j':Nat,j=j':={j.toNat,(ic j0).symm}
 obtain⟨i',rfl⟩:∃ i':Nat,i=i':={i.toNat,(ic i0).symm}
 have hil:i'<A.ls.length:=by rw[B.nb];exact d_.mp i1
 have el:=θ hil
 have hll:=B.bk.mic i' _ el
 have hmem:=r_ hil;revert el hll hmem;generalize A.ls[i']=l;intro el hll hmem
 have ap:=B.bk.ap
 have nml:A.m≠l:=λz=>ap.2.1<|z ▸ hmem
 have ncl:A.cl≠l:=λz=>ap.2.2.2.2.2<|z ▸ hmem
 have klt:∀ {y:Addr} {o:HO},H2 y=some o->(∀ k,o≠.dT k)->y≠A.lt:=λe h=>BD e (s _ _ A0) (h _)
 have km':∀ {y:Addr} {o:HO},H2 y=some o->(∀ k,o≠.lst k)->y≠A.m:=λe h=>BD e (s _ _ hm') (h _)
 have kll:∀ {y:Addr} {o:HO},H2 y=some o->(∀ k,o≠.lst k)->y≠l:=λe h=>BD e (s _ _ hll) (h _)
 have hb2:=s _ _ hb
 have JW:=s _ _ hp;refine{_,s _ _ hm',aa (show(chs.map V.ref).length<1000 by rw[ζ];exact oD (cr (bt pch.length) hc) rfl) (by decide),?_}
 have bb:=km' hb2 (by intro k z;cases z)
 have bl:=kll hb2 (by intro k z;cases z)
 have pm:=km' JW (by intro k z;cases z)
 have pl':=kll JW (by intro k z;cases z)
 have mt:=klt (s _ _ hm') (by intro k z;cases z)
 have lt':=klt (s _ _ hll) (by intro k z;cases z)
 have bln:=pJ cs i';refine y3 {by rw[AG bb];exact hb2,T.cl,T.nI,_,YT,BB (by rw[AG pm];exact JW) (n:=0) rfl rfl (CW (SqL.of (by rw[AG ap.1.symm];exact s _ _ HP)) (n:=i') (v:=.ref l) rfl (by rw[τ,el];rfl) {.inl {rfl,_,SqL.of (by rw[AG nml.symm];exact s _ _ hll)},{_,by rw[AG nml.symm];exact s _ _ hll,aa (show((C9 cs i').map λ(k:Nat)=>V.int k).length<1000 by rw[ζ];lia) (by decide),(y3 {by rw[AG bl,AG bb];exact hb2,T.cl,T.nL,_,pL,_,pT2 (by rw[AG lt'.symm,AG mt.symm];exact s _ _ A0) (by rw[AG pl',AG pm];exact JW) (oD (cr OO hc) rfl),?_})}})};generalize eH:upd (upd (upd H2 A.m _) l _) A.lt (.dT<|B0 kvs [.inl ↑i',.inl ↑j'] (.int ↑cs.length))=H5
 have kp:∀ y,y≠A.m->y≠l->y≠A.lt->H5 y=H2 y:=λy n1 n2 n3=>by rw[<-eH,AG n3,AG n2,AG n1]
 have s5:SameBut (λy=>y=A.m\/y=l\/y=A.lt) H H5:=λy o e ny=>by
  rw[kp y (λz=>ny<|.inl z) (λz=>ny<|.inr<|.inl z) (λz=>ny<|.inr<|.inr z)];exact s _ _ e
 have lo:∀ y,(y=A.m\/y=l\/y=A.lt)->ER (H y):=by
  rintro y (z|z|z)
  ·exact B.loose<|.inl z
  ·exact B.loose<|.inr<|.inr<|.inl<|z ▸ hmem
  ·exact B.loose<|.inr<|.inr<|.inr<|.inl z
 have hnd:∀ y∈ks,0<=y/\y<cs.length:=λy hy=>by
  rcases(km y).mp hy with h|⟨k,e,rfl⟩
  ·exact hkn y h
  ·exact{iM rfl,by have:=T7 e;exact d_.mpr this}
 refine q ⟨i0,i1,j0,j1⟩ hkn ks H5 kr km {{{dx,by rw[kp _ bb bl (klt hb2 (by intro k z;cases z))];exact hb2},{chs++[x],?_,Paired.snoc (Paired.mapP pch λy c h=>h.sb s5 lo) (x3 dy pl t {?_,?_,?_})},?_,λk l' e=>?_,B.bk.nd,{B0 kvs [.inl ↑i',.inl ↑j'] (.int ↑cs.length),(by rw[<-eH,AE]),λp q=>?_,?_},{DS,?_,hvo,(hko.mono (by simp))},?_,λc hc'=>?_,λk c e=>?_,ap,λk c e j ej=>?_},B.pk.sbL s5 lo ?_,B.nb} (s5.wide λy z=>?_);rw[<-eH,AG mt,AG nml,AE,χ];rfl;rw[kp x (km' ex (by intro k z;cases z)) (kll ex (by intro k z;cases z)) (klt ex (by intro k z;cases z))];exact ex
 ·rw[kp pl pm pl' (klt JW (by intro k z;cases z))];exact JW
 rw[kp t (km' et (by intro k z;cases z)) (kll et (by intro k z;cases z)) (klt et (by intro k z;cases z))];exact et;rw[kp _ ap.1.symm (λz=>ap.2.2.1<|z ▸ hmem) (klt (s _ _ HP) (by intro k z;cases z))];exact s _ _ HP;rw[zgj];by_cases z:l'=l;subst z
 have ek:k=i':=by
  obtain⟨h1,h2⟩:=ε.mp e;obtain⟨h3,h4⟩:=ε.mp el;exact(Ja B.bk.nd).mp (h2.trans h4.symm)
 subst ek;rw[<-eH,AG lt',AE];simp
 have nk:¬ i'=k:=λy=>by subst y;rw[el]at e;cases e;exact z rfl
 have hl':=B.bk.mic k l' e;rw[kp l' (λy=>ap.2.1<|y ▸ η e) z (klt (s _ _ hl') (by intro k z;cases z))];simp only[az,if_neg nk];exact s _ _ hl';rw[K0,YO];by_cases z:p=i'/\q=j';obtain⟨rfl,rfl⟩:=z;simp;rw[if_neg (λy=>z (by simpa using y)),if_neg<|λy=>z ⟨y.1.symm,y.2.symm⟩];exact hv p q
 have:=K1 kvs [.inl ↑i',.inl ↑j'] (.int ↑cs.length);simp;lia;rw[kp _ (km' (s _ _ D4) (by intro k z;cases z)) (kll (s _ _ D4) (by intro k z;cases z)) (klt (s _ _ D4) (by intro k z;cases z))];exact s _ _ D4;simp;exact f_ hc;rcases ao.mp hc' with h|h
 exact B.bk.inn c h;rw[ρ.mp h];exact{by rw[az];exact hil,(show(j':Int).toNat<w by exact d_.mp j1)};rcases fe k cs.length with h|h
 rw[ba h]at e;exact B.bk.need k c e;rw[ci h]at e
 have:k-cs.length=0:=by
  rcases nr (k-cs.length)with z|z
  ·exact z
  ·rw[bq (by simp;exact z)]at e;cases e
 rw[this]at e;cases e;exact{λy hy=>{(hnd y hy).1,by have:=(hnd y hy).2;lia},kr,(show ks.length<=100 by lia)};rcases fe k cs.length with h|h
 rw[ba h]at e;rw[List.take_append_of_le_length (by exact jz h)]at ej;exact B.bk.chn k c e j ej;rw[ci h]at e
 have:k-cs.length=0:=by
  rcases nr (k-cs.length)with z|z
  ·exact z
  ·rw[bq (by simp;exact z)]at e;cases e
 have hk:k=cs.length:=by lia
 subst hk;rw[this]at e;cases e;exact(km _).mpr (.inr {j,by simpa using ej,rfl});rintro (z|z|z);exact ap.2.2.2.1 z;exact ncl z;obtain⟨ts,e,u⟩:=B.pk.ls;exact klt (s _ _ e) (by intro k z;cases z) z;rcases z with z|z|z
 exact .inl z;exact .inr<|.inr<|.inl<|z ▸ hmem;exact .inr<|.inr<|.inr<|.inl z
def zr4:FV K a vs H Q E->vs.length=4:=by
 apply KS;rintro z z z z z z z z z z z z ⟨rfl,z⟩
 rfl
def BookIn.at{C D:Addr}{A:BA}{w:Nat}{cs:Rr}{outs:Tu}{H:Hp}(B:BookIn C D H A w cs outs){k:Nat}{c:Ch}(e:cs[k]? =some c):∃ xs x,H A.m=some (.lst xs)/\xs[k]? =some (.ref x)/\ChAt D H x c:=by
 obtain⟨chs,h,p⟩:=B.made;obtain⟨x,ex,hx⟩:=GS p e;exact x2 _ x {h,by rw[τ,ex];rfl,hx}
def zr5{Q:Addr->Hp->Prop}{E:XK}(T:TB K a)(TP:DH K a)(P:PlankAt a H1 gp cl w rows n)
  (q:∀ (A:BA) (H2:Hp),A.gp=gp->A.cl=cl->(∀ x o,H1 x=some o->x=cl\/¬ A.F x)->EF a H2 A w rows n [] (λ_=>false)->Same H1 H2->Q A.b H2) :
  ∀ x dx,H1 x=none->H1 dx=none->dx≠x->QZ K a [.ref x,.ref gp] (upd (upd H1 dx<|.own x) x (.ins (HF a) dx [])) (λv H2=>v=.non/\Q x H2) E:=λb db hb hdb ndb=>by
 have s0:Same H1 (upd (upd H1 db<|.own b) b (.ins (HF a) db [])):=(AL hdb).trans (AL (by rw[AG ndb.symm];exact hb));refine x7 b gp cl db w _ n {rfl,T,TP,P.same s0,AE,λm mi lt ou ls H4 hm HP A0 D4 hls B4 sb4=>{rfl,(q _ H4 rfl rfl (λx o e=>?_) B4 λy o e=>sb4 _ _ (s0 _ _ e) (BE e hb))}};by_cases z:x=cl;exact .inl z;refine .inr ?_
 have e':=s0 _ _ e;rintro (y|y|y|y|y|y);rw[y,hm]at e';cases e';rw[y,HP]at e';cases e';rw[hls x y]at e';cases e';rw[y,A0]at e';cases e';rw[y,D4]at e';cases e';exact z y
example:(zr6,MR,wQ,3):=by
 apply u9;rintro A w rows n cs outs pl i j ⟨rfl,T,TP,B,hp,q,qe⟩;obtain⟨dx,hb⟩:=B.bk.ob;obtain⟨dp,hg⟩:=B.pk.ob;refine y2 {hb,DV,x9 A w _ n cs _ pl i j {rfl,T,TP,B,hp,λh=>?_,qe}}
 have q:=q h;unfold ET at q;cases e:EC cs i j with
 |none =>
  rw[e]at q;refine y3 {hb,T.cl,T.nG,_,QX,y2 {hg,RL _ _ _,BB hp  rfl rfl (x6 _ _ w _ n i {rfl,TP,B.pk,λb' row eb er vl hvl=>?_,λz=>absurd h λy=>by lia})}};subst eb
  have s1:=AL (o:=.lst row) hvl;refine BB (s1 _ _ hp)  rfl rfl ?_
  have rl:=B.pk.wd _<|η er
  have hj:j.toNat<row.length:=by omega
  have ej:=θ hj;refine CW (SqL.of AE)   (by omega) ej (q _ _ ?_ s1);rw[show((b':Int)).toNat=b' from rfl,er];exact ej
 |some k =>
  rw[e]at q;obtain⟨chs,hm,pc⟩:=B.bk.made
  have ec:=θ<|T7 e;obtain⟨x,ex,dx',p1,n1,h1,h2,h3⟩:=GS pc ec;refine y3 {hb,T.cl,T.nM,_,MM,CW (SqL.of hm)  (v:=.ref x) rfl (by rw[τ,ex];rfl) (y3 {h1,T.cc,T.nV,_,pK,q _ _ ?_<|Same.refl _})}
  show(cs[k]?).map _=_;rw[ec]
  rfl
def zr7:MR K a vs H Q E->vs.length=2:=by
 apply u9;rintro z z z z z z z z z ⟨rfl,z⟩
 rfl
example:(zr8,UK,rJ,4):=by
 apply OT;rintro A w rows n cs outs k c g kvg ⟨rfl,T,B,ec,hg,q⟩;obtain⟨dx,hb⟩:=B.bk.ob;refine u2 ?_<|B.bk.at ec;rintro xs cx ⟨hm,ex,DO⟩;revert DO;apply u3;rintro dc pl nt ⟨hc1,hc2,hc3⟩;obtain⟨DS,ho,hv,v⟩:=B.bk.out;refine y3 {hb,T.cl,T.nM,_,MM,CW (SqL.of hm) rfl ex (y3 {hc1,T.cc,T.nN,_,zgl,.inr {{_,SqT.of hc3},(Yx  (λi σ H'=>H'=H/\(∀ x∈c.nd.take i,(outs x||EG kvg x)=true)/\∃ z,σ=[some _,some _,some _,z]) {rfl,by simp,_,rfl} (by rintro i σ H' v ⟨e,v⟩;exact e ▸ SqT.of hc3) (λi x σ H' hx hzz=>?_) (λσ H' hzz=>?_))}})};obtain⟨rfl,al,z,rfl⟩:=hzz;rw[τ,au]at hx;obtain⟨y,hy,rfl⟩:=hx
 have step:(outs y||EG _ y)=true->∀ x∈c.nd.take _,(outs x||EG _ x)=true:=λh x hx=>by
  rw[dz,hy]at hx;rcases ao.mp hx with hx|hx
  exact al x hx
  have:x=y:=by simpa using hx
  exact this ▸ h
 refine y3 {hb,T.cl,T.nO,_,T8,_,dI ho,?_};rw[hv];cases h1:outs y with
 |true =>
  push_cast[];exact step (by rw[h1];rfl)
 | false =>
  refine{_,dI hg,?_};cases h2:(BF kvg _).isSome with
  |true =>
   push_cast[];exact step (by show(outs y||(BF kvg _).isSome)=true;rw[h2];simp)
  |false =>
   have e:NW c.nd (λx=>outs x||EG kvg x)=some y:=by
    obtain⟨hi,e⟩:=ε.mp hy;unfold NW;rw[mz];refine{by show(!(outs y||(BF kvg _).isSome))=true;rw[h1,h2];rfl,x2 _ (c.nd.drop<|i+1) {?_,λx hx=>by show(!!(outs x||EG _ x))=true;rw[al x hx];rfl}};rw[<-e,<-sr hi,ku]
   rw[e]at q;exact q
 obtain⟨e,al,z,ez⟩:=hzz;subst e;rw[ζ,ce]at al
 have e:NW _ (λx=>outs x||EG _ x)=none:=ko.mpr λx hx=>by show ¬ (!(outs x||EG _ x))=true;rw[al x hx];exact bc
 rw[e]at q;exact q
def zr9:UK K a vs H Q E->vs.length=3:=by
 apply OT;rintro z z z z z z z z z z ⟨rfl,z⟩
 rfl
def zsa(s:Pass)(m:Nat)(H1 H':Hp)(g ol hl:Addr):Prop:=∃ (kvg:tZ) (hs:Uu),SameBut (λy=>y=g\/y=ol\/y=hl) H1 H'/\H' g=some (.dK kvg)/\(∀ x:Int,EG kvg x=s.gone x)/\kvg.length<=m/\H' ol=some (.lst<|s.out.map λ(k:Nat)=>V.int k) /\
 H' hl=some (.lst<|hs.map V.ref)/\Paired (λx (p:Nat × Int)=>H' x=some (.tup [.int p.1,.int p.2])) hs s.held
def zW(kvs:tZ)(k x:Int)(v:V):EG (B0 kvs (.inl k) v) x=(EG kvs x||x==k):=by
 unfold EG;rw[K0];by_cases e:x=k;subst e;simp;simp[e]
example:(zsb,UL,Z8,8):=by
 apply u9;rintro A w rows n cs outs b tk kvt ⟨rfl,T,B,hbl,htk,hkt,q⟩;obtain⟨dx,hb⟩:=B.bk.ob;push_cast[Z8,↓tK_,↓tM_,↓tO_];refine{_,htk,λg hg=>{by decide,λol hol=>{by decide,λhl hhl=>?_}}}
 have ngo:=BE AE hol
 have s1:Same H (upd _ hl<|.lst []):=((AL hg).trans (AL hol)).trans (AL hhl)
 have nol:=BE AE hhl
 have ngl:=BE (by rw[AG ngo];exact AE) hhl
 have eg:upd (upd (upd H g<|.dK kvt) ol (.lst [])) hl (.lst []) g=some (.dK kvt):=by rw[AG ngl,AG ngo,AE]
 have eo:upd (upd (upd H g<|.dK kvt) ol (.lst [])) hl (.lst []) ol=some (.lst []):=by rw[AG nol,AE]
 have el:upd (upd (upd H g<|.dK kvt) ol (.lst [])) hl _ hl=some (.lst []):=AE
 have holH:=(AL hg).free hol
 have hhlH:=((AL hg).trans (AL hol)).free hhl;revert s1 eg eo el;generalize upd _ hl _=H1;intro s1 eg eo el
 have hil:b<A.ls.length:=by rw[B.nb];exact hbl
 have ell:=θ hil
 have hll:=B.bk.mic b _ ell;revert ell hll;generalize A.ls[b]=l
 have bln:=pJ cs b;refine λell hll=>y3 {s1 _ _ hb,T.cl,T.nI,_,YT,CW (SqL.of<|s1 _ _ B.bk.mil)  (v:=.ref l) rfl (by rw[τ,ell];rfl) (.inl {{_,SqL.of<|s1 _ _ hll},?_})}
 have sz:=B.bk.sz
 have G:∀ {H':Hp},SameBut (λy=>y=g\/y=ol\/y=hl) H1 H'->Same H H':=λsb y o e=>sb _ _ (s1 _ _ e) (by
  rintro (z|z|z);rw[z,hg]at e;cases e;rw[z,holH]at e;cases e;rw[z,hhlH]at e;cases e)
 refine IC  (λi σ H'=>zsa (((C9 cs b).take i).foldl (DW cs outs) {[],[],EG _}) (1000+i) H1 H' g ol hl/\∃ z1 z2,σ=[some _,some _,some _,some _,some _,some _,z1,z2])
  {x2 _ [] {SameBut.refl _,eg,λu=>rfl,hkt,eo,el,.nil},_,_,rfl} (by rintro i σ H' u ⟨⟨kvg,hs,sb,u⟩,u⟩;exact SqL.of<|G sb _ _ hll) (λi x σ H' hx hzz=>?_) (λσ H' hzz=>?_)
 have hi:=(ε.mp hx).1;obtain⟨iv,z1,z2,rfl⟩:=hzz;rw[ζ]at hi;rw[τ,au]at hx;obtain⟨k,hk,rfl⟩:=hx
 have hkc:=YS<|η hk
 have ec:=θ hkc;revert ec;generalize cs[k]=c
 have hszs:=pO (cs:=cs) (outs:=outs) ((C9 cs b).take i) {[],[],EG kvt}
 have es:=pP (DW cs outs) {[],[],EG kvt} hk;intro ec;revert iv hszs es;generalize ((C9 cs b).take i).foldl (DW cs _) _=s;generalize ((C9 cs b).take _).foldl (DW cs _) _=s';intro iv hszs es;revert iv;apply u2;rintro kvg hs ⟨sb,e1,e2,e3,e4,e5,e6⟩;simp only[uh,de]at hszs
 have sH:=G sb;obtain⟨DS,ho,hv,u⟩:=B.bk.out;push_cast[↓tQ_,↓tS_,↓tU_,↓tW_,↓tY_,↓t3_];refine y3 {sH _ _ hb,T.cl,T.nO,_,T8,_,dI<|sH _ _ ho,?_};rw[hv];unfold DW at es;cases h1:outs k with
 |true =>
  rw[h1,xc,if_pos rfl]at es;rw[es];exact x2 _ hs {sb,e1,e2,da e3,e4,e5,e6}
 | false =>
  rw[h1,Ot]at es
  have e2k:(BF kvg _).isSome=s.gone k:=e2 k;refine{_,dI e1,?_};rw[e2k];cases h2:s.gone k with
  |true =>
   rw[h2]at es;rw[es];exact x2 kvg hs {sb,e1,e2,da e3,e4,e5,e6}
  | false =>
   rw[h2,if_neg bc,ec]at es;refine y2 {sH _ _ hb,DV,R9 A w _ n cs _ k c g _ {rfl,T,(B.same sH),ec,e1,?_}}
   have efn:(λx=>outs x||EG kvg x)=λx=>outs x||s.gone x:=by funext x;rw[e2]
   rw[efn];simp only[Option.bind_some]at es;cases h3:NW _ (λx=>outs x||s.gone x)with
   |none =>
    rw[h3]at es;dsimp only [Y2];refine{_,pI e1 (by lia),.inl {rfl,_,SqL.of (by rw[AG ngo.symm];exact e4)},{_,by rw[AG ngo.symm];exact e4,aa (show(s.out.map λ(k:Nat)=>V.int k).length<1000 by rw[ζ];lia) (by decide),?_}};rw[es];refine x2 _ hs {?_,by rw[AG ngo,AE],λx=>by rw[zW,e2],?_,by rw[AE,χ];rfl,by rw[AG nol.symm,AG ngl.symm];exact e5,Paired.mapP e6 λx p e=>?_};intro y o e ny;rw[AG λz=>ny<|.inr<|.inl z,AG λz=>ny<|.inl z];exact sb _ _ e ny
    have:=K1 kvg (.inl (k:Int)) (.bl true)
    lia
    rw[AG (BD e e4 (by intro z;cases z)),AG (BD e e1 (by intro z;cases z))];exact e
   |some l' =>
    rw[h3]at es;dsimp only at es;dsimp only [Y2];rw[if_neg (by intro z;cases z)];refine{.inl {rfl,_,SqL.of e5},by decide,λtp htp=>?_}
    have ntl:hl≠tp:=BE e5 htp;refine{_,by rw[AG ntl];exact e5,aa (show(hs.map V.ref).length<1000 by rw[ζ,e6.length];lia) (by decide),?_};rw[es]
    have s2:=AL (o:=.tup [.int (k:Int),.int l']) htp
    have kp:∀ y,y≠hl->y≠tp->upd (upd H' tp<|.tup [.int (k:Int),.int l']) hl (.lst<|hs.map V.ref++[.ref tp]) y=H' y:=λy n1 n2=>by rw[AG n1,AG n2]
    refine x2 kvg (hs++[tp]) {?_,by rw[kp g ngl (BE e1 htp)];exact e1,e2,da e3,by rw[kp ol nol (BE e4 htp)];exact e4,by rw[AE,χ];rfl,Paired.snoc (Paired.mapP e6 λx p e=>?_) ?_}
    ·intro y o e ny
     have e':=sb _ _ e ny;rw[kp y (λz=>ny<|.inr<|.inr z) (BE e' htp)];exact e'
    ·rw[kp x (BD e e5 (by intro z;cases z)) (BE e htp)];exact e
    ·rw[AG ntl.symm,AE]
 obtain⟨iv,z1,z2,rfl⟩:=hzz;rw[ζ,ce]at iv;push_cast[↓tK_,↓tM_,↓tO_,↓tQ_,↓tS_,↓tU_,↓tW_,↓tY_,↓t3_,↓t7_,↓t8_];revert iv;apply u2;rintro kvg hs ⟨sb,e1,e2,e3,e4,e5,e6⟩;refine{by decide,λt ht=>?_}
 have s2:=AL (o:=.tup [.ref ol,.ref hl]) ht;exact q t ol hl _ holH hhlH nol ((G sb).trans s2) {AE,s2 _ _ e4,hs,s2 _ _ e5,Paired.mapP e6 λx p e=>s2 _ _ e}
def zsc:UL K a vs H Q E->vs.length=3:=by
 apply u9;rintro z z z z z z z z z ⟨rfl,z⟩
 rfl
example:(zsd,UM,rO,5):=by
 apply u9;rintro A w rows n cs outs b vl row ⟨rfl,T,B,hbl,hvl,FZ,q⟩;obtain⟨dx,hb⟩:=B.bk.ob;obtain⟨DS,ho,hv,z⟩:=B.bk.out;refine{_,.inl<|SqL.of hvl,λla hla=>?_}
 have s1:=AL (o:=.lst row) hla
 have hil:b<A.ls.length:=by rw[B.nb];exact hbl
 have ell:=θ hil
 have hll:=B.bk.mic b _ ell;revert ell hll;generalize A.ls[b]=l
 have sk:∀ o,Same H (upd H la o):=λo=>AL hla;refine λell hll=>y3 {s1 _ _ hb,T.cl,T.nI,_,YT,CW (SqL.of<|s1 _ _ B.bk.mil)  (v:=.ref l) rfl (by rw[τ,ell];rfl) (.inl {{_,SqL.of<|s1 _ _ hll},?_})};refine IC  (λi σ H'=>H'=upd H la (.lst<|((C9 cs b).take i).foldl (HC cs outs) row)/\∃ z1,σ=[some _,some _,some _,some _,z1])
  ⟨rfl,_,rfl⟩ (by rintro i σ H' z ⟨e,z⟩;rw[e];exact SqL.of<|sk _ _ _ hll) (λi x σ H' hx hzz=>?_) (λσ H' hzz=>?_)
 obtain⟨rfl,z1,rfl⟩:=hzz;rw[τ,au]at hx;obtain⟨k,hk,rfl⟩:=hx
 have hkc:=YS<|η hk
 have ec:=θ hkc;revert ec;generalize cs[k]=c
 have es:=pP (HC cs outs) row hk
 have B9:=YU (cs:=cs) (outs:=outs) ((C9 cs b).take i) row;intro ec;revert es B9;generalize ((C9 cs b).take i).foldl _ row=r;generalize ((C9 cs b).take _).foldl _ _=r'
 have sH:=sk<|.lst r;intro es B9;push_cast[↓rM_,↓rN_];refine y3 {sH _ _ hb,T.cl,T.nO,_,T8,_,dI<|sH _ _ ho,?_};rw[hv];unfold HC at es;cases h1:outs k with
 |false =>
  rw[h1,if_neg bc]at es;push_cast[];rw[es]
 |true =>
  rw[h1,if_pos rfl,ec]at es;refine u2 ?_<|(B.same sH).bk.at ec;rintro xs cx ⟨hm,ex,dc,pl,nt,hc1,hc2,hc3⟩
  have hcell:=(B.bk.inn c<|η ec).2;refine y3 {sH _ _ hb,T.cl,T.nM,_,MM,CW (SqL.of hm) rfl ex (y3 {hc1,T.cc,T.nV,_,pK,(y3 {sH _ _ hb,T.cl,T.nM,_,MM,CW (SqL.of hm) rfl ex (y3 {hc1,T.cc,T.nP,_,zgk,BB hc2  rfl rfl (x4 la r _ _ {rfl,rfl,AE,?_,(by rw[HR,es])})})})})};unfold HX;rw[if_pos (i0),if_pos (by lia),az]
 obtain⟨rfl,z1,rfl⟩:=hzz;rw[ζ,ce];exact q la _ hla (sk _) AE
def zse:UM K a vs H Q E->vs.length=3:=by
 apply u9;rintro z z z z z z z z z ⟨rfl,z⟩
 rfl
example:(zsf,UN,vY,5):=by
 apply u7;rintro A w rows n cs outs b ⟨rfl,T,TP,B,q,qe⟩;obtain⟨dp,hg⟩:=B.pk.ob;obtain⟨dx,hb⟩:=B.bk.ob;refine y3 {hb,T.cl,T.nG,_,QX,y2 {hg,RL _ _ _,x6 _ _ w _ n b {rfl,TP,B.pk,λb' row eb er vl hvl=>?_,qe}}};subst eb;obtain⟨H1,zz0,s1,ev⟩:=D0  hvl
 have hbl:=(ε.mp er).1;rw[zz0];refine y2 {s1 _ _ hb,DV,λe0 he0=>?_}
 have s2:=s1.trans<|AL (o:=.dK []) he0;refine x9 A w _ n cs _ b' e0 [] {rfl,T,B.same s2,hbl,AE,by simp,λt ol hl H3 hol hhl nol s3 told=>?_}
 have FY:=s2.trans s3
 have ev3:=s3 _ _<|AL he0 _ _ ev
 have holH:=s2.free hol
 have hasnil:(EG<|[])=λv=>false:=rfl
 have hhlH:=s2.free hhl;rw[hasnil]at told;obtain⟨ht,ho3,hs,hh3,hpr⟩:=told;obtain⟨rise,fresh,v⟩:=YW (cs:=cs) (outs:=outs) (b:=b')
 have eW:HD cs _ b'=λx=>outs x||(outcome cs _ (λv=>false) b').out.any _:=rfl
 replace q:=λH' a1 a2 a3=>q b' _ t ol hl H' rfl er holH hhlH nol a1 a2 a3;revert ho3 hpr rise fresh eW q;generalize outcome cs _ (λv=>false) b'=oc;generalize HD cs _ b'=ow;refine λho3 hpr rise fresh eW q=>BB ht  rfl rfl (.inl {{_,SqL.of ho3},?_});obtain⟨DS,D4,hvo,hko⟩:=B.bk.out
 have hou3:=FY _ _ D4
 have fO:=B.off holH
 have nou:=λz=>fO<|.inr<|.inr<|.inr<|.inr<|.inl z;refine IC  (λi σ H'=>(∃ kv,H'=upd H3 A.ou (.dK kv)/\(∀ x:Int,(BF kv<|.inl x).isSome=(outs x||(oc.out.take i).any λk=>x==k))/\KeysOk kv _)/\∃ z1,σ=[some _,some _,some _,some _,z1])
  {{_,?_,λx=>by rw[hvo];simp,hko},_,rfl} (by rintro i σ H' v ⟨⟨kv,e,v⟩,v⟩;rw[e];exact SqL.of (by rw[AG nou];exact ho3)) (λi x σ H' hx hzz=>?_) (λσ H' hzz=>?_)
 funext y;by_cases e:y=A.ou;subst e;rw[AE];exact hou3;rw[AG e];obtain⟨⟨kv,rfl,hv,hk⟩,z1,rfl⟩:=hzz;rw[τ,au]at hx;obtain⟨k,ek,rfl⟩:=hx
 have hkm:=η ek
 have hnone:BF kv (.inl k)=none:=by
  have:=hv k;rw[(fresh k hkm).1]at this
  have z:(oc.out.take i).any (λj=>k ==(j:Int))=false:=by
   rw[uy];intro j hj;obtain⟨m,hm,e⟩:=jy hj;rw[de]at hm;rw[Ii]at e;obtain⟨hi,e2⟩:=ε.mp ek
   have:=yd.mp rise m i (by lia) hi (by lia);rw[e,e2]at this;simp;exact λz=>g_ this<|cw z
  rw[z]at this;exact Option.isSome_eq_false_iff.mp this |> yf.mp
 have hb3:upd H3 A.ou (.dK kv) A.b=some (.ins (HF a) dx (bf A.gp A.m A.mi A.lt A.ou)):=by
  rw[AG (BD (FY _ _ hb) hou3 (by intro z;cases z))];exact FY _ _ hb
 push_cast[↓vX_];refine y3 {hb3,T.cl,T.nO,_,T8,_,pI AE (by have:=B.bk.sz;have:=hk.len;lia),_,HR,λx=>?_,hk.put (YS (fresh k hkm).2) hnone _}
 have:=zW kv k x<|.bl true;unfold EG at this;rw[this,hv,dz,ek,zh];simp;obtain⟨⟨kv,rfl,hv,hk⟩,z1,rfl⟩:=hzz;rw[ζ,ce]at hv;replace hv:∀ x:Int,(BF kv _).isSome=ow x:=λx=>by rw[hv,eW]
 have kb:∀ {y:Addr} {o:HO},H y=some o->y≠A.ou->upd H3 _ (.dK kv) y=some o:=λe n=>by rw[AG n];exact FY _ _ e
 have sb4:SameBut _ H _:=λy o e n=>kb e n
 have B4:EF a (upd H3 A.ou<|.dK kv) A w rows n cs ow:=by
  have g:∀ x,x=A.ou->ER (H x):=λx e=>e ▸ (MO D4);obtain⟨⟨⟨dx',b1⟩,⟨chs,b2,b2'⟩,b3,b4,b5,⟨kvs,b6,b6'⟩,v,b8,b9,b10,b11,b12⟩,pk,nb⟩:=B;obtain⟨ts,pl1,pl2⟩:=pk.ls;refine{{{dx',kb b1 (BD b1 D4 (by intro z;cases z))},{chs,kb b2 (BD b2 D4 (by intro z;cases z)),Paired.mapP b2' λx c h=>h.sb sb4 g},kb b3 (BD b3 D4 (by intro z;cases z)),λi l e=>kb (b4 i l e) (BD (b4 i l e) D4 (by intro z;cases z)),b5,{kvs,kb b6 (BD b6 D4 (by intro z;cases z)),b6'},⟨kv,AE,hv,hk⟩,b8,b9,b10,b11,b12},pk.sbL sb4 g (BD pl1 D4 (by intro z;cases z)),nb}
 have ev4:upd H3 A.ou (.dK kv) vl=some (.lst row):=by rw[AG (BD ev3 hou3 (by intro z;cases z))];exact ev3
 have ht4:upd H3 A.ou (.dK kv) t=some (.tup [.ref ol,.ref hl]):=by rw[AG (BD ht hou3 (by intro z;cases z))];exact ht
 have ho4:upd H3 A.ou (.dK kv) ol=some (.lst<|oc.out.map λ(k:Nat)=>V.int k):=by rw[AG nou];exact ho3
 have hh4:upd H3 A.ou (.dK kv) hl=some (.lst<|hs.map V.ref):=by rw[AG (BD hh3 hou3 (by intro z;cases z))];exact hh3
 have hp4:Paired (λx (p:Nat × Int)=>upd H3 A.ou (.dK kv) x=some (.tup [.int p.1,.int p.2])) hs oc.held:=Paired.mapP hpr λx p e=>by rw[AG (BD e hou3 (by intro z;cases z))];exact e
 revert sb4 B4 ev4 ht4 ho4 hh4 hp4;intro sb4 B4 ev4 ht4 ho4 hh4 hp4;obtain⟨dx4,hb4⟩:=B4.bk.ob;obtain⟨dp4,hg4⟩:=B4.pk.ob;refine y3 {hb4,T.cl,T.nG,_,QX,y2 {hg4,zV _ _ _,y2 {hb4,DV,x9 A w rows n cs ow b' vl row {rfl,T,B4,hbl,ev4,B.pk.wd row<|η er,λll H5 hll5 s5 ell5=>?_}}}}
 have B5:=B4.same s5;refine x8 A.gp A.cl w rows n b' ll (EY cs ow b' row) {rfl,TP,B5.pk,SqL.of ell5,by rw[pN,B.pk.wd row<|η er];have:=B.pk.sw;exact oA this rfl,λi ei hi hxw H6 P6 sb6=>?_,λz=>?_}
 have ei:=cw ei;subst ei;obtain⟨ts5,pl5,pt5⟩:=B5.pk.ls;obtain⟨dp5,hg5⟩:=B5.pk.ob
 have ap:=B5.bk.ap
 have gp_b:A.b≠A.gp:=by
  obtain⟨d5,hb5⟩:=B5.bk.ob;exact BD hb5 hg5 (NV (by simp[bf,pf]))
 have k6:∀ {y:Addr} {o:HO},H5 y=some o->y≠A.gp->y≠A.cl->H6 y=some o:=λe n1 n2=>sb6 _ _ e (by rintro (z|z);exact n1 z;exact n2 z)
 have notins:∀ {y:Addr} {o:HO},H5 y=some o->(∀ C d f,o≠.ins C d f)->y≠A.gp:=λe n=>BD e hg5<|n _ _ _
 have B6:EF a H6 A w (rows.set b'<|EY cs ow b' row) (n+1) cs ow:=by
  obtain⟨⟨b1,b2,b3,b4,b5,b6,b7,b8,b9,b10,b11,b12⟩,pk,nb⟩:=B5;obtain⟨dx',b1⟩:=b1;obtain⟨chs,b2,b2'⟩:=b2;obtain⟨kvs,b6,b6'⟩:=b6;obtain⟨kvo',b7,b7'⟩:=b7;refine{{{dx',k6 b1 gp_b (BD b1 pl5 (by intro z;cases z))},{chs,k6 b2 (notins b2 (by intro v v v z;cases z)) ap.2.2.2.1.symm,Paired.mapP b2' λx c h=>?_},k6 b3 (notins b3 (by intro v v v z;cases z)) ap.2.2.2.2.1.symm,λi l e=>k6 (b4 i l e) (notins (b4 i l e) (by intro v v v z;cases z)) (λz=>ap.2.2.2.2.2<|z ▸ η e),b5,{kvs,k6 b6 (notins b6 (by intro v v v z;cases z)) (BD b6 pl5 (by intro z;cases z)),b6'},{kvo',k6 b7 (notins b7 (by intro v v v z;cases z)) (BD b7 pl5 (by intro z;cases z)),b7'},b8,b9,b10,b11,b12},P6,by rw[nb,ky]};revert h;apply u3;rintro dc p1 n1 ⟨h1,h2,h3⟩;exact x3 dc p1 n1 {k6 h1 (BD h1 hg5 (NV (by simp[GI,pf]))) (BD h1 pl5 (by intro z;cases z)),k6 h2 (notins h2 (by intro v v v z;cases z)) (BD h2 pl5 (by intro z;cases z)),k6 h3 (notins h3 (by intro v v v z;cases z)) (BD h3 pl5 (by intro z;cases z))}
 have ht5:=s5 _ _ ht4
 have ho5:=s5 _ _ ho4
 have hh5:=s5 _ _ hh4;refine q H6 {k6 ht5 (notins ht5 (by intro v v v z;cases z)) (BD ht5 pl5 (by intro z;cases z)),k6 ho5 (notins ho5 (by intro v v v z;cases z)) (λz=>fO<|.inr<|.inr<|.inr<|.inr<|.inr z),hs,k6 hh5 (notins hh5 (by intro v v v z;cases z)) (λz=>(B.off hhlH) (.inr<|.inr<|.inr<|.inr<|.inr z)),Paired.mapP hp4 λx p e=>?_} B6 λy o e ny=>(k6 (s5 _ _<|sb4 _ _ e λz=>ny<|.inl<|.inr<|.inr<|.inr<|.inr<|.inl z) (λz=>ny<|.inr z) (λz=>ny<|.inl<|.inr<|.inr<|.inr<|.inr<|.inr z))
 have e5:=s5 _ _ e;exact k6 e5 (notins e5 (by intro v v v z;cases z)) (BD e5 pl5 (by intro z;cases z));rcases z with z|z|z
 lia
 exact absurd (d_.mpr hbl) (Oh.mpr z);exact absurd (by rw[pN,B.pk.wd row<|η er]) z
def zsg:UN K a vs H Q E->vs.length=2:=by
 apply u7;rintro z z z z z z z ⟨rfl,z⟩
 rfl
example:(zsh,UD,rW,5):=by
 apply u6;rintro p dx n r c w ⟨rfl,T,hp,b1,b2,b3,b4,b5,q⟩;refine y3 {hp,T.cl,T.n1,by decide,y3 {AE,T.cl,T.n2,J9 (by decide),y3 {AE,T.cl,T.n3,J9  (si (J9  (by decide))),y3 {AE,T.cl,T.n4,(J9  (si (J9  (si (J9  (by decide)))))),?_}}}};rw[HR,HR,HR];exact q _ {⟨dx,AE⟩,b1,b2,b3,b4,b5} λb o e hb=>by rw[AG hb];exact e
example:(zsi,LK,rZ,3):=by
 apply u7;rintro p n r c w k b ⟨rfl,T,L,q⟩;obtain⟨dx,e⟩:=L.ob
 have:=L.h1
 have:=L.hw;refine y3 {e,T.cl,T.n4,_,NX,({{by lia,by lia},y3 {e,T.cl,T.n4,_,NX,?_}})};push_cast[];exact{by lia,by decide,q}
example:(zsj,KF,uG,2):=by
 apply u6;rintro p n r c w k ⟨rfl,T,L,q⟩;obtain⟨dx,e⟩:=L.ob;exact y2 {e,B1,x7 p n r c w k 0 ⟨rfl,T,L,q⟩}
example:(zsk,HE,uH,2):=by
 apply u6;rintro p n r c w k ⟨rfl,T,L,q⟩;obtain⟨dx,e⟩:=L.ob;exact y2 {e,B1,y3 {e,T.cl,T.n1,_,UC,x7 p n r c w k _ ⟨rfl,T,L,q⟩}}
example:(zsl,MP,uI,2):=by
 apply u6;rintro p n r c w k ⟨rfl,T,L,q⟩;obtain⟨dx,e⟩:=L.ob;exact y2 {e,B1,y3 {e,T.cl,T.n1,_,UC,y3 {e,T.cl,T.n2,_,QY,(x7 p n r c w k _ ⟨rfl,T,L,q⟩)}}}
example:(zsm,JG,uJ,2):=by
 apply u6;rintro p n r c w k ⟨rfl,T,L,q⟩;obtain⟨dx,e⟩:=L.ob;exact y2 {e,B1,y2 {e,B1,x5 p n r c w {rfl,T,L,x7 p n r c w k _ ⟨rfl,T,L,q⟩}}}
example:(zsn,JH,uK,2):=by
 apply u6;rintro p n r c w k ⟨rfl,T,L,q⟩;obtain⟨dx,e⟩:=L.ob;exact y2 {e,B1,y2 {e,B1,x5 p n r c w {rfl,T,L,y3 {e,T.cl,T.n2,_,QY,(x7 p n r c w k _ ⟨rfl,T,L,q⟩)}}}}
example:(zso,NY,rY,1):=by
 apply u5;rintro p n r c w ⟨rfl,T,L,q⟩;obtain⟨dx,e⟩:=L.ob;exact y3 {e,T.cl,T.n1,_,UC,y3 {e,T.cl,T.n2,_,QY,(y3 ⟨e,T.cl,T.n3,_,YZ,q⟩)}}
example:(zsp,UE,uL,1):=by
 apply u5;rintro p n r c w ⟨rfl,T,L,q⟩;obtain⟨dx,e⟩:=L.ob;exact y2 {e,B1,x5 p n r c w {rfl,T,L,y3 {e,T.cl,T.n2,_,QY,(y3 ⟨e,T.cl,T.n3,_,YZ,q⟩)}}}
example:(zsq,LM,rX,1):=by
 apply u5;rintro p n r c w ⟨rfl,T,L,q⟩;obtain⟨dx,e⟩:=L.ob;obtain⟨z,b1,b2,b3,b4,b5⟩:=L;refine y3 {e,T.cl,T.n1,_,UC,y3 {e,T.cl,T.n4,_,NX,({.inl {i0,by lia},y3 {e,T.cl,T.n2,_,QY,y3 {e,T.cl,T.n4,_,NX,({.inl {i0,by lia},y3 {e,T.cl,T.n3,_,YZ,y3 {e,T.cl,T.n4,_,NX,?_}}})}}})}};push_cast[];exact{.inl {i0,by lia},by decide,q}
example:(zsr,UF,vZ,1):=by
 apply u5;rintro p n r c w ⟨rfl,T,TP,L,q⟩;obtain⟨dx,e⟩:=L.ob
 have LL:=L;obtain⟨z,b1,b2,b3,b4,b5⟩:=L;refine y2 {e,B1,x5 p n r c w {rfl,T,LL,y3 {e,T.cl,T.n4,_,NX,λx dx' hx R8 hne=>?_}}}
 have s3:Same H (upd (upd H _<|.own x) x (.ins (a "Plank") dx' [])):=(AL R8).trans (AL (by rw[AG hne.symm];exact hx));refine x4 x _ _ w {rfl,TP,AE,by lia,b4,oA b5 rfl,λcl H2 BC P2 s4=>{rfl,q x cl H2 hx (s3.free BC) P2 λb o eb=>s4 _ _ (s3 _ _ eb) (BE eb hx)}}
def zss:UD K a vs H Q E->vs.length=5:=by
 apply u6;rintro z z z z z z ⟨rfl,z⟩
 rfl
def zst:LK K a vs H Q E->vs.length=3:=by
 apply u7;rintro z z z z z z z ⟨rfl,z⟩
 rfl
def zsu:KF K a vs H Q E->vs.length=2:=by
 apply u6;rintro z z z z z z ⟨rfl,z⟩
 rfl
def zsv:HE K a vs H Q E->vs.length=2:=by
 apply u6;rintro z z z z z z ⟨rfl,z⟩
 rfl
def zsw:MP K a vs H Q E->vs.length=2:=by
 apply u6;rintro z z z z z z ⟨rfl,z⟩
 rfl
def zsx:JG K a vs H Q E->vs.length=2:=by
 apply u6;rintro z z z z z z ⟨rfl,z⟩
 rfl
def zsy:JH K a vs H Q E->vs.length=2:=by
 apply u6;rintro z z z z z z ⟨rfl,z⟩
 rfl
def zsz:NY K a vs H Q E->vs.length=1:=by
 apply u5;rintro z z z z z ⟨rfl,z⟩
 rfl
def zs0:UE K a vs H Q E->vs.length=1:=by
 apply u5;rintro z z z z z ⟨rfl,z⟩
 rfl
def zs1:LM K a vs H Q E->vs.length=1:=by
 apply u5;rintro z z z z z ⟨rfl,z⟩
 rfl
def zs2:UF K a vs H Q E->vs.length=1:=by
 apply u5;rintro z z z z z ⟨rfl,z⟩
 rfl
def zs3(hi:i<m)(h:f i=true)(hl:∀ j<i,f j=false):EH f m=i:=by
 unfold EH
 have:(ο m).find? f=some i:=by
  obtain⟨d,rfl⟩:=iw<|show i+1<=m from hi;rw[mz];refine{h,x2 (ο i) ((ο d).map (i+1+·)) {?_,λj hj=>by rw[hl j (ak.mp hj)];rfl}};rw[fh,xz,xz];simp[fh,Iy]
 rw[this]
def zX(hl:∀ j<m,f j=false):EH f m= -1:=by
 unfold EH
 have:(ο m).find? f=none:=ko.mpr λj hj=>by rw[hl j (ak.mp hj)];exact bc
 rw[this]
def zs4(hx:∀ z∈xs,UO z)(hv:GoodV n H v)(hf:HY v=true):NM v xs=decide (v∈xs):=by
 rw[oa,decide_eq_true_iff];unfold NM
 have key:∀ z,UO z->(G8 z v=true↔z=v):=λz hz=>by
  rcases hz with rfl|⟨i,rfl⟩<;>(cases v<;>first|(simp[G8];done)|(cases n<;>exact hv.elim)|(simp[HY]at hf))
 rw[e_];constructor;rintro ⟨z,hz,e⟩;rw[<-(key z<|hx z hz).mp e];exact hz;exact λh=>{v,h,(key v<|hx v h).mpr rfl}
def D1(H H':Hp):Prop:=∀ b xs,H b=some (.tup xs)->H' b=some (.tup xs)
def GoodV.keep(k:D1 H H'):∀ {n:Nat} {v:V},GoodV n H v->GoodV n H' v
 |0,_,h=>h
 |_+1,.int _,_=>trivial
 |_+1,.non,_=>trivial
 |_+1,.str _,h=>h
 |n+1,.ref p,⟨xs,h1,h2,h3⟩=>{xs,k _ _ h1,h2,λv hv=>(h3 v hv).keep k}
def Same.tk{H H':Hp}(s:Same H H'):D1 H H':=λb xs e=>s _ _ e
def zs5(hg:GoodV 4 H v)(hv:H vl=some (.tup xs))(hx:∀ z∈xs,UO z)(q:Q (.bl<|decide<|v∈xs) H):QL K v (.ref vl) H Q:=by
 have flat:HY v=true->QL K v _ H Q:=λhf=>.inl ⟨vl,xs,rfl,.inr<|SqT.of hv,hf,(iu.mpr λz hz=>by rcases hx z hz with rfl|⟨i,rfl⟩<;>rfl),by
  rw[zs4 hx hg hf];exact q⟩
 cases v with
 |ref t =>
  have:decide ((V.ref t)∈xs)=false:=decide_eq_false λhm=>by rcases hx _ hm with z|⟨i,z⟩<;>cases z
  obtain⟨ys,e,y⟩:=hg;rw[this]at q;exact .inr<|x4 t ys vl xs {rfl,SqT.of e,rfl,SqT.of hv,hx,q}
 |int i=>exact flat rfl
 |non=>exact flat rfl
 |str z=>exact flat rfl
 |_=>exact hg.elim
example:(zs6,MT,wT,5):=by
 apply KS;rintro A w rows n cs outs pl vl ts xs f m ⟨rfl,T,TP,B,hp,hm,hm2,hv,hx,hf,q,qe⟩;obtain⟨dx,ho⟩:=B.bk.ob;refine{{_,SqL.of hp},X8  (λi σ H'=>(Same H H'/\∀ j<i,f j=false)/\∃ x y,σ=[some _,some _,some _,x,y]) {{Same.refl _,λj hj=>absurd hj<|nv _},x2 _ _ rfl} (by rintro i σ H' u ⟨⟨s,u⟩,u⟩;exact SqL.of<|s _ _ hp) (λi x σ H' t hx' hzz ht=>?_) (λσ H' hzz=>?_)};obtain⟨⟨s,lo⟩,x0,y0,rfl⟩:=hzz;rw[τ]at hx';cases et:ts[i]? with
 |none=>rw[et]at hx';cases hx'
 | some tt =>
  rw[et]at hx';obtain rfl:=ι hx';refine u3 ?_<|hf i tt et;rintro bi bj v ⟨e1,on,ev,gv,ef⟩
  have s2:=s.trans<|AL (o:=.tup [.int i,.ref tt]) ht;refine{_,SqT.of AE,rfl,?_};revert s2;refine λs2=>y2 {s2 _ _ ho,DV,x9 A w _ n cs _ tt bi bj {rfl,T,TP,B.same s2,s2 _ _ e1,λu v' H3 ev' s3=>?_,λz=>absurd on z}};rw[ev]at ev';obtain rfl:=ι ev'
  have s4:=s2.trans s3;refine zs5 (gv.keep s4.tk) (s4 _ _ hv) hx ?_;rw[<-ef];push_cast[];cases hfi:f i with
  |true=>exact q i (zs3 (hm ▸ ((ε.mp et).1)) hfi lo) _ s4
  |false=>exact⟨s4,λj hj=>by
    rcases fe j i with z|z
    exact lo j z;rw[show j=i by exact n_ (f_ hj) z];exact hfi⟩
 obtain⟨⟨s,lo⟩,x0,y0,ez⟩:=hzz;rw[ζ,hm]at lo;exact{by decide,qe (zX lo) _ s}
def zs7:MT K a vs H Q E->vs.length=3:=by
 apply KS;rintro z z z z z z z z z z z z ⟨rfl,z⟩
 rfl
def bB{m w:Nat}{B:Nat->Int}{te:TE}{AY:ad}{σ:St}{H:Hp}{Q:VK}(hm:m<=1000)(ht:∀ i H' Q',i<m->Same H H'->GZ (B i) (i%w:Nat) Q' H'->te (some (.int<|0+(i:Int))::C1 AY σ) H' Q')
  (q:∀ (ts:Uu) (H':Hp) (l:Addr),ts.length=m->Same H H'->(∀ k t,ts[k]? =some t->H' t=some (.tup [.int (B k),.int (k%w:Nat)]))->H' l=some (.lst<|ts.map V.ref)->Q (.ref l) H'):DU (FS 0 m) (AF 0) CG te 1 AY σ H Q:=by
 refine LA (CJ m<|oA hm rfl) (λi ys H'=>Same H H'/\∃ ts:List _,ys=ts.map V.ref/\ts.length=i/\∀ k t,ts[k]? =some t->H' t=some (.tup [.int (B k),.int<|k%w])) {Same.refl _,[],rfl,rfl,λk t h=>by simp at h} (λi ys H' hi hl hzz=>?_) λys H' hl hzz l hl'=>?_;obtain⟨s,ts,e,el,h⟩:=hzz;refine ht i H' _ hi s λt htn=>?_
 have st:=AL (o:=.tup [.int (B i),.int<|i%w]) htn;refine{s.trans st,ts++[t],by rw[e,χ];rfl,by simp[el],λk t' hk=>?_};rcases fe k _ with z|z
 rw[ba z]at hk;exact st _ _<|h k t' hk;rw[ci z]at hk
 have hk0:k-ts.length=0:=by
  rcases nr _ with z|z
  exact z;rw[bq (z)]at hk;cases hk
 rw[hk0]at hk;obtain rfl:=ι hk
 have:k=i:=by lia
 subst this;exact AE;obtain⟨s,ts,rfl,el,h⟩:=hzz
 have st:=AL (o:=.lst<|ts.map V.ref) hl';exact q ts _ l (by simpa using hl) (s.trans st) (λk t hk=>st _ _<|h k t hk) AE
def zY{rows:t5}{w i j:Nat}(hw:∀ r∈rows,r.length=w)(hi:i<rows.length)(hj:j<w)(cs:Rr):∃ v,ET cs rows i j=some v:=by
 unfold ET;cases e:EC cs i j with
 |some k =>
  exact{_,by show(cs[k]?).map _=_;rw[θ (T7 e)];rfl}
 |none =>
  have er:=θ hi;exact{_,by rw[az,er];exact θ<|Nat.lt_of_lt_of_eq hj (hw _<|η er).symm}
def zs8{n r c w kind k:Nat}(hk:kind<3)(h:k<BN n r c w kind):BI n r c w kind k<n+r+c+r+c:=by
 unfold BI
 have hd:=li (by rw[di];exact h);rcases(c3 hk)with z|z|z<;>subst z<;>simp at hd ⊢ <;>lia
def zZ{n r c w kind k:Nat}(h:k<BN n r c w kind):1<=w:=by
 rcases nr w with z|z
 rw[z]at h;exact nZ h;exact z
def VJ{n r c w kind:Nat}(h1:n<=6)(h2:r<=6)(h3:c<=6)(h4:w<=6):BN n r c w kind<=36:=by
 have h:(if kind=0 then n else if kind=1 then r else if kind=2 then c else if kind=3 then r else c)<=6:=by
  split<;>(try split)<;>(try split)<;>(try split)<;>lia
 exact ii h h4
def RM(kind:Nat):Tr:=if kind=0 then [.non]else [.non,.int 0]
def zs9(kind:Nat)(v:V):decide (v∈RM kind)=LN kind v:=by
 unfold RM LN;by_cases h:kind=0;subst h;simp;rw[if_neg h];simp[nq h]
def bC{kind:Nat}{A:BA}{n r c w:Nat}{rows:t5}{nn:Nat}{cs:Rr}{outs:Tu}{ts:Uu}{l:Addr}{H':Hp}(hk:kind<3)(T:TB K a)(TP:DH K a)(s:Same H H')(B:EF a H A w rows nn cs outs)(hM:rows.length=n+r+c+r+c)(h1:n<=6)(h2:r<=6)(h3:c<=6)(h4:w<=6)
  (gh:∀ i j v,ET cs rows i j=some v->GoodV 4 H v) (hts:ts.length=BN n r c w kind) (ht:∀ k t,ts[k]? =some t->H' t=some (.tup [.int (BI n r c w kind k:Nat),.int (k%w:Nat)])) (el:H' l=some (.lst<|ts.map V.ref))
  (q:∀ k:Nat,EH (MS cs rows n r c w kind) (BN n r c w kind)=k->∀ H',Same H H'->Q (.int k) H') (qe:EH (MS cs rows n r c w kind) (BN n r c w kind)= -1->∀ H',Same H H'->E (.ref<|a "NoRoom") none H') :
  ∀ u,H' u=none->MT K a [.ref A.b,.ref l,.ref u] (upd H' u<|.tup<|RM kind) Q E:=λu hu=>by
 have su:=AL (o:=.tup<|RM kind) hu
 have s2:=s.trans su;refine OR A w _ nn cs _ l u ts _ _ _ {rfl,T,TP,B.same s2,su _ _ el,hts,oA (VJ  h1 h2 h3 h4) rfl,AE,λz hz=>?_,λk t hkt=>?_,λk hk' H3 s3=>q k hk' H3<|s2.trans s3,λhk' H3 s3=>qe hk' H3<|s2.trans s3};unfold RM at hz;split at hz<;>simp at hz;exact .inl hz;rcases hz with z|z
 exact .inl z;exact .inr {0,z}
 have A0:=hts ▸ ((ε.mp hkt).1)
 have hb:=zs8 hk A0
 have hj:k%w<w:=uo _<|(zZ A0);obtain⟨v,ev⟩:=zY (λr' hr'=>B.pk.wd r' hr') (show BI n r c w kind k<rows.length by lia) hj cs;refine x3 _ _ v {su _ _<|ht k t hkt,{i0,d_.mpr<|hM ▸ hb,i0,d_.mpr hj},ev,(gh _ _ _ ev).keep s2.tk,?_};unfold MS;rw[ev,zs9]
example:(zta,Q2,aK,3):=by
 apply u2;rintro p b ⟨rfl,A,n,r,c,w,rows,nn,cs,outs,rfl,T,TP,TL,L,h1,h2,h3,h4,B,hM,gh,q,qe⟩;obtain⟨dx,e⟩:=L.ob;push_cast[aK,↓wZ_];refine y2 {e,B1,x5 p n r c w {rfl,TL,L,λt ht=>?_}}
 have s1:=AL (o:=.tup [V.int (n*w),V.int<|r*w,V.int<|c*w]) ht;refine BB AE  rfl rfl ?_;revert s1
 have hk:=VJ (kind:=0) h1 h2 h3 h4
 have em:n*w=(BN n r c w 0):=by unfold BN;simp
 refine λs1=>{i0,by lia,bB   (oA hk rfl) (λi H' Q' hi s' q'=>(y2 {s' _ _<|s1 _ _ e,B1,x6 p n r c w i {(by simp),TL,(L.same s1).same s',?_}})) λts H' l hts s' htt el=>{by decide,bC  (by decide) T TP (s1.trans s') B hM h1 h2 h3 h4 gh hts htt el q qe}}
 exact q'
def ztb:Q2 K a vs H Q E->vs.length=2:=by
 apply u2;rintro z z ⟨rfl,z⟩
 rfl
example:(ztc,UQ,aL,3):=by
 apply u2;rintro p b ⟨rfl,A,n,r,c,w,rows,nn,cs,outs,rfl,T,TP,TL,L,h1,h2,h3,h4,B,hM,gh,q,qe⟩;obtain⟨dx,e⟩:=L.ob;push_cast[aL,↓w5_];refine y2 {e,B1,x5 p n r c w {rfl,TL,L,λt ht=>?_}}
 have s1:=AL (o:=.tup [V.int (n*w),V.int<|r*w,V.int<|c*w]) ht;refine BB AE  rfl rfl ?_;revert s1
 have hk:=VJ (kind:=1) h1 h2 h3 h4
 have em:r*w=(BN n r c w 1):=by unfold BN;simp
 refine λs1=>{i0,by lia,bB   (oA hk rfl) (λi H' Q' hi s' q'=>(y2 {s' _ _<|s1 _ _ e,B1,x6 p n r c w i {(by simp),TL,(L.same s1).same s',?_}})) λts H' l hts s' htt el=>{by decide,bC  (by decide) T TP (s1.trans s') B hM h1 h2 h3 h4 gh hts htt el q qe}}
 exact q'
def ztd:UQ K a vs H Q E->vs.length=2:=by
 apply u2;rintro z z ⟨rfl,z⟩
 rfl
example:(zte,UR,aM,3):=by
 apply u2;rintro p b ⟨rfl,A,n,r,c,w,rows,nn,cs,outs,rfl,T,TP,TL,L,h1,h2,h3,h4,B,hM,gh,q,qe⟩;obtain⟨dx,e⟩:=L.ob;push_cast[aM,↓w8_];refine y2 {e,B1,x5 p n r c w {rfl,TL,L,λt ht=>?_}}
 have s1:=AL (o:=.tup [V.int (n*w),V.int<|r*w,V.int<|c*w]) ht;refine BB AE  rfl rfl ?_;revert s1
 have hk:=VJ (kind:=2) h1 h2 h3 h4
 have em:c*w=(BN n r c w 2):=by unfold BN;simp
 refine λs1=>{i0,by lia,bB   (oA hk rfl) (λi H' Q' hi s' q'=>(y2 {s' _ _<|s1 _ _ e,B1,x6 p n r c w i {(by simp),TL,(L.same s1).same s',?_}})) λts H' l hts s' htt el=>{by decide,bC  (by decide) T TP (s1.trans s') B hM h1 h2 h3 h4 gh hts htt el q qe}}
 exact q'
def ztf:UR K a vs H Q E->vs.length=2:=by
 apply u2;rintro z z ⟨rfl,z⟩
 rfl
def Ab:∀ {n:Nat} {v:V},GoodV n H v->∃ d,Dat K H n v d
 |_+1,.int i,_=>{_,Dat.int i}
 |_+1,.non,_=>⟨_,Dat.non⟩
 |_+1,.str z,h=>{_,.str z,h,bu _}
 | n+1,.ref p,⟨xs,h1,h2,h3⟩=>by
  have:∀ (l:Tr),(∀ v∈l,GoodV n H v)->∃ ds,Paired _ l ds:=λl=>by
   induction l with
   |nil=>exact λy=>{[],.nil}
   |cons x r ih =>
    intro h;obtain⟨d,hd⟩:=Ab<|h x<|ai ..;obtain⟨ds,hds⟩:=ih λv hv=>h v<|ω _ hv;exact{_,.cons hd hds}
  obtain⟨ds,hds⟩:=this xs h3;exact{_,Dat.tup (SqT.of h1) hds}
def bD(h:∀ v∈l,GoodV n H v):∃ ds,Paired (Dat K H n) l ds:=by
 induction l with
 |nil=>exact{[],.nil}
 |cons x r ih =>
  obtain⟨d,hd⟩:=Ab  (h x<|ai ..);obtain⟨ds,hds⟩:=ih λv hv=>h v<|ω _ hv;exact{_,.cons hd hds}
def ztg{cs:Rr}{rows:t5}(g:goodH H cs rows){i j:Int}{v:V}(h:ET cs rows i j=some v):GoodV 4 H v:=by
 unfold ET at h;cases e:EC cs i j with
 |some k =>
  rw[e]at h
  have h:(cs[k]?).map _=some v:=h;cases ec:cs[k]? with
  |none=>rw[ec]at h;cases h
  |some c =>
   rw[ec]at h;obtain rfl:=ι h;exact g.2 c<|η ec
 |none =>
  rw[e]at h;cases er:rows[i.toNat]? with
  |none=>rw[er]at h;cases h
  |some r =>
   rw[er]at h;exact g.1 r (η er) v (η h)
def goodH.keep(g:goodH H cs rows)(k:D1 H H'):goodH H' cs rows:={λr hr v hv=>(g.1 r hr v hv).keep k,λc hc=>(g.2 c hc).keep k}
def zth{cs:Rr}{rows:t5}{i j:Int}{bi bj:Nat}{v:V}{nd:Zu}:ET (cs++[⟨bi,bj,v,nd⟩]) rows i j=if(bi:Int)=i/\(bj:Int)=j then some v else ET cs rows i j:=by
 unfold ET;rw[YO];by_cases h:bi=i/\bj=j;rw[if_pos h,if_pos h];simp;rw[if_neg h,if_neg h];cases e:EC cs i j with
 |none=>rfl
 |some k =>
  show((cs++[_])[k]?).map _=(cs[k]?).map _;rw[ba (T7 e)]
def KO{G:Addr->Prop}{H H':Hp}(s:SameBut G H H')(g:∀ x,G x->ER (H x)):D1 H H':=λb xs e=>s _ _ e λz=>(g _ z).1 _ e
def VL{p p':Addr}{xs:Tr}(h1:SqL K H p xs)(h2:SqL K H p' xs)(hg:∀ v∈xs,GoodV 4 H v)(q:Q (.bl false) H):K9 K (.ref p) (.ref p') H Q:=by
 obtain⟨ds,D⟩:=bD  hg;exact za7  (by decide) (Dat.lst h1 D) (Dat.lst h2 D) q
def Ac{z:Str}{i:Int}{n:Nat}{c:Nat}{Q:VK}(hi:i=n)(hL:z.cps.toList.length<=1000)(hc:z.cps.toList[n]? =some c)(q:Q (.str {#[c]}) H):BR K (.str z) (.int i) H Q:=by
 subst hi;exact .inr (.inr (x3 z n c {rfl,rfl,ψ (hL) (CJ _ (by decide)),W1 hc,q}))
def zti:[c]<(bw " ").cps.toList↔c<32:=by
 rw[show(bw _).cps.toList=[32] by decide +kernel,ph];simp
def ztj:(bw "~").cps.toList<[c]↔126<c:=by
 rw[show(bw _).cps.toList=[126] by decide +kernel,ph];simp
def ztk:[c]<(bw "a").cps.toList↔c<97:=by
 rw[show(bw _).cps.toList=[97] by decide +kernel,ph];simp
def ztl:(bw "z").cps.toList<[c]↔122<c:=by
 rw[show(bw _).cps.toList=[122] by decide +kernel,ph];simp
example:(ztm,Y3,ZV,1,h):=by
 obtain⟨c,rfl,q⟩:=h;push_cast[ZV,↓rP_,zti,ztj];unfold LP at q;split;rename_i h1;split;rename_i h2;rw[decide_eq_true (cu h1),decide_eq_true<|cu h2]at q
 have e:(!decide (((#[c].getD 0 0):Int)=37))=decide (c≠37):=by
  rw[show(#[c]).getD 0 0=c from rfl,<-decide_not];exact decide_eq_decide.mpr (by lia)
 refine{rfl,?_};rw[e];exact q;rw[show decide (c<=126)=false from decide_eq_false (by lia)]at q;simpa using q;rw[decide_eq_false (by lia)]at q;exact q
def Ag(hz:z.length<=1000)(ht:∀ c (Q':VK),Q' (.bl<|f c) H->te [some (.str {#[c]})] H Q')(q:∀ H',Same H H'->Q (.bl<|z.cps.toList.all f) H') :
  DU (QD z) (AF 0) CG te 1 [] [some (.str z)] H λx H1=>NQ K [x] H1 Q:=by
 refine Zk (CJ _<|oA hz rfl) (λi ys H'=>H'=H/\ys=(z.cps.toList.take i).map λc=>V.bl<|f c) ⟨rfl,rfl⟩ (λi c ys H' hc hl hzz=>?_) (λys H' hl hzz p hp=>?_);obtain⟨rfl,e2⟩:=hzz
 have hc':z.cps.toList[i]? =some c:=by simpa using hc
 refine ht c _ {rfl,?_};rw[dz,hc',e2];simp;obtain⟨rfl,e2⟩:=hzz
 have e3:ys=(z.cps.toList.map f).map V.bl:=by
  rw[e2,ff,jd (by simp)];rfl
 refine x2 p _ {rfl,by rw[<-e3];exact SqL.of AE,?_};rw[Ie];exact(q _<|AL  hp)
example:(ztn,Y4,ZW,1,h):=by
 obtain⟨z,rfl,hz,q⟩:=h;push_cast[ZW,↓rQ_];unfold BY at q;refine{_,{CJ _<|oA hz rfl,rfl},?_};split;rename_i h1;rw[decide_eq_true (by exact d_.mp h1)]at q;by_cases h2:z.length<=8;rw[decide_eq_true h2]at q;rw[if_pos (by lia)];refine Ag hz (λc Q' q'=>?_) q;push_cast[ztk,ztl];unfold Q3 at q';split;rename_i h3;rw[decide_eq_true (cu h3)]at q';rw[show(!decide _)=decide (c<=122) by rw[<-decide_not];exact decide_eq_decide.mpr (by lia)];exact q';rw[decide_eq_false (by lia)]at q';exact q';rw[decide_eq_false h2]at q;rw[if_neg (by exact λz=>h2<|xi.mp z)];exact q _<|Same.refl _;rename_i h1;rw[decide_eq_false (λz=>h1<|xi.mpr z)]at q;exact q _<|Same.refl _
example:(zto,Y5,Z9,1,h):=by
 obtain⟨z,rfl,hz,q⟩:=h;push_cast[Z9,↓uA_];unfold HG at q;refine{_,{CJ _<|oA hz rfl,rfl},?_};split;rename_i h1;rw[decide_eq_true (by exact d_.mp h1)]at q;by_cases h2:z.length<=40;rw[decide_eq_true h2]at q;rw[if_pos (by lia)];exact Ag hz (λc Q' q'=>⟨c,rfl,q'⟩) q;rw[decide_eq_false h2]at q;rw[if_neg (by exact λz=>h2<|xi.mp z)];exact q _<|Same.refl _;rename_i h1;rw[decide_eq_false (λz=>h1<|xi.mpr z)]at q;exact q _<|Same.refl _
def RN(x:Int){n:Nat}(h:1<=n):∃ b:Nat,x%(n:Int)=b/\b<n :=
 ⟨_,(ic (wt x (show(n:Int)≠0 by exact λz=>g_ h<|cw z))).symm,by
  have:=uk x (show(0:Int)<n by exact d_.mpr h)
  lia⟩
section
variable{lp b tk:Addr}
def IM:(sf lp b tk).lookup ("plan":Str)=some (V.ref lp):=by simp[sf]
def IN:(sf lp b tk).lookup ("book":Str)=some (V.ref b):=by
 simp[sf,aw,A8 (a:="book") (b:="plan") (by decide)]
def bE:(sf lp b tk).lookup ("taken_out":Str)=some (V.ref tk):=by
 simp[sf,aw,A8 (a:="taken_out") (b:="plan") (by decide),A8 (a:="taken_out") (b:="book") (by decide)]
def B3{x:Str}(h:(DK x "plan" || DK x "book" || DK x "taken_out")=false:=by decide +kernel):(sf lp b tk).lookup x=none:=by
 simp only[rf]at h;obtain⟨⟨h1,h2⟩,h3⟩:=h;simp[sf,aw,A8 h1,A8 h2,A8 h3]
def ztp:BP "taken_out" (.ref tk) (BP "book" (.ref b) (BP "plan" (.ref lp) []))=sf lp b tk:=by
 rfl
end
def ztq{w k k':Nat}(h1:k/w=k'/w)(h2:k%w=k'%w):k=k':=by
 rw[<-uj k w,<-uj k' w,h1,h2]
def ztr{f:Wu}{m k:Nat}(h:EH f m=k):k<m:=by
 unfold EH at h;cases e:(ο m).find? f with
 |none=>rw[e]at h;simp at h
 |some k' =>
  have:=ak.mp<|yg e
  lia
def Ah{z:Str}(h:BY z=true):cy z=true:=by
 unfold BY at h;rw[cb]at h
 have h:=h.2;unfold cy;rw[<-we];rw[iu]at h ⊢;intro c hc
 have:=h c hc;simp only[Q3,cb,decide_eq_true_eq]at this ⊢;exact oC this.2 rfl
def RepC.keep(k:D1 H H'):∀ {x:CV} {v:V},RepC H x v->RepC H' x v
 |.no,_,h=>h
 |.nm _ _,_,⟨t,e,et⟩=>{t,e,k _ _ et}
 |.mk _,_,h=>h
 |.rc _ _,_,⟨t,u,e,et,eu⟩=>{t,u,e,k _ _ et,k _ _ eu}
 |.tx _,_,h=>h
def LaidA.keep(k:D1 H H')(h:LaidA n r c w H cs as):LaidA n r c w H' cs as:=by
 induction h with
 |nil=>exact .nil
 |snoc _ e1 e2 e3 e4 e5 e6 ih=>exact ih.snoc e1 e2 (e3.keep k) e4 e5 e6
def SM.same(I:SM a H S n r c w rows nn cs outs tks M)(s:Same H H'):SM a H' S n r c w rows nn cs outs tks M:=by
 obtain⟨⟨dx,e1⟩,e2,e3,e4,e5,e6,e7,e8,e9,e10,e11,e12⟩:=I;exact{{dx,s _ _ e1},e2.same s,e3.same s,s _ _ e4,e5,e6,e7,e8,e9.keep s.tk,λkind k v h1 h2 hv=>(e10 _ k v h1 h2 hv).keep s.tk,e11,e12.keep s.tk}
def BookAt.ins1(B:BookAt a C H A w rows n cs outs)(s:SameBut (· =x) H H')(hx:H x=some (.ins C' dx fs))(hf:fs.length<=2):BookAt a C H' A w rows n cs outs:=by
 obtain⟨⟨⟨d1,e1⟩,⟨chs,e2,e3⟩,e4,e5,e6,⟨kvs,e7,e8⟩,⟨DS,e9,e10⟩,r1,r2,r3,r4,r5⟩,⟨⟨d2,f1⟩,⟨ts,f2,f3⟩,f4,f5,f6⟩,nb⟩:=B
 have o:∀ {y:Addr} {o:HO},H y=some o->(∀ C'' d'' ,o≠.ins C'' d'' fs)->H' y=some o:=λe h=>s _ _ e<|BD e hx<|h _ _
 have oi:∀ {y:Addr} {C'' d'':Addr} {gs:List _},H y=some _->2<gs.length->H' y=some (.ins C'' d'' gs):=λe h=>o e λv v z=>by injection z with _ _ z;rw[z]at h;exact nL h hf
 have ol:∀ {y:Addr} {o':HO},H y=some o'->(∀ C'' d'' gs,o'≠.ins C'' d'' gs)->H' y=some o':=λe h=>o e λv v=>h _ _ _;exact{{{d1,oi e1 (by simp[bf])},{_,ol e2 (by simp),Paired.mapP e3 (by rintro y c ⟨d,pl,nt,g1,g2,g3⟩;exact x3 d pl nt {oi g1 (by simp[GI]),ol g2 (by simp),ol g3 (by simp)})},ol e4 (by simp),λi l h=>ol (e5 i l h) (by simp),e6,{_,ol e7 (by simp),e8},{_,ol e9 (by simp),e10},r1,r2,r3,r4,r5},{{d2,oi f1 (by simp[pf])},{ts,ol f2 (by simp),Paired.mapP f3 λt r z=>ol z (by simp)},f4,f5,f6},nb}
example:(zts,NZ,wR,3):=by
 apply KS;rintro x dx lp gp cl n r c w rows nn M ⟨rfl,⟨T,TP,TL,TS⟩,hx,L,P,sz,g,hrp,hok,q⟩;refine y3 {hx,TS.cl,TS.n1,by decide,?_}
 have e1:upd H x _ x=some (.ins (a "Store") dx (BP "plan" (.ref lp) [])):=AE
 have s1:SameBut _ H (upd H x<|.ins (a "Store") dx (BP "plan" (.ref lp) [])):=λy o e n=>by rw[AG n];exact e
 revert e1 s1;generalize upd H x _=H1;intro e1 s1
 have P1:PlankAt a H1 gp cl w rows nn:=by
  obtain⟨⟨dx',f1⟩,⟨ts,f2,f3⟩,r1,r2,r3⟩:=P;exact{{_,s1 _ _ f1 (BD f1 hx (NV (by simp[pf])))},{ts,s1 _ _ f2 (BD f2 hx (by intro z;cases z)),Paired.mapP f3 λt r z=>s1 _ _ z (BD z hx (by intro z;cases z))},r1,r2,r3}
 refine zr5 T TP P1 λA H2 eg ec off B s2=>?_
 have hx2:=s2 _ _ e1;refine y3 {hx2,TS.cl,TS.n2,FN  (by decide),λp hp=>?_}
 have np:=BE AE hp;rw[AG np.symm]at hp;refine y3 {by rw[AG np,AE],TS.cl,TS.n3,FN  (FN  (by decide)),?_};rw[ztp]
 have s3:SameBut _ H2 (upd (upd (upd H2 x<|.ins (a "Store") dx (BP "book" (.ref A.b) (BP "plan" (.ref lp) []))) p (.dK [])) x (.ins (a "Store") dx (sf lp A.b p))):=λy o e n=>by
  rw[AG n,AG<|BE e hp,AG n];exact e
 have e3:upd (upd (upd H2 x<|.ins (a "Store") dx (BP "book" (.ref A.b) (BP "plan" (.ref lp) []))) p (.dK [])) x _ x=some (.ins (a "Store") dx (sf lp A.b p)):=AE
 have p3:upd (upd (upd H2 x<|.ins (a "Store") dx (BP "book" (.ref A.b) (BP "plan" (.ref lp) []))) p (.dK [])) x (.ins (a "Store") dx (sf lp A.b p)) p=some (.dK []):=by rw[AG np.symm,AE]
 revert s3 e3 p3;generalize upd _ x _=H3;intro s3 e3 p3
 have sb:=(s1.trans<|Same.sb s2).trans s3
 have tk:D1 H H3:=λb xs e=>sb _ _ e (BD e hx (by intro z;cases z));obtain⟨dl,el⟩:=L.ob;refine q ⟨A,x,lp,p⟩ H3 rfl rfl eg ec (λy o e=>?_) (s1.none (by rw[e1];intro z;cases z) (s2.free hp)) {⟨dx,e3⟩,L.sb sb (BD el hx (NV (by simp[lf]))),(B.ins1 s3 hx2 (ψ (O4 _ _ _) (by simp))),p3,υ _,λz v h=>by simp[BF]at h,B.off hp,sz,{λr hr v hv=>(g r hr v hv).keep tk,λc hc=>by cases hc},λkind k v h1 h2 hv=>(hrp _ k v h1 h2 hv).keep tk,hok,.nil} sb;by_cases hy:y=x;subst hy;exact(off _ _ e1).imp id id;exact off y o<|s1 _ _ e hy
def ztt:NZ K a vs H Q E->vs.length=3:=by
 apply KS;rintro z z z z z z z z z z z z ⟨rfl,z⟩
 rfl
section
variable{X:SX}{cs:Rr}{tks:tZ}{M:Hs}
def bF{n r c w kind kind' k k':Nat}(h1:kind<5)(h2:kind'<5)(hk:k<BN n r c w kind)(hk':k'<BN n r c w kind')(e1:BI n r c w kind k=BI n r c w kind' k')(e2:k%w=k'%w):kind=kind'/\k=k':=by
 have f:∀ {kind x:Nat},kind<5->x<(if kind=0 then n else if kind=1 then r else if kind=2 then c else if kind=3 then r else c)->∀ b,(if kind=0 then 0 else if kind=1 then n+r+c else if kind=2 then n+r+c+r else if kind=3 then n else n+r)+x=b->(if b<n then 0 else if b<n+r then 3 else if b<n+r+c then 4 else if b<n+r+c+r then 1 else 2)=kind:=by
  intro kind x h hx b e
  match kind,h with
  |0,_=>rw[if_pos]<;>simp at hx e<;>exact e ▸ hx
  |1,_=>rw[if_neg]<;>simp at hx e<;>lia
  |2,_=>rw[if_neg]<;>simp at hx e<;>lia
  |3,_=>rw[if_neg]<;>simp at hx e<;>lia
  |4,_=>rw[if_neg]<;>simp at hx e<;>lia
 have key:kind=kind'/\k/w=k'/w:=by
  obtain rfl:kind=kind':=(f h1 (li (by rw[di];exact hk)) _ e1).symm.trans (f h2 (li (by rw[di];exact hk')) _ rfl);exact{rfl,Nat.add_left_cancel e1}
 exact{key.1,ztq key.2 e2}
def LaidA.newest{n r c w:Nat}{H:Hp}{cs:Rr}{as:List AC}(h:LaidA n r c w H cs as){kind k:Nat}(h1:kind<5)(hk:k<BN n r c w kind):EC cs (BI n r c w kind k:Nat) (k%w:Nat)=II kind k as/\cs.length=as.length:=by
 induction h with
 |nil=>exact⟨rfl,rfl⟩
 |@snoc cs as ch x _ e1 e2 e3 e4 e5 e6 ih =>
  refine{?_,by rw[ae,ih.2];rfl};rw[YO,ih.1,ih.2]
  show _=(if x.kind=kind/\x.k=k then some _ else II _ k as);by_cases e:x.kind=kind/\x.k=k;rw[if_pos e,if_pos {by rw[e1,e.1,e.2],by rw[e2,e.2]}];rw[if_neg e,if_neg λz=>e (bF e5 h1 e6 hk (by lia) (by lia))]
def SM.on(I:X.at a H cs tks M)(h1:kind<5)(hk:k<BN X.n X.r X.c X.w kind):BI X.n X.r X.c X.w kind k<X.rows.length/\k%X.w<X.w:=by
 refine{?_,uo _<|(zZ hk)};rw[I.sz.2.2.2.2];unfold BI
 have hd:=li (by rw[di];exact hk);rcases(c5 h1)with z|z|z|z|z<;>subst z<;>simp at hd ⊢ <;>lia
def SM.onPl(I:X.at a H cs tks M){kind k:Nat}(h1:kind<5)(hk:k<BN X.n X.r X.c X.w kind):onPl X.rows X.w (BI X.n X.r X.c X.w kind k:Nat) (k%X.w:Nat):=by
 have:=I.on h1 hk;exact{m_ _,by lia,m_ _,d_.mpr this.2}
def SM.val(I:X.at a H cs tks M){kind k:Nat}(h1:kind<5)(hk:k<BN X.n X.r X.c X.w kind):∃ v,ET cs X.rows (BI X.n X.r X.c X.w kind k:Nat) (k%X.w:Nat)=some v/\RepC H (M kind k) v:=by
 obtain⟨b1,b2⟩:=I.on h1 hk;obtain⟨v,ev⟩:=zY (λr' hr'=>I.bk.pk.wd r' hr') b1 b2 cs;exact{v,ev,I.rp _ k v h1 hk ev}
def SM.snoc{H':Hp}{kind k:Nat}{v:V}{x:CV}{nd:Zu}{nd':ad}(hd:∀ y:Int,y∈nd↔(∃ j∈nd',y=(j:Nat))\/p5 cs (BI X.n X.r X.c X.w kind k:Nat) (k%X.w:Nat) y)(I:X.at a H cs tks M)(h1:kind<5)(hk:k<BN X.n X.r X.c X.w kind)(B:EF a H' X.S.A X.w X.rows X.nn (cs++[{BI X.n X.r X.c X.w kind k,k%X.w,v,nd}]) X.outs)(s:SameBut X.S.A.F H H')(g:GoodV 4 H' v)(rx:RepC H' x v)(ox:DL kind x):X.at a H' (cs++[{BI X.n X.r X.c X.w kind k,k%X.w,v,nd}]) tks (M.put kind k x nd'):=by
 have lo:∀ x,X.S.A.F x->ER _:=λx hx=>I.bk.loose hx
 have tk:=KO s lo;obtain⟨⟨dx,e1⟩,e2,e3,e4,e5,e6,e7,e8,e9,e10,e11,e12⟩:=I;obtain⟨dl,el⟩:=e2.ob;refine{{dx,s _ _ e1 λz=>(lo _ z).2 _ _ _ e1},e2.sb s λz=>(lo _ z).2 _ _ _ el,B,s _ _ e4 e7,by rw[ae];exact da e5,λz v h=>?_,e7,e8,{(e9.keep tk).1,λc hc=>?_},λkind' k' v' h1' hk' hv=>?_,λkind' k' h1' hk'=>?_,(e12.keep tk).snoc rfl rfl rx (λy=>by rw[hd];unfold p5;rw[(e12.newest h1 hk).1]) h1 hk};obtain⟨k,ek,hk⟩:=e6 z v h;exact{k,ek,by rw[ae];exact da hk};rcases ao.mp hc with y|y
 exact(e9.keep tk).2 c y;rw[ρ.mp y];exact g;rw[zth]at hv;rw[Hs.put_at];by_cases hp:kind'=kind/\k'=k;obtain⟨rfl,rfl⟩:=hp;rw[if_pos ⟨rfl,rfl⟩]at hv ⊢;obtain rfl:=ι hv;exact rx;rw[if_neg λy=>hp (by
  have:=bF h1 h1' hk hk' (cw y.1) (cw y.2);exact⟨this.1.symm,this.2.symm⟩)]at hv
 rw[if_neg hp];exact(e10 _ k' v' h1' hk' hv).keep tk;rw[Hs.put_at];split;rename_i y;rw[y.1];exact ox;exact e11 _ k' h1' hk'
def IP{kind k:Nat}{v:V}{x:CV}{u nl:Addr}{ns:Zu}(T4:CL K a)(I:X.at a H cs tks M)(h1:kind<5)(hk:k<BN X.n X.r X.c X.w kind)(hu:H u=some (.tup [.int (BI X.n X.r X.c X.w kind k:Nat),.int (k%X.w:Nat)]))(hn:H nl=some (.lst<|ns.map V.int))(hl:ns.length<=60)(hcs:cs.length<990)(kn:∀ x∈ns,known cs x)(g:GoodV 4 H v)(rx:RepC H x v)(ox:DL kind x)
  (q:∀ ch H',X.at a H' (cs++[ch]) tks (M.put kind k x<|LQ ns)->SameBut X.S.A.F H H'->Q (.int cs.length) H'):FV K a [.ref X.S.A.b,.ref u,v,.ref nl] H Q E:=by
 obtain⟨T,TP,TL,TS⟩:=T4;refine OR _ _ _ _ cs _ u nl v ns _ _ {rfl,T,TP,I.bk,hu,SqL.of hn,hl,hcs,λz z nd H5 pw mem B5 G6=>?_,λy=>absurd (I.onPl h1 hk) y,λz ⟨x,hx,hk⟩=>absurd (kn x hx) hk}
 have tk:=KO G6 λx hx=>I.bk.loose hx;refine q _ H5 (I.snoc (λy=>?_) h1 hk B5 G6 (g.keep tk) (rx.keep tk) ox) G6;rw[mem];refine or_congr {λh=>{_,af.mpr ⟨y,h,rfl⟩,(ic<|(kn y h).1).symm},λhzz=>?_} Re;obtain⟨j,hj,e⟩:=hzz;obtain⟨x,hx,rfl⟩:=af.mp hj
 have:=(kn x hx).1;rw[show y=x by lia];exact hx
end
def NmX(H:Hp)(v:V):Option (Str × Nat)->Prop
 |none=>v=.non
 |some (z,k)=>∃ t,v=.ref t/\H t=some (.tup [.str z,.int k])
def NmX.keep(h:NmX H v x)(k:D1 H H'):NmX H' v x:=by
 cases x with
 |none=>exact h
 |some p=>obtain⟨t,e,et⟩:=h;exact{t,e,k _ _ et}
def RepC.nmv(h:RepC H (M 0 k) v)(ok:DL 0 (M 0 k)):NmX H v (D7 M k):=by
 unfold D7;cases e:M 0 k with
 |no=>rw[e]at h;exact h
 |nm z r=>rw[e]at h;exact h
 |mk i=>rw[e]at ok;exact ok.elim
 |rc m ps=>rw[e]at ok;exact ok.elim
 |tx z=>rw[e]at ok;exact ok.elim
example:(ztu,N0,aF,1):=by
 apply u4;rintro X cs tks M ⟨rfl,⟨T,TP,TL,TS⟩,I,q⟩;obtain⟨S,n,r,c,w,rows,nn,outs⟩:=X;obtain⟨dx,ho⟩:=I.ob;obtain⟨dl,el⟩:=I.ly.ob;obtain⟨db,eb⟩:=I.bk.bk.ob
 have hz:=I.sz
 have hkm:=ii hz.1 hz.2.2.2.1;push_cast[aF,↓wU_];refine y3 {ho,TS.cl,TS.n1,_,IM,y2 {el,B1,x5 _ n r c w {rfl,TL,I.ly,λt ht=>?_}}}
 have s1:=AL (o:=.tup [V.int (n*w),V.int<|r*w,V.int<|c*w]) ht;refine BB AE  rfl rfl ?_;revert s1
 have em:(n:Int)*w=(n*w:Nat):=rfl;intro s1;rw[em];push_cast[];refine{i0,by lia,LA (CJ _<|oA hkm rfl) (λi ys H'=>Same H H'/\ys.length=i/\∀ k v,ys[k]? =some v->ET cs rows (BI n r c w 0 k) (k%w)=some v) {s1,rfl,λk v h=>by simp at h} (λi ys H' hi hl hzz=>?_) (λys H' hl hzz p hp=>?_)}
 ·obtain⟨s,x,al⟩:=hzz;refine y3 {s _ _ ho,TS.cl,TS.n2,_,IN,y2 {s _ _ eb,DV,y3 {s _ _ ho,TS.cl,TS.n1,_,IM,y2 {s _ _ el,B1,x6 _ n r c w i {by simp,TL,I.ly.same s,λu hu=>?_}}}}}
  have s2:=s.trans<|AL (o:=.tup [.int (0+i/w),.int<|i%w]) hu;refine x9 _ w rows nn cs _ u (BI n r c w 0 i) (i%w) {rfl,T,TP,I.bk.same s2,by rw[AE];simp[BI],λx v H3 ev s3=>{s2.trans s3,by simp[hl],λk v' hk=>?_},λz=>absurd (SM.onPl I  (by decide) (hi)) z};rcases fe k _ with z|z
  rw[ba z]at hk;exact al k v' hk
  have:k=i:=by
   rcases Nat.eq_or_lt_of_le z with y|y
   exact hl ▸ y.symm;rw[bq (by simp;lia)]at hk;cases hk
  rw[ci z]at hk;subst this;rw[hl,xj]at hk;obtain rfl:=ι hk;exact ev
 obtain⟨s,x,al⟩:=hzz
 have s3:=s.trans<|AL (o:=.lst ys) hp;exact q p ys _ s3 AE hl λk v hk=>((I.rp 0 k v (by decide) (by simp[BN];exact hl ▸ ((ε.mp hk).1)) (al k v hk)).keep s3.tk)
def ztv:N0 K a vs H Q E->vs.length=1:=by
 apply u4;rintro z z z z ⟨rfl,z⟩
 rfl
def ztw(hi:i<m)(h:(D7 M i).any (λp=>decide<|p.1=z)=true)(hl:∀ j<i,(D7 M j).any (λp=>decide<|p.1=z)=false):cellOf M m z=some i:=by
 unfold cellOf;obtain⟨d,rfl⟩:=iw<|show i+1<=m from hi;rw[mz];refine{h,x2 (ο i) ((ο d).map (i+1+·)) {?_,λj hj=>by rw[hl j (ak.mp hj)];rfl}};rw[fh,xz,xz];simp[fh,Iy]
def ztx(hl:∀ j<m,(D7 M j).any (λp=>decide<|p.1=z)=false):cellOf M m z=none:=ko.mpr λj hj=>by rw[hl j (ak.mp hj)];exact bc
example:(zty,N2,xC,4):=by
 apply u5;rintro X cs tks M z ⟨rfl,T4,I,q⟩;obtain⟨dx,ho⟩:=I.ob;refine y2 {ho,B3,x4 X cs _ M {rfl,T4,I,λl xs H1 s1 el hl hx=>({{_,SqL.of el},X8  (λi σ H'=>(Same H H'/\Same H1 H'/\∀ j<i,(D7 M j).any (λp=>decide<|p.1=z)=false)/\∃ x y,σ=[some _,some _,x,y]) {{s1,Same.refl _,λj hj=>absurd hj<|nv _},x2 _ _ rfl} (by rintro i σ H' v ⟨⟨v,s,v⟩,v⟩;exact SqL.of<|s _ _ el) (λi x σ H' t hxi hzz ht=>?_) (λσ H' hzz=>?_)})}};obtain⟨⟨sH,s,lo⟩,y1,y2,rfl⟩:=hzz
 have hi:=(ε.mp hxi).1
 have s2:=s.trans<|AL (o:=.tup [.int i,x]) ht
 have sH2:=sH.trans<|AL (o:=.tup [.int i,x]) ht
 have nx:=((hx i x hxi).nmv (I.ok 0 i (by decide) (by rw[hl]at hi;exact hi))).keep s2.tk;refine{_,SqT.of AE,rfl,?_};revert s2 sH2 nx;generalize upd H' t _=H2;intro s2 sH2 nx
 have next:(D7 M i).any (λp=>decide _)=false->Same H H2/\Same H1 H2/\∀ j<i+1,(D7 M j).any (λp=>decide _)=false:=λh=>⟨sH2,s2,λj hj=>by
  rcases fe j i with y|y
  exact lo j y;rw[show j=i by exact n_ (f_ hj) y];exact h⟩
 push_cast[↓xB_,↓xA_];cases en:D7 M i with
 |none =>
  rw[en]at nx next;rw[nx];exact next rfl
 |some p =>
  rw[en]at nx next;obtain⟨u,rfl,eu⟩:=nx;refine BB eu  rfl rfl ?_;push_cast[];by_cases hz:p.1=z;rw[if_pos hz]
  have:=q _ sH2;rw[ztw  (hl ▸ hi) (by rw[en];simpa using hz) lo]at this;exact this;rw[if_neg hz];exact next (by simpa using hz)
 obtain⟨⟨sH,s,lo⟩,y1,y2,ez⟩:=hzz
 have:=q _ sH;rw[ztx (by rw[<-hl];exact lo)]at this;exact this
def ztz:N2 K a vs H Q E->vs.length=2:=by
 apply u5;rintro z z z z z ⟨rfl,z⟩
 rfl
example:(zt0,N1,aN,1):=by
 apply u4;rintro X cs tks M ⟨rfl,T4,I,q⟩
 have hz:=I.sz;obtain⟨dx,ho⟩:=I.ob
 have hkm:=ii hz.1 hz.2.2.2.1;push_cast[aN,↓w9_];refine y2 {ho,B3 (by decide),x4 X cs _ M {rfl,T4,I,λl xs H1 s1 el hl hx=>(.inl {{_,SqL.of el},oR  (CJ _<|oA (ψ (bt hl) hkm) rfl) (λi σ' ys H'=>H'=H1/\(∃ y0,σ'=[y0])/\ys=(KH M i).map V.str) {rfl,⟨_,rfl⟩,rfl} (by rintro i σ' ys H' ⟨e,z,ey⟩;exact{e ▸ SqL.of el,by rw[ey,ζ];exact ψ (ik _ _) (by simp)}) (λi x σ' ys H' hi hxi hzz=>?_) (λσ' ys H' hzz p hp=>?_)})}};obtain⟨e,⟨y0,es⟩,ey⟩:=hzz
 have nx:=(hx i x hxi).nmv (I.ok 0 i (by decide) (by rw[hl]at hi;simpa [BN]using hi));subst e es
 have WK:KH M (i+1)=KH M i++((D7 M i).map (·.1)).toList:=by
  unfold KH;rw[bz];cases e:D7 M i<;>simp[e]
 cases en:D7 M i with
 |none =>
  rw[en]at nx WK;rw[nx];exact{_,cq hi,rfl,hi,by rw[WK,ey];simp}
 |some p =>
  rw[en]at nx WK;obtain⟨u,rfl,eu⟩:=nx;exact{λy H4=>y=.str _/\H4=H',(by rintro y H4 ⟨e1,e2⟩;exact{_,cq hi,rfl,hi,e2,by rw[WK,ey,e1];simp}),BB eu  rfl rfl ⟨rfl,rfl⟩}
 obtain⟨rfl,z,ey⟩:=hzz
 have sp:=AL (o:=.lst ys) hp;exact x2 p (KH M _) {rfl,by rw[<-hl,<-ey];exact SqL.of AE,cr (ik _ _) (by simp;exact oC hkm rfl),λD ks hD pk hs=>(q D ks _ (s1.free<|sp.free hD) ((s1.trans sp).trans (AL hD)) AE pk hs)}
def zt1:N1 K a vs H Q E->vs.length=1:=by
 apply u4;rintro z z z z ⟨rfl,z⟩
 rfl
example:(zt2,Q4,aQ,3):=by
 apply u7;rintro X cs tks M z gl zs ⟨rfl,T4,I,eg,hl,hy,q,q1,q2⟩;obtain⟨dx,ho⟩:=I.ob;push_cast[aQ,↓xN_];refine .inl {{_,SqL.of eg},Yv  (CJ _ (by rw[ζ];exact oA hl rfl)) (λi ys H'=>Same H H'/\ys=((zs.take i).map BY).map V.bl) {Same.refl _,rfl} (λi ys H' y ⟨s,_⟩=>SqL.of<|s _ _ eg) (λi x ys H' hxi hyl hzz=>?_) (λys H' hyl hzz p hp=>?_)};obtain⟨s,ey⟩:=hzz;rw[τ,au]at hxi;obtain⟨x',hx',rfl⟩:=hxi;refine{x',rfl,hy x'<|η hx',λH2 s2=>{s.trans s2,?_}};rw[dz,hx',ey];simp;obtain⟨s,ey⟩:=hzz;rw[ζ,ce]at ey
 have s2:=s.trans<|AL (o:=.lst ys) hp;refine x2 p _ {rfl,by rw[<-ey];exact SqL.of AE,?_};rw[Ie,Function.id_comp];revert s2;intro s2;cases hb:zs.all _ with
 |false =>
  exact{by decide,q1 hb _ s2}
 |true =>
  refine y2 {s2 _ _ ho,B3,x5 X cs _ M z {rfl,T4,I.same s2,λH3 s3=>?_}}
  have s4:=s2.trans s3;cases hc:cellOf M _ z with
  |none =>
   exact q hb hc _ s4
  |some k =>
   exact{by decide,q2 hb ⟨k,hc⟩ _ s4}
def zt3:Q4 K a vs H Q E->vs.length=3:=by
 apply u7;rintro z z z z z z z ⟨rfl,z⟩
 rfl
def KP{S:SA}{dx db gp mm mi lt ou:Addr}{mth:Str}{P:V->Prop}(TS:US K a)(ho:H S.st=some (.ins (a "Store") dx (sf S.lp S.A.b S.tk)))(eb:H S.A.b=some (.ins (a "Hold") db (bf gp mm mi lt ou)))(hm:(bf gp mm mi lt ou).lookup mth=none)(p:P (.ref S.A.b)) :
  ∃ x x1 x2,H S.st=some (.ins x x1 x2)/\Cls K x/\NoAttr K x "book"/\∃ v,x2.lookup ("book":Str)=some v/\CD v λb=>∃ y y1,H b=some (.ins (a "Hold") y y1)/\y1.lookup mth=none/\P v:=y3 {ho,TS.cl,TS.n2,_,IN,y2 ⟨eb,hm,p⟩}
def JP{S:SA}{dx dl:Addr}{n r c w:Int}{mth:Str}{P:V->Prop}(TS:US K a)(ho:H S.st=some (.ins (a "Store") dx (sf S.lp S.A.b S.tk)))(el:H S.lp=some (.ins (a "Layout") dl (lf n r c w)))(hm:(lf n r c w).lookup mth=none)(p:P (.ref S.lp)) :
  ∃ x x1 x2,H S.st=some (.ins x x1 x2)/\Cls K x/\NoAttr K x "plan"/\∃ v,x2.lookup ("plan":Str)=some v/\CD v λb=>∃ y y1,H b=some (.ins (a "Layout") y y1)/\y1.lookup mth=none/\P v:=y3 {ho,TS.cl,TS.n1,_,IM,y2 ⟨el,hm,p⟩}
section
variable{p:Addr}{n r c w k:Nat}
def lNA(TL:DZ K a)(L:LayAt a H p n r c w)(q:GZ (0+k/w) (k%w) Q H):KF K a [.ref p,.int k] H Q E:=x6 p n r c w k ⟨rfl,TL,L,q⟩
def RO(TL:DZ K a)(L:LayAt a H p n r c w)(q:GZ (n+k/w) (k%w) Q H):HE K a [.ref p,.int k] H Q E:=x6 p n r c w k ⟨rfl,TL,L,q⟩
def lPA(TL:DZ K a)(L:LayAt a H p n r c w)(q:GZ (n+r+k/w) (k%w) Q H):MP K a [.ref p,.int k] H Q E:=x6 p n r c w k ⟨rfl,TL,L,q⟩
def Aj(TL:DZ K a)(L:LayAt a H p n r c w)(q:GZ (n+r+c+k/w) (k%w) Q H):JG K a [.ref p,.int k] H Q E:=x6 p n r c w k ⟨rfl,TL,L,q⟩
def lPM(TL:DZ K a)(L:LayAt a H p n r c w)(q:GZ (n+r+c+r+k/w) (k%w) Q H):JH K a [.ref p,.int k] H Q E:=x6 p n r c w k ⟨rfl,TL,L,q⟩
end
def bG:∀ {l:ad},(∀ k∈l,f k=g k)->l.find? f=l.find? g
 | [],_=>rfl
 |k::l,h=>by
  rw[Mu,Mu,h k ai,bG λk' hk'=>h k'<|ω _ hk']
def zt7(h:∀ k<m,f k=g k):EH f m=EH g m:=by
 unfold EH;rw[bG λk hk=>h k<|ak.mp hk]
section
variable{X:SX}{cs:Rr}{tks:tZ}{M:Hs}
def SM.free(I:X.at a H cs tks M){kind:Nat}(hk:kind<3):EH (MS cs X.rows X.n X.r X.c X.w kind) (BN X.n X.r X.c X.w kind)=EI M kind (BN X.n X.r X.c X.w kind):=zt7 λk hkm=>by
 obtain⟨v,ev,rv⟩:=I.val (oA hk rfl) hkm;unfold MS;rw[ev];cases e:M _ k with
 |no=>rw[e]at rv;rw[rv];simp[LN,CQ]
 |nm z r=>rw[e]at rv;obtain⟨t,rfl,y⟩:=rv;simp[LN,CQ]
 |mk i =>
  rw[e]at rv;rw[rv];simp[LN,CQ]
 |rc m ps=>rw[e]at rv;revert rv;apply u2;rintro t u ⟨rfl,y⟩;simp[LN,CQ]
 |tx z=>rw[e]at rv;rw[rv];simp[LN,CQ]
def Ak(h:cellOf M m z=some cell):cell<m/\∃ k,M 0 cell=.nm z k:=by
 have h2:=M_ h;unfold D7 at h2;refine{(ak.mp<|yg h),?_};cases e:M 0 _ with
 |nm z' k =>
  rw[e]at h2;simp at h2;exact{k,by rw[h2]}
 |_=>rw[e]at h2;simp at h2
def VM{kind:Nat}(T4:CL K a)(I:X.at a H cs tks M)(hk:kind<3)(q:∀ k:Nat,EI M kind (BN X.n X.r X.c X.w kind)=k->k<BN X.n X.r X.c X.w kind->∀ H',Same H H'->Q (.int k) H')(qe:EI M kind (BN X.n X.r X.c X.w kind)= -1->EU a H "NoRoom" E):UP kind K a X.S.lp X.S.A.b H Q E:=by
 obtain⟨z1,z2,z3,z4,z5⟩:=I.sz;obtain⟨T,TP,TL,TS⟩:=T4;refine x9 _ _ _ _ _ _ _ cs _ {rfl,T,TP,TL,I.ly,z1,z2,z3,z4,I.bk,z5,λi j v hv=>ztg I.gd hv,λk e H' s=>?_,λe H' s=>?_};rw[I.free hk]at e;exact q k e (ztr e) H' s;rw[I.free hk]at e;exact qe e H' s
end
example:(zt8,JI,aG,2):=by
 apply u5;rintro X cs tks M rec ⟨rfl,⟨T,TP,TL,TS⟩,I,hr,q⟩;obtain⟨dx,ho⟩:=I.ob;obtain⟨dl,el⟩:=I.ly.ob;obtain⟨db,eb⟩:=I.bk.bk.ob
 have hm:rec<BN X.n X.r X.c _ 3:=hr;push_cast[aG,↓wV_];refine KP TS (ho) (eb) (DV) (JP TS (ho) (el) (B1) (RO TL (I.ly) λu hu=>?_))
 have s2:=AL (o:=.tup [.int (X.n+rec/X.w),.int<|rec%X.w]) hu;refine x9 _ _ _ _ cs _ u _ _ {rfl,T,TP,I.bk.same s2,by rw[AE];simp[BI],λy v H3 ev s3=>?_,λz=>absurd (I.onPl  (by decide) hm) z}
 have s4:=s2.trans s3;exact q v H3 ((I.rp 3 _ v (by decide) hm ev).keep s4.tk) s4
def zt9:JI K a vs H Q E->vs.length=2:=by
 apply u5;rintro z z z z z ⟨rfl,z⟩
 rfl
example:(zua,KI,xO,3):=by
 apply u5;rintro X cs tks M z ⟨rfl,T4,I,q,qe⟩;obtain⟨dx,ho⟩:=I.ob;refine y2 {ho,B3,x5 X cs _ M z {rfl,T4,I,λH1 s1=>?_}};cases e:cellOf M _ z with
 |none =>
  exact{by decide,qe e _ s1}
 |some cell =>
  obtain⟨hc,k,ek⟩:=Ak e;refine y2 {s1 _ _ ho,B3,x4 X cs _ M {rfl,T4,I.same s1,λl xs H2 s2 el hl hx=>?_}}
  have ex:=θ (by rw[hl];exact hc)
  have rx:=hx _ _ ex;rw[ek]at rx;obtain⟨t,et,et2⟩:=rx;exact CW (SqL.of el) rfl ex (by rw[et];exact BB et2  rfl rfl (q _ k e hc ek _<|s1.trans s2))
def zub:KI K a vs H Q E->vs.length=2:=by
 apply u5;rintro z z z z z ⟨rfl,z⟩
 rfl
def Al{X:SX}{cs:Rr}{tks:tZ}{M:Hs}{cell rec need:Nat}{z:Str}{nl:Addr}{ns:Zu}{H2:Hp}(T4:CL K a)(I:X.at a H cs tks M)(hc:cell<X.m0)(hcs:cs.length<980)(hz:cy z=true)(s:Same H H2)(en:H2 nl=some (.lst<|ns.map V.int))(hl:ns.length<=60)(kn:∀ x∈ns,known cs x)
  (q:UT X a H cs tks (M.put 0 cell (.nm z rec) (LQ ns)) Q) :
  aH K a (λ_=>E) (λ_=>E) (AV Q) [some (.ref X.S.st),some<|.int cell,some<|.str z,some<|.int rec,some<|.int need,some<|.ref nl] H2:=by
 have T4':=T4;obtain⟨T,TP,TL,TS⟩:=T4;obtain⟨dx,ho⟩:=I.ob;obtain⟨dl,el⟩:=I.ly.ob;obtain⟨db,eb⟩:=I.bk.bk.ob;push_cast[↓aH_];refine KP TS (s _ _ ho) (s _ _ eb) (DV) (JP TS (s _ _ ho) (s _ _ el) (B1) (lNA TL (I.ly.same s) λu hu=>?_))
 have s2:=s.trans<|AL (o:=.tup [.int (0+cell/X.w),.int<|cell%X.w]) hu
 have eu:upd H2 u (.tup [.int (0+cell/X.w),.int<|cell%X.w]) u=some (.tup [.int (BI X.n X.r X.c X.w 0 cell),.int<|cell%X.w]):=by rw[AE];simp[BI]
 have en2:=AL (o:=.tup [.int (0+cell/X.w),.int<|cell%X.w]) hu _ _ en;revert s2 eu en2;generalize upd H2 u _=H3;refine λs2 eu en2=>{by decide,λt ht=>?_}
 have st:=AL (o:=.tup [V.str z,V.int rec]) ht
 have s4:=s2.trans st
 have et:upd H3 t _ t=some (.tup [V.str z,V.int rec]):=AE;refine IP T4' (I.same s4)  (x:=.nm z _) (by decide) (hc) (st _ _ eu) (st _ _ en2) hl (oA hcs rfl) kn {_,et,by simp,λv hv=>?_} ⟨t,rfl,et⟩ trivial λch H' I' sb=>q ch H' I' λb o e n=>sb _ _ (s4 _ _ e) n;simp only[ax,b_,or_false]at hv;rcases hv with rfl|rfl
 exact hz
 trivial
example:(zuc,Q5,aI,6):=by
 apply u8;rintro X cs tks M cell rec need z ⟨rfl,⟨T,TP,TL,TS⟩,I,hc,hn,hcs,hz,q⟩;obtain⟨dx,ho⟩:=I.ob;push_cast[aI,↓wW_];refine{by decide,λnl hnl=>?_}
 have s1:=AL (o:=.lst [V.int need]) hnl;refine y3 {s1 _ _ ho,TS.cl,TS.n3,_,bE,_,dS<|s1 _ _ I.tk,?_}
 have e1:upd H nl _ nl=some (.lst [V.int need]):=AE
 have kn:known cs _:={i0,d_.mpr hn}
 cases hv:BF tks _ with
 |none =>
  rw[show E8 _ z=[] by unfold E8;rw[hv]]at q;exact Al (ns:=[need]) ⟨T,TP,TL,TS⟩ I hc hcs hz s1 e1 (by simp) (λx hx=>by rw[ρ.mp hx];exact kn) q
 |some v =>
  obtain⟨k,rfl,hk⟩:=I.tv z v hv;rw[show E8 _ z=[k] by unfold E8;rw[hv];rfl]at q;refine{.inl {rfl,_,SqL.of e1},y3 {s1 _ _ ho,TS.cl,TS.n3,_,bE,_,LB (s1 _ _ I.tk) hv,{_,e1,(by show 1<sizeLine;decide),?_}}};rw[HR];refine Al (ns:=[need,k]) ⟨T,TP,TL,TS⟩ I hc hcs hz (AL hnl) AE (by simp) (λx hx=>?_) q;simp only[ax,b_,or_false]at hx;rcases hx with rfl|rfl
  exact kn;exact{i0,d_.mpr hk}
def zud:Q5 K a vs H Q E->vs.length=5:=by
 apply u8;rintro z z z z z z z z ⟨rfl,z⟩
 rfl
def zue(ps:ad):∀ v∈AX ps,GoodV (n+1) H v:=λv hv=>by
 obtain⟨p,z,rfl⟩:=af.mp hv
 trivial
def bH{H:Hp}{t u:Addr}{m:Nat}{ps:ad}(h1:H t=some (.tup [.int m,.ref u]))(h2:H u=some (.tup<|AX ps))(hl:ps.length<=100):GoodV 4 H (.ref t):=⟨_,h1,by simp,λv hv=>by
 simp only[ax,b_,or_false]at hv;rcases hv with rfl|rfl
 trivial
 exact{_,h2,by simp[AX];exact hl,zue ps}⟩
example:(zuf,N3,xE,5):=by
 apply SB;rintro X cs tks M rec m m' more ps nl ns ⟨rfl,T4,I,hr,eM,hm',hps,en,hl,kn,hcs,q⟩
 have T4':=T4;obtain⟨T,TP,TL,TS⟩:=T4;obtain⟨dx,ho⟩:=I.ob;obtain⟨dl,el⟩:=I.ly.ob;obtain⟨db,eb⟩:=I.bk.bk.ob;refine y2 {ho,B3,x5 X cs _ M _ {rfl,T4',I,hr,λv H1 rv s=>?_}};rw[eM]at rv;revert rv;apply u2;rintro t0 u0 ⟨rfl,FQ,F9⟩;push_cast[↓xD_];refine KP TS (s _ _ ho) (s _ _ eb) (DV) (JP TS (s _ _ ho) (s _ _ el) (B1) (RO TL (I.ly.same s) λu hu=>?_))
 have sa:=AL (o:=.tup [.int (X.n+rec/X.w),.int<|rec%X.w]) hu
 have eu:upd H1 u (.tup [.int (X.n+rec/X.w),.int<|rec%X.w]) u=some (.tup [.int (BI X.n X.r X.c X.w 3 rec),.int<|rec%X.w]):=by rw[AE];simp[BI]
 revert sa eu;generalize upd H1 u _=H2;refine λsa eu=>BB (sa _ _ FQ)  rfl rfl (BB (sa _ _ FQ)  rfl rfl {by decide,λt ht=>?_});rw[hm']
 have st:=AL (o:=.tup [V.int m',V.ref u0]) ht
 have s4:=(s.trans sa).trans st
 have e1:upd H2 t _ t=some (.tup [V.int m',V.ref u0]):=AE
 have e2:=st _ _<|sa _ _ F9;exact IP T4' (I.same s4)  (x:=.rc m' ps) (by decide) (hr) (st _ _ eu) (s4 _ _ en) hl (oA hcs rfl) kn (bH e1 e2 hps) (x2 t u0 ⟨rfl,e1,e2⟩) trivial λch H' I' sb=>q ch H' I' λb o e n=>sb _ _ (s4 _ _ e) n
def zug:N3 K a vs H Q E->vs.length=4:=by
 apply SB;rintro z z z z z z z z z z z ⟨rfl,z⟩
 rfl
example:(zuh,Q6,aO,4):=by
 apply SB;rintro X cs tks M rec m ps ps' pl nl ns ⟨rfl,T4,I,hr,eM,epl,hps,en,hl,kn,hcs,q⟩
 have T4':=T4;obtain⟨T,TP,TL,TS⟩:=T4;obtain⟨dx,ho⟩:=I.ob;obtain⟨dl,el⟩:=I.ly.ob;obtain⟨db,eb⟩:=I.bk.bk.ob;push_cast[aO,↓xF_];refine KP TS (ho) (eb) (DV) (JP TS (ho) (el) (B1) (RO TL (I.ly) λu hu=>?_))
 have sa:=AL (o:=.tup [.int (X.n+rec/X.w),.int<|rec%X.w]) hu
 have eu:upd H u (.tup [.int (X.n+rec/X.w),.int<|rec%X.w]) u=some (.tup [.int (BI X.n X.r X.c X.w 3 rec),.int<|rec%X.w]):=by rw[AE];simp[BI]
 revert sa eu;refine λsa eu=>y2 {sa _ _ ho,B3,x5 X cs _ M _ {rfl,T4',I.same sa,hr,λv H3 rv s3=>?_}};rw[eM]at rv;revert rv;apply u2;rintro t0 u0 ⟨rfl,FQ,F9⟩;refine BB FQ  rfl rfl {by decide,λt ht=>?_}
 have st:=AL (o:=.tup [V.int m,V.ref pl]) ht
 have s4:=(sa.trans s3).trans st
 have e1:upd H3 t _ t=some (.tup [V.int m,V.ref pl]):=AE
 have e2:=s4 _ _ epl;exact IP T4' (I.same s4)  (x:=.rc m _) (by decide) (hr) (st _ _<|s3 _ _ eu) (s4 _ _ en) hl (oA hcs rfl) kn (bH e1 e2 hps) (x2 t pl ⟨rfl,e1,e2⟩) trivial λch H' I' sb=>q ch H' I' λb o e n=>sb _ _ (s4 _ _ e) n
def zui:Q6 K a vs H Q E->vs.length=4:=by
 apply SB;rintro z z z z z z z z z z z ⟨rfl,z⟩
 rfl
def M3{α β γ :Type}{F: α -> β ->Prop}{G: α -> γ ->Prop}{f: β -> γ}:∀ {l:List α} {m:List β},Paired F l m->(∀ x y,F x y->G x (f y))->Paired G l (m.map f)
 |_,_,.nil,_=>.nil
 |_,_,.cons h t,k=>.cons (k _ _ h) (M3 t k)
def bI{te:TE}{AY:ad}{σ:St}{b:Addr}{xs:Tr}(hn:xs.length<=sizeLine)(Pv:Nat->Tr->Hp->Prop)(h0:Pv 0 [] H)(hq:∀ i ys H,i<=xs.length->Pv i ys H->SqT K H b xs)
  (hs:∀ i x ys H,xs[i]? =some x->ys.length=i->Pv i ys H->te (some x::C1 AY σ) H λy H2=>Pv (i+1) (ys++[y]) H2)
  (hd:∀ ys H,ys.length=xs.length->Pv xs.length ys H->∀ p,H p=none->Q (.ref p) (upd H p<|.lst ys)) :
  DU (IW K b) (AF 0) CG te 1 AY σ H Q:=by
 refine{λi m σ' ys H=>m=xs.length-i/\i<=xs.length/\ys.length=i/\(∃ x0,σ'=x0::C1 _ σ)/\Pv i ys H,{xs.length,rfl,bu _,rfl,⟨_,rfl⟩,h0},?_};rintro i m σ' ys H ⟨rfl,hi,hl,⟨x0,rfl⟩,p⟩
 have q:=hq i ys H hi p;by_cases A0:i<xs.length;refine .inr {x2 xs (xs[i]) {q,by simp[A0]},by lia,λx H' y=>?_};obtain⟨rfl,y⟩:=y;refine{_,λy H4 q=>{_,cq A0,rfl,A0,?_,⟨_,rfl⟩,q},hs i x ys _ (y xs q) hl p};rw[ae,ji,hl]
 have e:i=xs.length:=by lia
 subst e;exact .inl {{xs,q,υ _},hd ys H hl p}
section
variable{X:SX}{cs:Rr}{tks:tZ}{M:Hs}
def SM.lput{l:Addr}{xs ys:Tr}(I:X.at a H cs tks M)(e:H l=some (.lst xs))(f:¬ X.S.A.F l):X.at a (upd H l<|.lst ys) cs tks M:=by
 have s:SameBut _ H (upd H l<|.lst ys):=λy o ey n=>by rw[AG n];exact ey
 have g:∀ x,x=l->ER _:=λx hx=>by rw[hx];exact MN e
 have tk:=KO s g;obtain⟨⟨dx,e1⟩,e2,e3,e4,e5,e6,e7,e8,e9,e10,e11,e12⟩:=I;obtain⟨dl,el⟩:=e2.ob;exact{{dx,s _ _ e1 (BD e1 e (by intro z;cases z))},e2.sb s (BD el e (by intro z;cases z)),e3.sb s g λx hx=>by rw[hx];exact f,s _ _ e4 (BD e4 e (by intro z;cases z)),e5,e6,e7,e8,e9.keep tk,λkind k v h1 h2 hv=>(e10 _ k v h1 h2 hv).keep tk,e11,e12.keep tk}
def SM.taken(I:X.at a H cs tks M)(hk:k<cs.length)(hl:tks.length<cs.length):X.at a (upd H X.S.tk<|.dK<|B0 tks (.inr z) (.int k)) cs (B0 tks (.inr z) (.int k)) M:=by
 have s:SameBut _ H (upd H X.S.tk<|.dK<|B0 tks (.inr z) (.int k)):=λy o ey n=>by rw[AG n];exact ey
 have g:∀ x,x=X.S.tk->ER _:=λx hx=>by rw[hx];exact MO I.tk
 have tk:=KO s g;obtain⟨⟨dx,e1⟩,e2,e3,e4,e5,e6,e7,e8,e9,e10,e11,e12⟩:=I;obtain⟨dl,el⟩:=e2.ob;refine{{dx,s _ _ e1 (BD e1 e4 (by intro z;cases z))},e2.sb s (BD el e4 (by intro z;cases z)),e3.sb s g λx hx=>by rw[hx];exact e7,AE,ψ (K1 ..) (hl),λy v h=>?_,e7,e8,e9.keep tk,λkind k v h1 h2 hv=>(e10 _ k v h1 h2 hv).keep tk,e11,e12.keep tk};rw[K0]at h;split at h;obtain rfl:=ι h;exact⟨k,rfl,hk⟩;exact e6 y v h
end
example:(zuj,Q7,aR,4):=by
 apply u8;rintro X cs tks M cell z nl ns ⟨rfl,T4,I,ec,hc,en,hl,kn,hcs,q⟩
 have T4':=T4;obtain⟨dx,ho⟩:=I.ob;obtain⟨dl,el⟩:=I.ly.ob;obtain⟨T,TP,TL,TS⟩:=T4;obtain⟨db,eb⟩:=I.bk.bk.ob;push_cast[aR,↓xP_];refine y3 {ho,TS.cl,TS.n2,_,IN,y2 {eb,DV,y3 {ho,TS.cl,TS.n1,_,IM,y2 {el,B1,y2 {ho,B3,x5 X cs _ M z {rfl,T4',I,λH1 s1=>?_}}}}}};rw[ec];refine x6 _ _ _ _ _ _ {rfl,TL,I.ly.same s1,λu hu=>?_}
 have eu:upd H1 u (.tup [.int (0+cell/X.w),.int<|cell%X.w]) u=some (.tup [.int (BI X.n X.r X.c X.w 0 cell),.int<|cell%X.w]):=by rw[AE];simp[BI]
 have s2:=s1.trans<|AL (o:=.tup [.int (0+cell/X.w),.int<|cell%X.w]) hu;revert eu s2;refine λeu s2=>IP T4' (I.same s2)  (x:=.no) (by decide) (hc) eu (s2 _ _ en) hl (oA hcs rfl) kn trivial rfl trivial λch H3 I3 sb=>?_;obtain⟨dx3,ho3⟩:=I3.ob
 have tl:=I.tl;refine y3 {ho3,TS.cl,TS.n3,_,bE,_,pS I3.tk<|oD (cr tl hcs) rfl,(q ch _ (I3.taken (by simp) (by simp;exact yj tl)) λy o e n=>?_)};rw[AG λy=>n<|.inr y];exact sb _ _ (s2 _ _ e) λy=>n<|.inl y
def zuk:Q7 K a vs H Q E->vs.length=3:=by
 apply u8;rintro z z z z z z z z ⟨rfl,z⟩
 rfl
def drI(a:Ad)(X:SX)(cs:Rr)(tks:tZ)(M:Hs)(rec gone:Nat)(u0 ml:Addr)(pls:List (Nat × Nat))(H6:Hp)(i:Nat)(σ:St)(H':Hp):Prop:=(∃ ex,ex.length=i+1/\X.at a H' (cs++ex) tks ((pls.take i).foldl (λ(M:Hs) (y:Nat × Nat)=>M.put y.1 y.2 (.mk 0) [cs.length]) (M.put 3 rec .no [gone]))/\H' ml=some (.lst (AX ((ο<|i+1).map (cs.length+·))))/\SameBut (λx=>X.S.A.F x\/x=ml) H6 H')/\∃ y6,σ=[some (.ref X.S.st),some<|.int rec,some<|.int gone,some<|.ref u0,some<|.int cs.length,some<|.ref ml,y6]
example:(zum,UU,xK,7):=by
 apply u8;rintro X cs tks M rec m gone ps ⟨rfl,T4,I,hr,eM,hg,hps,CB,hcs,q⟩
 have T4':=T4;obtain⟨dx,ho⟩:=I.ob;obtain⟨T,TP,TL,TS⟩:=T4;refine y2 {ho,B3,x5 X cs _ M _ {rfl,T4',I,hr,λv H1 rv s=>?_}};rw[eM]at rv;revert rv;apply u2;rintro t0 u0 ⟨rfl,FQ,F9⟩
 have I1:=I.same s;refine BB FQ  rfl rfl ?_;obtain⟨dx1,ho1⟩:=I1.ob;obtain⟨dl1,el1⟩:=I1.ly.ob;obtain⟨db1,eb1⟩:=I1.bk.bk.ob;push_cast[↓xG_];refine KP TS (ho1) (eb1) (DV) (JP TS (ho1) (el1) (B1) (RO TL (I1.ly) λu hu=>{by decide,λnl hnl=>?_}))
 have sb:=AL (o:=.lst [V.int gone]) hnl
 have eu:=sb _ _ (show upd H1 u _ u=some (.tup [.int (BI X.n X.r X.c X.w 3 rec),.int<|rec%X.w]) by rw[AE];simp[BI])
 have en:upd (upd H1 u<|.tup [.int (X.n+rec/X.w),.int<|rec%X.w]) nl _ nl=some (.lst<|[(gone:Int)].map V.int):=AE
 have s2:=(AL  hu).trans sb;revert eu en s2;refine λeu en s2=>IP T4' (I1.same s2)  (x:=.no) (by decide) (hr) eu en (by simp) (oA hcs rfl) (λx hx=>by rw[ρ.mp hx];exact{i0,d_.mpr hg}) trivial rfl trivial λch H3 I3 NF=>?_;push_cast[↓xH_];refine{by decide,λml hml=>?_}
 have sm:=AL (o:=.lst [V.int cs.length]) hml
 have I4:=I3.same sm
 have fml:=I3.bk.off hml
 have eu4:=sm _ _<|(KO NF λx hx=>(I1.same s2).bk.loose hx) _ _ (s2 _ _ F9)
 have em4:upd H3 ml _ ml=some (.lst [V.int cs.length]):=AE
 have hmlH:H ml=none:=by
  cases e:H ml with
  |none=>rfl
  |some o=>have:=NF _ _ (s2 _ _<|s _ _ e) fml;rw[hml]at this;cases this
 have sb4:SameBut _ H _:=λy o e n=>sm _ _<|NF _ _ (s2 _ _<|s _ _ e) n;revert I4 eu4 em4 sb4;generalize upd H3 ml _=H4;intro I4 eu4 em4 sb4;obtain⟨dx4,ho4⟩:=I4.ob;obtain⟨dl4,el4⟩:=I4.ly.ob;push_cast[↓xJ_];refine .inr {{_,SqT.of eu4},bI  (CJ _ (by simp[AX];exact oA CB rfl)) (λi ys H'=>Same H4 H'/\∃ us:List _,ys=us.map V.ref/\Paired (λu p=>H' u=some (.tup [.int (BI X.n X.r X.c X.w 2 p),.int<|p%X.w])) us (ps.take i)) {Same.refl _,[],rfl,.nil} (λi ys H' j ⟨s',_⟩=>SqT.of<|s' _ _ eu4) (λi x ys H' hx hyl hzz=>?_) (λys H' hyl hzz lc hlc=>?_)};obtain⟨s',us,ey,pu⟩:=hzz;unfold AX at hx;rw[τ,au]at hx;obtain⟨p,ep,rfl⟩:=hx;push_cast[C1];refine y3 {s' _ _ ho4,TS.cl,TS.n1,_,IM,y2 {s' _ _ el4,B1,x6 _ _ _ _ _ p {rfl,TL,I4.ly.same s',λu' hu'=>?_}}}
 have su:=AL (o:=.tup [.int (X.n+X.r+X.c+X.r+(p:Int)/X.w),.int<|(p:Int)%X.w]) hu';refine{s'.trans su,us++[u'],by rw[ey,χ];rfl,?_};rw[dz,ep];exact Paired.snoc (Paired.mapP pu λt r z=>su _ _ z) (by rw[AE];simp[BI]);obtain⟨s',us,rfl,pu⟩:=hzz;rw[show(AX ps).length=ps.length by simp[AX],ce]at pu
 have sc:=AL (o:=.lst<|us.map V.ref) hlc
 have s5:=s'.trans sc;refine JP TS (s5 _ _ ho4) (s5 _ _ el4) (B1) (Aj TL (I4.ly.same s5) λur hur=>{by decide,λlr hlr=>.inl ?_})
 have se:=AL (o:=.lst [V.ref ur]) hlr
 have sd:=AL (o:=.tup [.int (X.n+X.r+X.c+(rec:Int)/X.w),.int<|(rec:Int)%X.w]) hur;refine x4 lc lr _ _ {rfl,rfl,se _ _<|sd _ _ AE,AE,CJ _ (by have:=pu.length;simp;exact oA (ψ (bt this) CB) rfl),λl2 D3=>?_}
 have sf':=AL (o:=.lst<|us.map V.ref++[V.ref ur]) D3
 have er:upd (upd (upd (upd H' lc<|.lst<|us.map V.ref) ur (.tup [.int (X.n+X.r+X.c+(rec:Int)/X.w),.int<|(rec:Int)%X.w])) lr (.lst [V.ref ur])) l2 (.lst<|us.map V.ref++[V.ref ur]) ur=some (.tup [.int (BI X.n X.r X.c X.w 1 rec:Nat),.int (rec%X.w:Nat)]):=(se.trans sf') _ _ (by rw[AE];simp[BI])
 have sg:=(sd.trans se).trans sf'
 have hl2F:¬ X.S.A.F l2:=by
  have:=((I4.same s5).same (sd.trans se)).bk.off D3;exact this
 have el2:upd (upd (upd (upd H' lc<|.lst<|us.map V.ref) ur (.tup [.int (X.n+X.r+X.c+(rec:Int)/X.w),.int<|(rec:Int)%X.w])) lr (.lst [V.ref ur])) l2 (.lst<|us.map V.ref++[V.ref ur]) l2=some (.lst<|(us++[ur]).map V.ref):=by rw[AE];simp
 have s6:=s5.trans sg
 have nlm:=(BE (se _ _<|sd _ _<|s5 _ _ em4) D3).symm
 have PP:Paired (λu (y:Nat × Nat)=>upd (upd (upd (upd H' lc<|.lst<|us.map V.ref) ur (.tup [.int (X.n+X.r+X.c+(rec:Int)/X.w),.int<|(rec:Int)%X.w])) lr (.lst [V.ref ur])) l2 (.lst<|us.map V.ref++[V.ref ur]) u=some (.tup [.int (BI X.n X.r X.c X.w y.1 y.2:Nat),.int (y.2%X.w:Nat)])) (us++[ur]) (ps.map (λp=>(2,p))++[(1,rec)]) :=
  Paired.snoc (M3 pu λu p z=>sg _ _<|sc _ _ z) er
 revert s6 el2 PP;generalize upd (upd (upd (upd H' lc<|.lst<|us.map V.ref) ur (.tup [.int (X.n+X.r+X.c+(rec:Int)/X.w),.int<|(rec:Int)%X.w])) lr (.lst [V.ref ur])) l2 (.lst<|us.map V.ref++[V.ref ur])=H6;intro el2 s6 PP;generalize us++[ur]=vs at el2 PP
 have hall:∀ y∈ps.map (λp=>(2,p))++[(1,rec)],(y.1=1\/y.1=2)/\y.2<BN X.n X.r X.c X.w y.1:=λy hy=>by
  rcases ao.mp hy with hy|hy
  ·obtain⟨p,hp,rfl⟩:=af.mp hy;exact{.inr rfl,by simpa [BN]using hps p hp}
  ·rw[ρ.mp hy];exact{.inl rfl,by simpa [BN]using hr}
 have hyl:(ps.map (λp=>((2:Nat),p))++[(1,rec)]).length=ps.length+1:=by simp
 have hfin:(ps.map (λp=>(2,p))++[(1,rec)]).foldl (λ(M:Hs) (y:Nat × Nat)=>M.put y.1 y.2 (.mk 0) [cs.length]) (M.put 3 rec .no [gone])=((M.put 3 rec .no [gone]).unmark cs.length ps).put 1 rec (.mk 0) [cs.length]:=by
  rw[py,List.foldl_map];rfl
 revert hall hyl hfin PP;generalize ps.map (λp=>((2:Nat),p))++[(1,rec)]=pls;intro PP hall hyl hfin;refine(.inl ⟨{_,SqL.of el2},IC (xs:=vs.map V.ref) (drI a X cs tks M rec gone u0 ml pls H6)
  {{[ch],rfl,I4.same s6,by rw[s6 _ _ em4];simp[AX,bz],λy o e j=>e},_,rfl} (λi σ H' j {⟨_,_,_,_,sb'⟩,_}=>SqL.of<|sb' _ _ el2 ?_) (λi x σ H7 hx hzz=>?_) (λσ H7 hzz=>?_)⟩)
 rintro (y|y);exact hl2F y;exact nlm y;obtain⟨⟨ex,FO,I7,em7,sb7⟩,y6,rfl⟩:=hzz
 have hi:=(ε.mp hx).1;rw[ζ]at hi
 have hip:i<pls.length:=by rw[<-PP.length];exact hi
 have ey:=θ hip;obtain⟨u',eu',hu'⟩:=GS PP ey;rw[τ,eu']at hx;obtain rfl:=ι hx;obtain⟨hk12,hky⟩:=hall _<|η ey
 have etk:pls.take (i+1)=pls.take i++[pls[i]]:=by rw[dz,ey];rfl
 revert etk hk12 hky hu';generalize pls[i]=y;intro hu' hk12 hky etk;obtain⟨dx7,ho7⟩:=I7.ob;obtain⟨db7,eb7⟩:=I7.bk.bk.ob;push_cast[↓xI_]
 have k67:∀ b xs,H6 b=some (.tup xs)->H7 b=some (.tup xs):=λb xs e=>sb7 _ _ e λz=>z.elim (λz=>((I4.same s6).bk.loose z).1 _ e) λz=>by rw[z,s6 _ _ em4]at e;cases e
 refine{.inl {rfl,_,SqL.of em7},y3 {ho7,TS.cl,TS.n2,_,IN,y2 {eb7,DV,by decide,λn8 hn8=>?_}}}
 have s8:=AL (o:=.lst [V.int cs.length]) hn8;refine IP (ns:=[(cs.length:Int)]) T4' (I7.same s8) (kind:=y.1) (x:=.mk 0) (by lia) hky (s8 _ _<|k67 _ _ hu') AE (by simp) (by simp;lia) (λx hx=>by rw[ρ.mp hx];exact{i0,by simp;lia}) trivial rfl (by rcases hk12 with z|z<;>rw[z]<;>exact bu _) λch9 H9 I9 ON=>?_
 have em9:=ON _ _ (s8 _ _ em7) fml;refine{_,em9,aa (show(AX ((ο<|i+1).map (cs.length+·))).length<1000 by simp[AX];lia) (by decide),({{ex++[ch9],by simp[FO],by have:=I9.lput (ys:=AX ((ο<|i+1).map (cs.length+·))++[V.int ((cs++ex).length:Nat)]) em9 fml;rw[etk,py,<-gg];exact this,by rw[AE];simp[AX,bz,FO],λb o e n=>?_},_,rfl})};rw[AG λz=>n<|.inr z];exact ON _ _ (s8 _ _<|sb7 _ _ e n) λz=>n<|.inl z;obtain⟨⟨ex,FO,I7,em7,sb7⟩,y6,rfl⟩:=hzz
 have hvl:=PP.length;rw[ζ,hvl,hyl]at FO em7;rw[ζ,hvl,ce,hfin]at I7;exact q ex ml H7 hmlH em7 FO I7 λy o e n=>(sb7 _ _ (s6 _ _<|sb4 _ _ e n) λy'=>y'.elim n λz=>by rw[z,hmlH]at e;cases e)
def zun:UU K a vs H Q E->vs.length=3:=by
 apply u8;rintro z z z z z z z z ⟨rfl,z⟩
 rfl
def M4{X:SX}{cs:Rr}{tks:tZ}{M:Hs}{H':Hp}{l:Addr}(I:X.at a H' cs tks M)(sb:SameBut (λx=>X.S.A.F x\/x=X.S.tk) H H')(hl:H' l=none):H l=none:=by
 cases e:H l with
 |none=>rfl
 |some o =>
  have:=sb _ _ e λz=>z.elim (I.bk.off hl) λz=>by rw[z,I.tk]at hl;cases hl
  rw[hl]at this;cases this
example:(zuo,UV,aS,6):=by
 apply u5;rintro X cs tks M z ⟨rfl,T4,I,hzl,hcs,q,q1,q2,q3⟩;obtain⟨dx,ho⟩:=I.ob
 have T4':=T4
 have hm3:BN X.n X.r X.c X.w 3=X.r*X.w:=by simp[BN]
 push_cast[aS,↓xQ_];refine y2 {ho,B3,by decide,λgl hgl=>?_}
 have s1:=AL (o:=.lst [V.str z]) hgl;refine x7 X cs _ M z gl [z] {rfl,T4,I.same s1,AE,by simp,λy hy=>by rw[ρ.mp hy];exact hzl,λhb hc H2 s2=>?_,λhb H2 s2=>q1 (by simpa using hb) _ (s1.trans s2),λhb hc H2 s2=>q2 (by simpa using hb) hc _ (s1.trans s2)}
 have hb:BY z=true:=by simpa using hb
 have C4:=s1.trans s2;obtain⟨T,TP,TL,TS⟩:=T4;refine y3 {C4 _ _ ho,TS.cl,TS.n1,_,IM,y3 {C4 _ _ ho,TS.cl,TS.n2,_,IN,x2 _ _ {rfl,VM T4' (I.same C4) (by decide) (λrec er FZ H3 s3=>?_) λer H3 s3=>q3 hb hc (.inl<|er) _ (C4.trans s3)}}}
 have s13:=C4.trans s3;refine y3 {s13 _ _ ho,TS.cl,TS.n1,_,IM,y3 {s13 _ _ ho,TS.cl,TS.n2,_,IN,x2 _ _ {rfl,VM T4' (I.same s13) (by decide) (λcell ec BC H4 s4=>?_) λer H3 s3=>q3 hb hc (.inr<|er) _ (s13.trans s3)}}}
 have s14:=s13.trans s4
 have I4:=I.same s14;obtain⟨dl4,el4⟩:=I4.ly.ob;obtain⟨dx4,ho4⟩:=I4.ob;obtain⟨db4,eb4⟩:=I4.bk.bk.ob;push_cast[↓xR_];refine KP TS (ho4) (eb4) (DV) (JP TS (ho4) (el4) (B1) (Aj TL (I4.ly) λu hu=>{by decide,λl0 hl0=>?_}))
 have sb:=AL (o:=.lst []) hl0
 have eu:=sb _ _ (show upd H4 u _ u=some (.tup [.int (BI X.n X.r X.c X.w 1 rec),.int<|rec%X.w]) by rw[AE];simp[BI])
 have el0:upd (upd H4 u<|.tup [.int (X.n+X.r+X.c+rec/X.w),.int<|rec%X.w]) l0 _ l0=some (.lst<|([]).map V.int):=AE
 have s5:=(AL (o:=.tup [.int (X.n+X.r+X.c+rec/X.w),.int<|rec%X.w]) hu).trans sb;revert eu el0 s5;refine λeu el0 s5=>IP T4' (I4.same s5)  (x:=.mk 1) (by decide) (FZ) eu el0 (by simp) (oA hcs rfl) (λx hx=>by cases hx) trivial rfl (υ _) λc1 H6 I6 sb6=>?_;obtain⟨dx6,ho6⟩:=I6.ob;obtain⟨dl6,el6⟩:=I6.ly.ob;obtain⟨db6,eb6⟩:=I6.bk.bk.ob;push_cast[↓xS_];refine KP TS (ho6) (eb6) (DV) (JP TS (ho6) (el6) (B1) (RO TL (I6.ly) λu2 hu2=>({by decide,λe6 he6=>{by decide,λt6 ht6=>{by decide,λl6 hl6=>?_}}})))
 have sc:=AL (o:=.tup [.int 1,.ref e6]) ht6
 have sd:=AL (o:=.lst [.int cs.length]) hl6
 have sb:=AL (o:=.tup []) he6
 have s67:=(((AL  hu2).trans sb).trans sc).trans sd
 have f1:=sd _ _ (sc _ _ (sb _ _ (show upd H6 u2 _ u2=some (.tup [.int (BI X.n X.r X.c X.w 3 rec),.int<|rec%X.w]) by rw[AE];simp[BI])))
 have f2:=sd _ _<|sc _ _<|AE   
 have f3:=sd _ _<|AE   
 have f4:=AE (H:=upd (upd (upd H6 u2<|.tup [.int (X.n+rec/X.w),.int<|rec%X.w]) e6 (.tup [])) t6 (.tup [.int 1,.ref e6])) (a:=l6) (o:=.lst [.int cs.length]);revert s67 f1 f2 f3 f4;refine λs67 f1 f2 f3 f4=>IP (ns:=[cs.length]) T4' (I6.same s67)  (x:=.rc 1 []) (by decide) (by exact FZ) f1 f4 (by simp) (by simp;exact oC hcs rfl) (λx hx=>by rw[ρ.mp hx];exact{i0,by simp;exact Dn _}) (bH (ps:=[]) f3 f2 (by simp)) (x2 t6 e6 ⟨rfl,f3,f2⟩) trivial λc2 H8 I8 sb8=>?_;obtain⟨dx8,ho8⟩:=I8.ob
 have B9:(cs++[c1]).length=cs.length+1:=by simp
 push_cast[↓xT_];rw[B9];refine y2 {ho8,B3,x8 X _ _ _ _ _ _ z {rfl,T4',I8,BC,by simp,by simp;exact oH hcs rfl,Ah hb,λc3 H9 I9 ON=>{by decide,λl hl=>?_}}}
 have sl:=AL (o:=.lst [V.int cs.length,V.int<|cs.length+1,V.int<|(cs++[c1]++[c2]).length]) hl
 have sbH:SameBut (λx=>X.S.A.F x\/x=X.S.tk) H H9:=λy o e n=>ON _ _ (sb8 _ _ (s67 _ _<|sb6 _ _ (s5 _ _<|s14 _ _ e) λz=>n<|.inl z) λz=>n<|.inl z) λz=>n<|.inl z;exact q hb hc _ _ er ec FZ BC _ l _ rfl (M4 I9 sbH hl) (by rw[AE];simp[AX,bz]) (by simpa using (I9.same sl)) λy o e n=>sl _ _<|sbH _ _ e n
def zup:UV K a vs H Q E->vs.length=2:=by
 apply u5;rintro z z z z z ⟨rfl,z⟩
 rfl
example:(zuq,Q8,aT,6):=by
 apply u6;rintro X cs tks M y z ⟨rfl,T4,I,hyl,hzl,hcs,q,q1,q2,q3,q4⟩
 have T4':=T4;obtain⟨dx,ho⟩:=I.ob;push_cast[aT,↓xU_];refine y2 {ho,B3,by decide,λgl hgl=>?_}
 have s1:=AL (o:=.lst [V.str y,V.str z]) hgl;refine x7 X cs _ M z gl [y,z] {rfl,T4,I.same s1,AE,by simp,λx hx=>?_,λhb hc H2 s2=>?_,λhb H2 s2=>q1 (by simpa using hb) _ (s1.trans s2),λhb hc H2 s2=>?_};simp only[ax,b_,or_false]at hx;rcases hx with rfl|rfl
 exact hyl;exact hzl
 have hb:BY y=true/\BY z=true:=by simpa using hb
 have C4:=s1.trans s2;obtain⟨T,TP,TL,TS⟩:=T4;refine y2 {C4 _ _ ho,B3,x5 X cs _ M y {rfl,T4',I.same C4,λold rec eo hol eM H3 s3=>?_,λeo H3 s3=>q3 hb.1 hb.2 hc eo _<|C4.trans s3}}
 have s13:=C4.trans s3;refine y3 {s13 _ _ ho,TS.cl,TS.n1,_,IM,y3 {s13 _ _ ho,TS.cl,TS.n2,_,IN,x2 _ _ {rfl,VM T4' (I.same s13) (by decide) (λcell ec BC H4 s4=>?_) λer H3 s3=>q4 hb.1 hb.2 hc ⟨_,eo⟩ (er) _ (s13.trans s3)}}};obtain⟨hr,m,ps,eR,hps,q⟩:=q hb.1 hb.2 hc _ _ _ eo hol eM
 have s14:=s13.trans s4;refine y2 {s14 _ _ ho,B3,by decide,λl0 hl0=>?_}
 have s5:=AL (o:=.lst []) hl0;refine OQ X cs _ M _ m _ 1 ps l0 [] {rfl,T4',(I.same s14).same s5,hr,eR,rfl,hps,AE,by simp,(λx hx=>by cases hx),oA hcs rfl,λc1 H6 I6 sb6=>?_};obtain⟨dx6,ho6⟩:=I6.ob;push_cast[↓xV_];refine y2 {ho6,B3,x8 X _ _ _ _ _ _ z {rfl,T4',I6,BC,by simp,by simp;exact oC hcs rfl,Ah hb.2,λc2 H7 I7 sb7=>{by decide,λl hl=>?_}}}
 have sl:=AL (o:=.lst [V.int cs.length,V.int<|(cs++[c1]).length]) hl
 have sbH:SameBut (λx=>X.S.A.F x\/x=X.S.tk) H H7:=λy o e n=>sb7 _ _ (sb6 _ _ (s5 _ _<|s14 _ _ e) λz=>n<|.inl z) λz=>n<|.inl z;exact q ec BC _ l _ rfl (M4 I7 sbH hl) (by rw[AE];simp[AX,bz]) (by simpa using (I7.same sl)) λy o e n=>sl _ _<|sbH _ _ e n
 have hb:BY y=true/\BY z=true:=by simpa using hb
 exact q2 hb.1 hb.2 hc _<|s1.trans s2
def zur:Q8 K a vs H Q E->vs.length=3:=by
 apply u6;rintro z z z z z z ⟨rfl,z⟩
 rfl
def zus(n d:Nat):AX ((ο<|d+1).map (n+·))=[V.int n]++AX ((ο d).map (n+1+·)):=by
 rw[Ae];simp[AX,fh,vb 1]
example:(zut,UW,xY,4):=by
 apply u5;rintro X cs tks M z ⟨rfl,T4,I,hcs,q,q1⟩;obtain⟨dx,ho⟩:=I.ob;refine y2 {ho,B3,x5 X cs _ M z {rfl,T4,I,λcell rec ec BC eM H1 s1=>?_,λeo H3 s3=>q1 eo _ s3}};obtain⟨hr,m,ps,eR,hps,CB,q2,q3⟩:=q _ _ ec BC eM;refine y2 {s1 _ _ ho,B3,by decide,λl0 hl0=>?_}
 have s2:=AL (o:=.lst []) hl0;refine x8 X cs _ M _ z l0 [] {rfl,T4,(I.same s1).same s2,ec,BC,AE,by simp,(λx hx=>by cases hx),oA hcs rfl,λc1 H3 I3 NF=>?_}
 have sb:SameBut (λx=>X.S.A.F x\/x=X.S.tk) H H3:=λy o e n=>NF _ _ (s2 _ _<|s1 _ _ e) n
 have eR':(M.put 0 cell .no<|LQ []) 3 _=.rc m ps:=eR;obtain⟨dx3,ho3⟩:=I3.ob;refine y2 {ho3,B3,x5 X _ _ _ _ {rfl,T4,I3,hr,λv H4 rv s4=>?_}};rw[eR']at rv;revert rv;apply u2;rintro t0 u0 ⟨rfl,FQ,F9⟩
 have I4:=I3.same s4;refine BB FQ  rfl rfl ?_;push_cast[];split;rename_i hm;push_cast[↓xW_];refine y2 {s4 _ _ ho3,B3,by decide,λl5 hl5=>?_}
 have s5:=AL (o:=.lst [V.int cs.length]) hl5;refine OQ X _ _ _ _ m (m-1) _ ps l5 [cs.length] {rfl,T4,I4.same s5,hr,eR',by lia,oA CB rfl,AE,by simp,(λx hx=>by rw[ρ.mp hx];exact{i0,by simp;exact Dn _}),by simp;exact oC hcs rfl,λc2 H6 I6 sb6=>{by decide,λl hl=>?_}}
 have sl:=AL (o:=.lst [V.int cs.length,V.int<|(cs++[c1]).length]) hl
 have sbH:SameBut (λx=>X.S.A.F x\/x=X.S.tk) H H6:=λy o e n=>sb6 _ _ (s5 _ _<|s4 _ _<|sb _ _ e n) λz=>n<|.inl z;exact q2 (d_.mp hm) _ l _ rfl (M4 I6 sbH hl) (by rw[AE];simp[AX,bz]) (by simpa using (I6.same sl)) λy o e n=>sl _ _<|sbH _ _ e n;push_cast[↓xX_];refine{by decide,λl5 hl5=>?_}
 have s5:=AL (o:=.lst [V.int cs.length]) hl5;refine y2 {s5 _ _<|s4 _ _ ho3,B3,x8 X _ _ _ _ m _ ps {rfl,T4,(I4.same s5),hr,eR',by simp,hps,CB,by simp;exact oC hcs rfl,λex l H6 hl6 el6 hex I6 sb6=>.inl (x4 l5 l _ _ {rfl,rfl,sb6 _ _ AE<|I4.bk.off hl5,el6,CJ _ (by simp[AX];lia),λl7 hl7=>?_})}}
 have sl:=AL (o:=.lst ([V.int cs.length]++AX ((ο<|ps.length+2).map ((cs++[c1]).length+·)))) hl7
 have sbH:SameBut (λx=>X.S.A.F x\/x=X.S.tk) H H6:=λy o e n=>sb6 _ _ (s5 _ _<|s4 _ _<|sb _ _ e n) λz=>n<|.inl z;exact q3 (by lia) (c1::ex) l7 _ (by simp[hex]) (M4 I6 sbH hl7) (by rw[AE,zus _<|ps.length+2];simp) (by simpa using (I6.same sl)) λy o e n=>sl _ _<|sbH _ _ e n
def zuu:UW K a vs H Q E->vs.length=2:=by
 apply u5;rintro z z z z z ⟨rfl,z⟩
 rfl
def cat_tup(h1:H b=some (.tup xs))(h2:H d=some (.tup ys))(hy:ys≠[])(hl:xs.length+ys.length<=1000)(q:∀ p H',Same H H'->H' p=some (.tup<|xs++ys)->Q (.ref p) H'):BH K (.ref b) (.ref d) H Q:=by
 by_cases hx:xs=[];subst hx;exact .inr<|.inr<|x3 b d ys {rfl,rfl,SqT.of h1,SqT.of h2,q d H (Same.refl _) h2};exact .inr<|.inl<|x4 b d xs ys {rfl,rfl,SqT.of h1,SqT.of h2,hx,CJ _<|oA hl rfl,λe=>absurd e hy,λz p hp=>q p _ (AL hp) AE}
example:(zuv,UX,yC,7):=by
 apply u6;rintro X cs tks M z t ⟨rfl,T4,I,htl,hts,hcs,q,q1,q2,q3⟩
 have T4':=T4;obtain⟨dx,ho⟩:=I.ob;refine y2 {ho,B3,x5 X cs _ M z {rfl,T4,I,λcell rec ec BC eM H1 s1=>?_,λeo H3 s3=>q1 eo _ s3}};obtain⟨T,TP,TL,TS⟩:=T4;refine{t,rfl,htl,λH2 s2=>?_}
 have C4:=s1.trans s2;cases hb:HG t with
 |false =>
  exact{by decide,q2 ⟨_,ec⟩ hb _ C4}
 |true =>
  refine y3 {C4 _ _ ho,TS.cl,TS.n1,_,IM,y3 {C4 _ _ ho,TS.cl,TS.n2,_,IN,x2 _ _ {rfl,VM T4' (I.same C4) (by decide) (λp ep CB H4 s4=>?_) λer H3 s3=>q3 ⟨_,ec⟩ hb (er) _ (C4.trans s3)}}};obtain⟨hr,m,ps,eR,hps,q⟩:=q _ _ ec BC eM hb p ep CB
  have s14:=C4.trans s4
  have I4:=I.same s14;obtain⟨dx4,ho4⟩:=I4.ob;obtain⟨dl4,el4⟩:=I4.ly.ob;obtain⟨db4,eb4⟩:=I4.bk.bk.ob;push_cast[↓xZ_];refine KP TS (ho4) (eb4) (DV) (JP TS (ho4) (el4) (B1) (lPM TL (I4.ly) λu hu=>{by decide,λl0 hl0=>?_}))
  have sb:=AL (o:=.lst []) hl0
  have sa:=AL (o:=.tup [.int (X.n+X.r+X.c+X.r+p/X.w),.int<|p%X.w]) hu
  have eu:=sb _ _ (show upd H4 u _ u=some (.tup [.int (BI X.n X.r X.c X.w 2 p),.int<|p%X.w]) by rw[AE];simp[BI])
  have el0:upd (upd H4 u<|.tup [.int (X.n+X.r+X.c+X.r+p/X.w),.int<|p%X.w]) l0 _ l0=some (.lst<|([]).map V.int):=AE
  have s5:=sa.trans sb;revert eu el0 s5;refine λeu el0 s5=>IP T4' (I4.same s5)  (x:=.mk 1) (by decide) (CB) eu el0 (by simp) (oA hcs rfl) (λx hx=>by cases hx) trivial rfl (υ _) λc1 H6 I6 sb6=>?_;obtain⟨dx6,ho6⟩:=I6.ob;obtain⟨dl6,el6⟩:=I6.ly.ob;obtain⟨db6,eb6⟩:=I6.bk.bk.ob;push_cast[↓yA_];refine KP TS (ho6) (eb6) (DV) (JP TS (ho6) (el6) (B1) (lPA TL (I6.ly) λu2 hu2=>{by decide,λl6 hl6=>?_}))
  have sb:=AL (o:=.lst [.int cs.length]) hl6
  have f1:=sb _ _ (show upd H6 u2 _ u2=some (.tup [.int (BI X.n X.r X.c X.w 4 p),.int<|p%X.w]) by rw[AE];simp[BI])
  have sa:=AL (o:=.tup [.int (X.n+X.r+p/X.w),.int<|p%X.w]) hu2
  have f4:=AE (H:=upd H6 u2<|.tup [.int (X.n+X.r+p/X.w),.int<|p%X.w]) (a:=l6) (o:=.lst [.int cs.length])
  have s67:=sa.trans sb;revert s67 f1 f4;refine λf1 f4 s67=>IP (ns:=[cs.length]) T4' (I6.same s67)  (x:=.tx t) (by decide) (by exact CB) f1 f4 (by simp) (by simp;exact oC hcs rfl) (λx hx=>by rw[ρ.mp hx];exact{i0,by simp;exact Dn _}) hts rfl trivial λc2 H8 I8 sb8=>?_;obtain⟨dx8,ho8⟩:=I8.ob
  have eR':((M.put 2 p (.mk 1) (LQ [])).put 4 p (.tx t) (LQ [cs.length])) 3 rec=.rc m ps:=eR;push_cast[↓yB_];refine y2 {ho8,B3,y2 {ho8,B3,x5 X _ _ _ _ {rfl,T4',I8,hr,λv H9 rv s9=>?_}}};rw[eR']at rv;obtain⟨t0,u0,rfl,FQ,F9⟩:=rv;refine BB FQ  rfl rfl {by decide,λt9 ht9=>?_}
  have sa:=AL (o:=.tup [V.int p]) ht9;refine cat_tup (sa _ _ F9) AE (by simp) (by simp[AX];exact oA hps rfl) λpp H10 s10 epp=>{by decide,λl10 hl10=>?_}
  have sc:=AL (o:=.lst [V.int ((cs++[c1]).length)]) hl10
  have C4:=((s9.trans sa).trans s10).trans sc;refine OQ X _ _ _ _ m ps (ps++[p]) pp _ [((cs++[c1]).length)] {rfl,T4',I8.same C4,hr,eR',sc _ _ (by rw[epp];simp[AX]),by simp;exact oA hps rfl,AE,by simp,(λx hx=>by rw[ρ.mp hx];exact{i0,by simp}),by simp;exact oH hcs rfl,λc3 H13 I13 sb13=>{by decide,λl hl=>?_}}
  have sl:=AL (o:=.lst [V.int cs.length,V.int<|(cs++[c1]).length,V.int<|(cs++[c1]++[c2]).length]) hl
  have sbH:SameBut (λx=>X.S.A.F x\/x=X.S.tk) H _:=λy o e n=>sb13 _ _ (C4 _ _<|sb8 _ _ (s67 _ _<|sb6 _ _ (s5 _ _<|s14 _ _ e) λz=>n<|.inl z) λz=>n<|.inl z) λz=>n<|.inl z;exact q _ l _ rfl (M4 I13 sbH hl) (by rw[AE];simp[AX,bz]) (by simpa using (I13.same sl)) λy o e n=>sl _ _<|sbH _ _ e n
def zuw:UX K a vs H Q E->vs.length=3:=by
 apply u6;rintro z z z z z z ⟨rfl,z⟩
 rfl
example:(zux,MV,yG,3):=by
 apply u5;rintro X cs tks M z ⟨rfl,T4,I,q,q1⟩
 have T4':=T4;obtain⟨dx,ho⟩:=I.ob;obtain⟨dl,el⟩:=I.ly.ob;obtain⟨db,eb⟩:=I.bk.bk.ob;obtain⟨T,TP,TL,TS⟩:=T4;refine y2 {ho,B3 (by decide),y2 {ho,B3 (by decide),x5 X cs _ M z {rfl,T4',I,λcell rec ec BC eM H1 s1=>?_,λeo H3 s3=>q1 eo _ s3}}};obtain⟨hr,m,ps,eR,hps,ts,pt,q⟩:=q _ _ ec BC eM;refine x5 X cs _ M _ {rfl,T4',I.same s1,hr,λv H2 rv s2=>?_};rw[eR]at rv;revert rv;apply u2;rintro t0 u0 ⟨rfl,FQ,F9⟩
 have C4:=s1.trans s2;refine BB FQ  rfl rfl (.inr {{_,SqT.of F9},bI  (CJ _ (by simp[AX];exact oA hps rfl)) (λi ys H'=>Same H2 H'/\ys=(ts.take i).map V.str) {Same.refl _,rfl} (λi ys H' y ⟨s',_⟩=>SqT.of<|s' _ _ F9) (λi x ys H' hx hyl hzz=>?_) (λys H' hyl hzz lc hlc=>?_)});obtain⟨s',ey⟩:=hzz;unfold AX at hx;rw[τ,au]at hx;obtain⟨p,ep,rfl⟩:=hx
 have hti:i<ts.length:=by have:=(ε.mp ep).1;have:=pt.length;lia
 have eti:=θ hti;obtain⟨p',ep',hpc,eP⟩:=GS pt eti;rw[ep]at ep';obtain rfl:=ι ep'
 have hm:p<BN X.n X.r X.c _ 4:=hpc
 have sH:=C4.trans s'
 have I':=I.same sH;refine y3 {sH _ _ ho,TS.cl,TS.n2,_,IN,y2 {sH _ _ eb,DV (by decide),y3 {sH _ _ ho,TS.cl,TS.n1,_,IM,y2 {sH _ _ el,B1 (by decide),x6 _ _ _ _ _ p {rfl,TL,I'.ly,λu' hu'=>?_}}}}}
 have su:=AL (o:=.tup [.int (X.n+X.r+p/X.w),.int<|p%X.w]) hu';refine x9 _ _ _ _ cs _ u' _ _ {rfl,T,TP,I'.bk.same su,by rw[AE];simp[BI],λy v H3 ev s3=>?_,λz=>absurd (I.onPl  (by decide) hm) z}
 have rv:=I.rp 4 p v (by decide) hm ev;rw[eP]at rv;rw[rv];refine{(s'.trans su).trans s3,?_};rw[dz,eti,ey,χ]
 rfl;obtain⟨s',ey⟩:=hzz
 have hl:(AX ps).length=ts.length:=by rw[<-pt.length];simp[AX]
 rw[hl,ce]at ey;subst ey;exact q lc _ (C4.free<|s'.free hlc) ((C4.trans s').trans (AL  hlc)) AE
def zuy:MV K a vs H Q E->vs.length=2:=by
 apply u5;rintro z z z z z ⟨rfl,z⟩
 rfl
def zuz(h1:H b=some (.tup xs))(h2:H d=some (.tup ys))(hl:xs.length+ys.length<=1000)(q:∀ p H',Same H H'->H' p=some (.tup<|xs++ys)->Q (.ref p) H'):BH K (.ref b) (.ref d) H Q:=by
 by_cases hy:ys=[];subst hy;by_cases hx:xs=[];subst hx;exact .inr<|.inr<|x3 b d [] {rfl,rfl,SqT.of h1,SqT.of h2,q d H (Same.refl _) h2};exact .inr (.inl (x4 b d xs [] {rfl,rfl,SqT.of h1,SqT.of h2,hx,CJ _<|oA hl rfl,λz=>q b H (Same.refl _) (by rw[h1];simp),λe=>absurd rfl e}));exact cat_tup h1 h2 hy hl q
example:(zu0,UY,yF,6):=by
 apply u6;rintro X cs tks M z x ⟨rfl,T4,I,hcs,q,q1⟩
 have T4':=T4;obtain⟨dx,ho⟩:=I.ob;refine y2 {ho,B3,x5 X cs _ M z {rfl,T4,I,λcell rec ec BC eM H1 s1=>?_,λeo H3 s3=>q1 eo _ s3}};obtain⟨hr,m,ps,eR,hps,q2,q3⟩:=q _ _ ec BC eM;refine y2 {s1 _ _ ho,B3,x5 X cs _ M rec {rfl,T4,I.same s1,hr,λv H2 rv s2=>?_}};rw[eR]at rv;revert rv;apply u2;rintro t0 u0 ⟨rfl,FQ,F9⟩
 have C4:=s1.trans s2;refine BB FQ  rfl rfl ?_;push_cast[↓yD_];split;rename_i h0;refine{ps.length,.inr {_,SqT.of F9,by simp[AX]},?_};split;exact{by decide,q2 (by lia) _ C4};obtain⟨k,rfl⟩:∃ k:Nat,x=k:={_,(ic h0).symm}
 have hk:k<ps.length:=by lia
 have ek:=θ hk;obtain⟨hp,q3⟩:=q3 k _ rfl ek
 have e1:HT.sIx (AX ps).length (AX ps).length (some k)=k:=by
  simp[AX];exact ui<|jz hk
 refine y2 {C4 _ _ ho,B3,?_}
 have e2:HT.sIx (AX ps).length 0 (some<|k+1)=k+1:=by
  simp[AX];exact ui hk
 have hnl:(AX ps).length=ps.length:=by simp[AX]
 refine .inr (x2 u0 _ {rfl,SqT.of F9,λy=>by lia,λp1 OM=>?_})
 have sa:=AL (o:=.tup<|FU (AX ps) none (some k)) OM;refine .inr (x2 u0 _ {rfl,SqT.of<|sa _ _ F9,λy=>by lia,λp2 JW=>?_})
 have sb:=AL (o:=.tup<|FU (AX ps) (some<|k+1) none) JW
 have c1:FU (AX ps) none (some k)=AX (ps.take k):=by rw[pG _ (i0),az];simp[AX]
 have c2:FU (AX ps) (some<|k+1) none=AX (ps.drop<|k+1):=by rw[YN _ (by exact i0)];simp[AX]
 rw[c1,c2]at sb;rw[c1]at sa;rw[c1,c2];refine zuz (sb _ _ AE) AE (by simp[AX];exact ψ (rg (zt _ _) (Nat.sub_le _ _)) (by lia)) λpp H5 s5 epp=>{by decide,λl5 hl5=>?_}
 have sc:=AL (o:=.lst []) hl5
 have s6:=(((C4.trans sa).trans sb).trans s5).trans sc;refine OQ X cs _ M _ m ps (ps.eraseIdx k) pp l5 [] {rfl,T4',I.same s6,hr,eR,sc _ _ (by rw[epp,ma];simp[AX]),(by rw[Do];split<;>lia),AE,by simp,(λx hx=>by cases hx),oA hcs rfl,λc1' H7 I7 sb7=>?_};obtain⟨T,TP,TL,TS⟩:=T4;obtain⟨dx7,ho7⟩:=I7.ob;obtain⟨dl7,el7⟩:=I7.ly.ob;obtain⟨db7,eb7⟩:=I7.bk.bk.ob;push_cast[↓yE_]
 have hm2:BN X.n X.r X.c X.w 2=X.c*X.w:=by simp[BN]
 refine y3 {ho7,TS.cl,TS.n2,_,IN,y2 {eb7,DV,y3 {ho7,TS.cl,TS.n1,_,IM,y2 {el7,B1,BB ((KO sb7 λx hx=>(I.same s6).bk.loose hx) _ _ ((((sa.trans sb).trans s5).trans sc) _ _ F9)) (n:=k) rfl (by unfold AX;rw[τ,ek];rfl) (x6 X.S.lp X.n X.r X.c X.w (ps[k]) {rfl,TL,I7.ly,λu hu=>{by decide,λl8 hl8=>?_}})}}}}
 have se:=AL (o:=.lst [.int cs.length]) hl8
 have sd:=AL (o:=.tup [.int (X.n+X.r+X.c+X.r+(ps[k]:Int)/X.w),.int<|(ps[k]:Int)%X.w]) hu;refine IP (ns:=[(cs.length:Int)]) T4' (I7.same<|sd.trans se) (kind:=2) (x:=.mk 0) (by decide) (by rw[hm2];exact hp) (se _ _ (show upd H7 u (.tup [.int (X.n+X.r+X.c+X.r+(ps[k]:Int)/X.w),.int<|(ps[k]:Int)%X.w]) u=some (.tup [.int (BI X.n X.r X.c X.w 2 ps[k]:Nat),.int (ps[k]%X.w:Nat)]) by rw[AE];simp[BI])) AE (by simp) (by simp;exact oC hcs rfl) (λx hx=>by rw[ρ.mp hx];exact{i0,by simp;exact Dn _}) trivial rfl (bu _) λc2' H9 I9 ON=>{by decide,λl hl=>?_}
 have sl:=AL (o:=.lst [V.int cs.length,V.int ((cs++[c1']).length:Nat)]) hl
 have sbH:SameBut (λx=>X.S.A.F x\/x=X.S.tk) H H9:=λy o e n=>ON _ _ ((sd.trans se) _ _ (sb7 _ _ (s6 _ _ e) λz=>n<|.inl z)) λz=>n<|.inl z;exact q3 [c1',c2'] l _ rfl (M4 I9 sbH hl) (by rw[AE];simp[AX,bz]) (by have:=I9.same sl;simpa using this) λy o e n=>sl _ _<|sbH _ _ e n;exact{by decide,q2 (by lia) _ C4}
def OD{f:Wu}{m k:Nat}(h:EH f m=k):f k=true:=by
 unfold EH at h;cases e:(ο m).find? f with
 |none=>rw[e]at h;simp at h
 |some k' =>
  rw[e]at h
  have:=M_ e
  have  :=cw h;subst this
  assumption
def zu1(hyz:y≠z)(fc:CQ 0 (M 0 cell)=true):cellOf ((M.put 3 rec x n1).put 0 cell (.nm z rec) n2) m y=cellOf M m y:=by
 refine bG λk v=>?_;unfold D7;by_cases hk:k=cell;subst hk;rw[Hs.put_at];cases e:M 0 k with
 |nm z' r'=>rw[e]at fc;simp[CQ]at fc
 |_=>simp;exact λh=>hyz h.symm
 rw[Hs.put_at,if_neg<|λz=>hk z.2,Hs.put_at,if_neg<|nE rfl]
example:(zu2,UZ,yK,6):=by
 apply u6;rintro X cs tks M y z ⟨rfl,T4,I,hyl,hzl,hcs,q,q1,q2,q3,q4⟩;obtain⟨dx,ho⟩:=I.ob;refine y2 {ho,B3,x6 X cs _ M y z {rfl,T4,I,hyl,hzl,oA hcs rfl,λhy hz hc old rec cell eo hol e0=>?_,q1,q2,q3,q4}};obtain⟨hr,m,ps,e3,hps,q⟩:=q hy hz hc _ _ _ eo hol e0;refine{hr,x2 m ps {e3,hps,λec BC ex l1 H1 hex DN el1 I1 sb1=>?_}}
 have fc:=OD ec
 have e01:((M.put 3 rec (.rc (m+1) ps) []).put 0 cell (.nm z rec) (cs.length::E8 tks z)) 0 old=.nm y rec:=by rw[Hs.put_at,if_neg (λz=>(λh=>by rw[<-h,e0]at fc;simp[CQ]at fc) z.2)];exact e0
 have ec1:cellOf ((M.put 3 rec (.rc (m+1) ps) []).put 0 cell (.nm z rec) (cs.length::E8 tks z)) X.m0 y=some old:=by rw[zu1 (λh=>by rw[h,hc]at eo;cases eo) fc];exact eo
 obtain⟨dx1,ho1⟩:=I1.ob
 have fl1:¬ X.S.A.F l1/\l1≠X.S.tk:={λz=>(I.bk.off DN) z,λz=>by rw[z,I.tk]at DN;cases DN}
 refine y2 {ho1,B3,x5 X _ _ _ y {rfl,T4,I1,λcell' k' ec' hc' eM' H2 s2=>?_,λe=>by rw[ec1]at e;cases e}};rw[ec1]at ec';obtain rfl:=ι ec';rw[e01]at eM';cases eM';push_cast[↓yI_];refine y2 {s2 _ _ ho1,B3,CW (SqL.of<|s2 _ _ el1)  (v:=.int<|cs.length+1) rfl (by simp[AX]) {by decide,λl3 hl3=>?_}}
 have s3:=AL (o:=.lst [V.int (cs.length+1)]) hl3;refine x8 X _ _ _ _ y l3 [((cs.length+1))] {rfl,T4,((I1.same s2).same s3),ec1,hol,AE,by simp,(λx hx=>by rw[ρ.mp hx];exact{i0,by simp[hex]}),by simp[hex];exact oH hcs rfl,λc3 H4 I4 sb4=>?_};obtain⟨dx4,ho4⟩:=I4.ob
 have B9:(cs++ex).length=cs.length+2:=by simp[hex]
 rw[B9];push_cast[↓yJ_];refine y2 {ho4,B3,by decide,λl5 hl5=>?_}
 have s5:=AL (o:=.lst [V.int (cs.length+2)]) hl5;refine OQ X _ _ _ _ _ m _ ps l5 [((cs.length+2))] {rfl,T4,I4.same s5,hr,(by rw[Hs.put_at,if_neg<|nE rfl];exact(by rw[Hs.put_at,if_neg<|nE rfl,Hs.put_at,if_pos ⟨rfl,rfl⟩])),by lia,hps,AE,by simp,(λx hx=>by rw[ρ.mp hx];exact{i0,by simp[hex]}),by simp[hex];exact oH hcs rfl,λc4 H6 I6 sb6=>{by decide,λl6 hl6=>.inl ?_}}
 have s6:=AL (o:=.lst [V.int (cs.length+2),V.int<|(cs++ex++[c3]).length]) hl6;refine x4 l1 l6 _ _ {rfl,rfl,s6 _ _<|sb6 _ _ (s5 _ _<|sb4 _ _ (s3 _ _<|s2 _ _ el1) λz=>z.elim fl1.1 fl1.2) fl1.1,AE,CJ _ (by simp[AX]),λl hl=>?_}
 have sl:=AL (o:=.lst (AX ((ο 2).map (cs.length+·))++[V.int (cs.length+2),V.int<|(cs++ex++[c3]).length])) hl
 have h2:((cs.length:Int)+2).toNat=cs.length+2:=rfl
 have sbH:SameBut (λx=>X.S.A.F x\/x=X.S.tk) H _:=λb o e n=>s6 _ _<|sb6 _ _ (s5 _ _<|sb4 _ _ (s3 _ _<|s2 _ _<|sb1 _ _ e n) n) λz=>n<|.inl z;exact(q ec BC) (ex++[c3]++[c4]) l _ (by simp[hex]) (M4 (I6.same s6) sbH hl) (by rw[AE];simp[AX,bz,hex]) (by simpa [hex,h2]using ((I6.same s6).same sl)) λb o e n=>sl _ _<|sbH _ _ e n
def zu3:UY K a vs H Q E->vs.length=3:=by
 apply u6;rintro z z z z z z ⟨rfl,z⟩
 rfl
def zu4:UZ K a vs H Q E->vs.length=3:=by
 apply u6;rintro z z z z z z ⟨rfl,z⟩
 rfl
def Am(C C':Wu)(hC:∀ j,C j=true->C' j=true)(kind k:Nat):∀ as:List AC,(∃ x,∀ M,sh M C' as kind k=x)\/((∀ M,sh M C' as kind k=M kind k)/\∀ M,sh M C as kind k=M kind k)
 | []=>.inr {λ_=>rfl,λ_=>rfl}
 |b::r=>by
  have ih:=Am C C' hC kind k r;by_cases e:kind=b.kind/\k=b.k;obtain⟨rfl,rfl⟩:=e;by_cases c:C' r.length=true;exact .inl {_,λM=>by rw[CS c,B8]};rcases ih with⟨x,h⟩|⟨h1,h2⟩
  exact .inl {x,λM=>by rw[EE c];exact h M};exact .inr {λM=>by rw[EE c];exact h1 M,λM=>by rw[EE (λz=>c<|hC _ z)];exact h2 M}
  have far:∀ (D:Wu) (M:Md),sh M D _ _ k=sh M D r _ k:=λD M=>by
   by_cases c:D r.length=true;rw[CS c];exact if_neg e;rw[EE c]
  rcases ih with⟨x,h⟩|⟨h1,h2⟩
  exact .inl {x,λM=>by rw[far];exact h M};exact .inr {λM=>by rw[far];exact h1 M,λM=>by rw[far];exact h2 M}
def zu5(hC:∀ j,C j=true->C' j=true):sh (sh M C as) C' as kind k=sh M C' as kind k:=by
 rcases Am C C' hC _ k as with⟨x,h⟩|⟨h1,h2⟩
 rw[h,h];rw[h1,h1,h2]
def zu6:EY (cs++[ch]) O b row=if ch.blk=b/\O cs.length=true then(EY cs O b row).set ch.cell ch.val else EY cs O b row:=by
 have st:∀ (l:List _) (row:Tr),(∀ k∈l,k<cs.length)->l.foldl (HC (cs++[ch]) O) row=l.foldl (HC cs O) row:=by
  intro l
  induction l with
  |nil=>intro y y;rfl
  |cons k l ih =>
   intro row h;rw[ju,ju,ih _ λj hj=>h j<|ω _ hj];unfold HC;rw[ba (h k ai)]
 have lt:∀ k∈C9 cs b,k<cs.length:=λk hk=>by
  obtain⟨c,e,y⟩:=YV.mp hk;exact(ε.mp e).1
 have ib:C9 (cs++[ch]) b=if ch.blk=b then C9 cs b++[cs.length]else C9 cs b:=by simp[C9,GY]
 unfold EY;rw[ib];by_cases e:ch.blk=b;rw[if_pos e,py,st _ _ lt];simp only[ju,List.foldl_nil];unfold HC;rw[ci (υ _),xj];by_cases o:O cs.length=true;rw[if_pos o,if_pos ⟨e,o⟩];rfl;rw[if_neg o,if_neg λz=>o z.2];rw[if_neg e,if_neg λz=>e z.1,st _ _ lt]
section
variable{n r c w:Nat}{cs:Rr}{as:List AC}
def LaidA.len(h:LaidA n r c w H cs as):cs.length=as.length:=by
 induction h with
 |nil=>rfl
 |snoc _ _ _ _ _ _ _ ih=>rw[ae,ih];rfl
def LaidA.cut(h:LaidA n r c w H cs as)(hc:UB cs outs):GJ (λj=>outs (j:Nat)) as:=by
 induction h with
 |nil=>trivial
 |@snoc cs as ch x l e1 e2 e3 e4 e5 e6 ih =>
  refine{ih λk c ec=>hc k c (by rw[ba (ε.mp ec).1];exact ec),λo=>?_}
  have nd:=hc _ ch (by rw[ci (υ _),xj];rfl) (by rw[l.len];exact o);exact{λy hy=>nd _<|(e4 _).mpr (.inl ⟨y,hy,rfl⟩),λj hj=>nd _<|(e4 _).mpr (.inr ⟨j,hj,rfl⟩)}
def LaidA.far(h:LaidA n r c w H cs as){C C':Tu}(hC:∀ (j:Nat) (ch:Ch),cs[j]? =some ch->ch.blk≠b->C' j=C j)(hb:BI n r c w kind k≠b):sh M (λj=>C' (j:Nat)) as kind k=sh M (λj=>C (j:Nat)) as kind k:=by
 induction h with
 |nil=>rfl
 |@snoc cs as ch x l e1 e2 e3 e4 e5 e6 ih =>
  have ih:=ih λj c ec=>hC j c (by rw[ba (ε.mp ec).1];exact ec);by_cases e:kind=x.kind/\k=x.k
  have cc:=hC _ ch (by rw[ci (υ _),xj];rfl) (by rw[e1,<-e.1,<-e.2];exact hb);rw[l.len]at cc;by_cases o:C as.length=true;rw[CS (C:=λj=>C j) o,CS  (cc.trans o),e.1,e.2,B8,B8];rw[EE (C:=λj=>C j) o,EE  (by rw[cc];exact o)];exact ih
  have far:∀ D:Nat->Bool,sh M D _ _ k=sh M D as _ k:=λD=>by
   by_cases o:D as.length=true;rw[CS o];exact if_neg e;rw[EE o]
  rw[far,far];exact ih
def LaidA.laid(h:LaidA n r c w H cs as)(hr:∀ kind k v,kind<5->k<BN n r c w kind->BI n r c w kind k=b->row[k % w]? =some v->RepC H (S kind k) v):∀ kind k v,kind<5->k<BN n r c w kind->BI n r c w kind k=b->(EY cs O b row)[k % w]? =some v->RepC H (sh S (λj=>O (j:Nat)) as kind k) v:=by
 induction h with
 |nil=>exact hr
 |@snoc cs as ch x l e1 e2 e3 e4 e5 e6 ih =>
  intro kind k v h1 hk hb hv;rw[zu6]at hv
  have ih:=ih _ k v h1 hk hb;by_cases e:kind=x.kind/\k=x.k;obtain⟨rfl,rfl⟩:=e;rw[e1,hb]at hv;by_cases o:O as.length=true;rw[CS  o,B8];rw[if_pos {rfl,by rw[l.len];exact o},e2]at hv
  have hl:=(ε.mp hv).1;rw[ky]at hl;rw[gz hl]at hv;obtain rfl:=ι hv;exact e3;rw[EE  o];rw[if_neg λz=>o (by rw[<-l.len];exact z.2)]at hv;exact ih hv
  have far:sh S (λj=>O j) (x::as) kind k=sh S (λj=>O j) as kind k:=by
   by_cases o:O as.length=true;rw[CS  o];exact if_neg e;rw[EE  o]
  rw[far];refine ih ?_;split at hv;rename_i z
  have:ch.cell≠k%w:=λy=>e ((bF     h1 e5 hk e6 (by rw[hb,<-e1];exact z.1.symm) (by rw[<-y,e2])));rw[ir this]at hv;exact hv;exact hv
end
def RowsAre.keep(h:RowsAre H n r c w rows S)(k:D1 H H'):RowsAre H' n r c w rows S:=λkind i v h1 h2 h3=>(h _ i v h1 h2 h3).keep k
def RowsAre.write{rows:t5}{outs:Tu}(h:RowsAre H n r c w rows (sh B (λj=>outs (j:Nat)) as))(l:LaidA n r c w H cs as)(er:rows[b]? =some row) :
  RowsAre H n r c w (rows.set b<|EY cs (HD cs outs b) b row) (sh B (λj=>HD cs outs b (j:Nat)) as):=λkind k v h1 hk hv=>by
 by_cases e:BI n r c w kind k=b;rw[e,gz<|(ε.mp er).1]at hv
 have:=l.laid     (λkind k v h1 hk e hv=>h _ k v h1 hk (by rw[e,er];exact hv)) _ k v h1 hk e hv;rw[zu5   (λj e=>by unfold HD;rw[e];rfl)]at this;exact this;rw[ir (λz=>e z.symm)]at hv;rw[l.far    (λj ch ej nb=>?_) e];exact h _ k v h1 hk hv;unfold HD
 have:(outcome cs outs (λy=>false) b).out.any (λi=>j ==(i:Int))=false:=by
  rw[lj];intro z;obtain⟨i,hi,ei⟩:=e_.mp z
  have ei:=cw (beq_iff_eq.mp ei).symm;subst ei;obtain⟨c',ec',eb⟩:=YV.mp<|(YW.2.1 i hi).2;rw[ej]at ec';obtain rfl:=ι ec';exact nb eb
 rw[this,oq]
def zu7(hn:EC cs (b:Nat) (j:Nat)=none):(EY cs O b row)[j]? =row[j]? :=by
 rw[zgr,pW];cases el:JF cs _ j with
 |none=>simp
 |some c =>
  obtain⟨k,hk,ec,ecell,z⟩:=pX el;obtain⟨c',ec',eb⟩:=YV.mp (cj.mp hk).1;rw[ec]at ec';obtain rfl:=ι ec';refine u2 ?_<|zgs ec;rintro j0 c0 ⟨hn0,z⟩;rw[eb,ecell,hn]at hn0;cases hn0
def zu8(h:v∈EY cs O b row):v∈row\/∃ c∈cs,v=c.val:=by
 unfold EY at h;revert h;generalize C9 cs b=l
 induction l generalizing row with
 |nil=>exact .inl
 |cons k l ih =>
  intro h;rcases ih h with h|h
  unfold HC at h;split at h;split at h;rename_i c ec;rcases ss h with h|h
  exact .inl h;exact .inr {c,η ec,h};exact .inl h;exact .inl h;exact .inr h
example:(zu9,U5,wS,2):=by
 apply u6;rintro X cs tks M b row ⟨rfl,⟨T,TP,TL,TS⟩,I,er,q⟩;obtain⟨dx,ho⟩:=I.ob;obtain⟨dp,ep⟩:=I.bk.pk.ob;obtain⟨db,eb⟩:=I.bk.bk.ob
 have hb:=(ε.mp er).1;refine y3 {ho,TS.cl,TS.n2,_,IN,y2 {eb,DV (by decide),x7 _ _ _ _ cs _ b {rfl,T,TP,I.bk,λb' row' t ol hl H' eb' er' u u u u B' sb=>?_,λz=>by lia}}};obtain rfl:b=b':=cw eb';rw[er]at er';obtain rfl:=ι er'
 have lo:∀ x,X.S.A.F x->ER _:=λx hx=>I.bk.loose hx;obtain⟨⟨dx,e1⟩,e2,e3,e4,e5,e6,e7,e8,e9,e10,e11,e12⟩:=I
 have tk:D1 H H':=λy ys e=>sb _ _ e λz=>z.elim (λz=>(lo _ z).1 _ e) λz=>by rw[z,ep]at e;cases e
 obtain⟨dl,el⟩:=e2.ob;refine q t H' {{dx,sb _ _ e1 λz=>z.elim (λz=>(lo _ z).2 _ _ _ e1) λz=>?_},e2.sb sb λz=>z.elim (λz=>(lo _ z).2 _ _ _ el) λz=>?_,B',sb _ _ e4 λz=>z.elim e7 λz=>?_,e5,e6,e7,{e8.1,e8.2.1,e8.2.2.1,e8.2.2.2.1,by show(X.rows.set b _).length=X.n+X.r+X.c+X.r+X.c;rw[ky];exact e8.2.2.2.2},{λq hq v hv=>?_,(e9.keep tk).2},λkind k v h1 hk hv=>?_,e11,e12.keep tk} sb;rw[show X.S.st=X.S.A.gp from z,ep]at e1;injection e1 with e1
 injection e1 with _ _ e1
 cases (congrArg (·.lookup ("plan":Str)) e1);rw[z,ep]at el;injection el with el
 injection el with _ _ el
 exact absurd (congrArg lb el) (by simp[pf,lf]);rw[show X.S.tk=X.S.A.gp from z,ep]at e4;cases e4
 have g:=e9.keep tk;rcases ss hq with hq|hq
 exact g.1 q hq v hv;rw[hq]at hv;rcases zu8 hv with hv|⟨c,hc,rfl⟩
 exact g.1 _ (η er) v hv;exact g.2 c hc
 have hv:ET cs (X.rows.set b _) (BI X.n X.r X.c X.w _ k) (k%X.w:Nat)=some v:=hv;refine(e10 _ k v h1 hk ?_).keep tk;rw[<-hv];unfold ET;cases en:EC cs _ _ with
 |some j=>rfl
 |none =>
  rw[az];by_cases e:BI X.n X.r X.c X.w kind k=b;rw[e]at en ⊢;rw[er,gz hb]
  show row[_]? =(EY cs _ b _)[_]?;rw[az,zu7 en];rw[ir (λz=>e z.symm)]
def CM{c A B:Prop}[Decidable c](h:c)(x:A):if c then A else B:=by rw[if_pos h];exact x
def CI{c A B:Prop}[Decidable c](h:¬ c)(x:B):if c then A else B:=by rw[if_neg h];exact x
def zva{α :Type}{l:List (Option α)}{k:Nat}{c: α}(h:AS l k=some c):some c∈l:=by
 unfold AS at h;cases e:l[k]? with
 |none=>rw[e]at h;cases h
 |some y =>
  rw[e]at h;exact h ▸ η e
def FindsL.on{H':Hp}{l:Addr}{fs:t5}(h:FindsL H l fs)(hl:∀ o,H l=some o->H' l=some o)(tk:D1 H H'):FindsL H' l fs:=by
 obtain⟨ps,e,P⟩:=h;exact{ps,hl _ e,Paired.mapP P λp f e=>tk _ _ e}
def NmV.keep(k:D1 H H')(h:NmV H v c):NmV H' v c:=by
 cases c with
 |none=>exact h
 |some c=>obtain⟨p,e,h1⟩:=h;exact{p,e,k _ _ h1}
def RcV.keep(k:D1 H H')(h:RcV H v c):RcV H' v c:=by
 cases c with
 |none=>exact h
 |some c=>revert h;apply u2;rintro p q ⟨e,h1,h2⟩;exact x2 p q {e,k _ _ h1,k _ _ h2}
def PcV.keep(_:D1 H H')(h:PcV H v c):PcV H' v c:=by
 cases c<;>exact h
def MkV.keep(_:D1 H H')(h:MkV H v c):MkV H' v c:=by
 cases c<;>exact h
def LstAt.keep{α :Type}{R:Hp->V-> α ->Prop}{H':Hp}{p:Addr}{cs:List α}(h:LstAt R H p cs)(kr:∀ v c,R H v c->R H' v c)(kp:∀ o,H p=some o->H' p=some o):LstAt R H' p cs:=by
 obtain⟨vs,e,P⟩:=h;exact{vs,kp _ e,Paired.mapP P λv c=>kr v c}
def FindsL.same(h:FindsL H l fs)(s:Same H H'):FindsL H' l fs:=by
 obtain⟨ps,e,P⟩:=h;exact{ps,s _ _ e,Paired.mapP P λp f e=>s _ _ e}
def ViewAt.same{H':Hp}{x:Addr}{A:VA}{vw:Vw}(h:ViewAt a H x A vw)(s:Same H H'):ViewAt a H' x A vw:=by
 obtain⟨⟨dx,e⟩,h1,h2,h3,h4,h5,h6,h7,h8,ok⟩:=h;exact{{dx,s _ _ e},h1.keep (λv c=>NmV.keep s.tk) (λo=>s _ _),h2.keep (λv c=>RcV.keep s.tk) (λo=>s _ _),h3.keep (λv c=>PcV.keep s.tk) (λo=>s _ _),h4.keep (λv c=>MkV.keep s.tk) (λo=>s _ _),h5.keep (λv c=>MkV.keep s.tk) (λo=>s _ _),s _ _ h6,s _ _ h7,s _ _ h8,ok}
def LstAt.at{α :Type}{R:Hp->V->Option α ->Prop}{p:Addr}{cs:List (Option α)}{k:Nat}(h:LstAt R H p cs)(hk:k<cs.length):∃ vs v,H p=some (.lst vs)/\vs.length=cs.length/\vs[k]? =some v/\R H v (AS cs k):=by
 obtain⟨vs,e,P⟩:=h;obtain⟨v,ev,hr⟩:=GS P<|θ hk;refine x2 vs v {e,P.length,ev,?_};unfold AS;rw[θ hk];exact hr
def VN{l:ad}{k:Nat}{m:Nat}(h:l[k]? =some m):(AX l)[k]? =some (.int m):=by
 unfold AX;rw[τ,h]
 rfl
def OE{n k:Nat}{f:Nat->Nat}(h:k<n):((ο n).map f)[k]? =some (f k):=by
 rw[τ,xa h]
 rfl
def RP{p:Addr}{n k:Nat}{f:Nat->Nat}{Q:VK}(h:H p=some (.lst<|AX<|(ο n).map f))(hk:k<n)(q:Q (.int<|f k) H):BR K (.ref p) (.int k) H Q :=
 CW (SqL.of h)  rfl (VN<|OE hk) q
def zvb:(vf A).lookup ("name_values":Str)=some (V.ref A.n):=by simp[vf]
def VO:(vf A).lookup ("record_values":Str)=some (V.ref A.r):=by
 simp[vf,aw,A8 (a:="record_values") (b:="name_values") (by decide)]
def zvc:(vf A).lookup ("piece_values":Str)=some (V.ref A.p):=by
 simp[vf,aw,A8 (a:="piece_values") (b:="name_values") (by decide),A8 (a:="piece_values") (b:="record_values") (by decide)]
def Ap{A:VA}:(vf A).lookup ("record_marks":Str)=some (V.ref A.rm):=by
 simp[vf,aw,A8 (a:="record_marks") (b:="name_values") (by decide),A8 (a:="record_marks") (b:="record_values") (by decide),A8 (a:="record_marks") (b:="piece_values") (by decide)]
def Aq{A:VA}:(vf A).lookup ("piece_marks":Str)=some (V.ref A.pm):=by
 simp[vf,aw,A8 (a:="piece_marks") (b:="name_values") (by decide),A8 (a:="piece_marks") (b:="record_values") (by decide),A8 (a:="piece_marks") (b:="piece_values") (by decide),A8 (a:="piece_marks") (b:="record_marks") (by decide)]
def bJ{A:VA}:(vf A).lookup ("leads":Str)=some (V.ref A.ld):=by
 simp[vf,aw,A8 (a:="leads") (b:="name_values") (by decide),A8 (a:="leads") (b:="record_values") (by decide),A8 (a:="leads") (b:="piece_values") (by decide),A8 (a:="leads") (b:="record_marks") (by decide),A8 (a:="leads") (b:="piece_marks") (by decide)]
def Av{A:VA}:(vf A).lookup ("namings":Str)=some (V.ref A.ng):=by
 simp[vf,aw,A8 (a:="namings") (b:="name_values") (by decide),A8 (a:="namings") (b:="record_values") (by decide),A8 (a:="namings") (b:="piece_values") (by decide),A8 (a:="namings") (b:="record_marks") (by decide),A8 (a:="namings") (b:="piece_marks") (by decide),A8 (a:="namings") (b:="leads") (by decide)]
def zvd:(vf A).lookup ("reached":Str)=some (V.ref A.rh):=by
 simp[vf,aw,A8 (a:="reached") (b:="name_values") (by decide),A8 (a:="reached") (b:="record_values") (by decide),A8 (a:="reached") (b:="piece_values") (by decide),A8 (a:="reached") (b:="record_marks") (by decide),A8 (a:="reached") (b:="piece_marks") (by decide),A8 (a:="reached") (b:="leads") (by decide),A8 (a:="reached") (b:="namings") (by decide)]
def M5{A:VA}{x:Str}(h:(DK x "name_values" || DK x "record_values" || DK x "piece_values" || DK x "record_marks" || DK x "piece_marks" || DK x "leads" || DK x "namings" || DK x "reached")=false):(vf A).lookup x=none:=by
 simp only[rf]at h;obtain⟨⟨⟨⟨⟨⟨⟨h1,h2⟩,h3⟩,h4⟩,h5⟩,h6⟩,h7⟩,h8⟩:=h;simp[vf,aw,A8 h1,A8 h2,A8 h3,A8 h4,A8 h5,A8 h6,A8 h7,A8 h8]
section
variable{tt:TT}{te:TE}{AY:ad}{σ:St}
def HK{H0 H':Hp}{l:Addr}{o:HO}(s:Same H0 H')(h:H' l=none):Same H0 (upd H' l o):=s.trans<|AL h
def FnW(H:Hp)(is:ad)(p:Wu)(f:Ru)(i:Nat)(ys:Tr)(H':Hp):Prop:=Same H H'/\∃ ps:Uu,ys=ps.map V.ref/\Paired (λq g=>H' q=some (.tup g)) ps (((is.take i).filter p).map f)
def JQ{α :Type}{l:List α}{i:Nat}{x: α}(h:l[i]? =some x):l.take (i+1)=l.take i++[x]:=by
 obtain⟨g1,g2⟩:=ε.mp h;rw[<-g2,zg]
def FnW.yes{p:Wu}{f:Ru}(h:FnW H is p f i ys H')(hk:is[i]? =some k)(hp:p k=true)(ht:H' t=none):FnW H is p f (i+1) (ys++[.ref t]) (upd H' t<|.tup<|f k):=by
 obtain⟨s,ps,e,P⟩:=h;refine{HK s ht,ps++[t],by rw[e,χ];rfl,?_};rw[JQ hk,jn,χ]
 have:([k].filter p).map f=[f k]:=by simp[hp]
 rw[this];exact Paired.snoc (Paired.mapP P λq g e=>AL ht _ _ e) AE
def FnW.no{is:ad}{p:Wu}{f:Ru}{i k:Nat}{ys:Tr}{H':Hp}(h:FnW H is p f i ys H')(hk:is[i]? =some k)(hp:p k=false):FnW H is p f (i+1) ys H':=by
 obtain⟨s,ps,e,P⟩:=h;refine{s,ps,e,?_}
 have:([k].filter p).map f=[]:=by simp[hp]
 rw[JQ hk,jn,χ,this,kx];exact P
def FnW.len{is:ad}{p:Wu}{f:Ru}{i:Nat}{ys:Tr}{H':Hp}(h:FnW H is p f i ys H'):ys.length<=i:=by
 obtain⟨s,ps,e,P⟩:=h;rw[e,ζ,P.length,ζ];exact ψ (fm ..) (by rw[de];lia)
def FnW.fin{is:ad}{p:Wu}{f:Ru}{ys:Tr}{H':Hp}{l:Addr}(h:FnW H is p f is.length ys H')(hl:H' l=none):H l=none/\Same H (upd H' l<|.lst ys)/\FindsL (upd H' l<|.lst ys) l ((is.filter p).map f):=by
 obtain⟨s,ps,rfl,P⟩:=h;rw[ce]at P;exact{s.free hl,HK s hl,ps,AE,Paired.mapP P λq g e=>AL hl _ _ e}
def M6{b:Addr}{is:ad}(p:Wu)(f:Ru)(hb:H b=some (.lst<|AX is))(hn:is.length<=1000)
  (ht:∀ k∈is,∀ H',Same H H'->∀ QB:Bool->Hp->Prop,QB (p k) H'->tt (some (.int (k:Int))::C1 AY σ) H' QB)
  (he:∀ k∈is,p k=true->∀ H' (Q':VK),Same H H'->(∀ t,H' t=none->Q' (.ref t) (upd H' t<|.tup<|f k))->te (some (.int (k:Int))::C1 AY σ) H' Q') (hd:newF ((is.filter p).map f) H Q):DU (GQ K b) (AF 0) tt te 1 AY σ H Q:=by
 have at':∀ {i:Nat} {x:V},(AX is)[i]? =some x->∃ k,is[i]? =some k/\x=.int k:=λe=>by
  unfold AX at e;rw[τ,au]at e;obtain⟨k,h1,h2⟩:=e;exact⟨k,h1,h2.symm⟩
 have hl:(AX is).length=is.length:=by simp[AX]
 refine o7  (λi=>match is[i]? with
  |some k=>p k
  |none=>false) (CJ _<|oA (ψ (bt hl) hn) rfl) (FnW H is p f) {Same.refl _,[],rfl,.nil} (λi ys H' _ h=>{SqL.of<|h.1 _ _ hb,h.len}) (λi x ys H' hx h QB qb=>?_) (λi x ys H' hx hp h=>?_) (λi x ys H' hx hp h=>?_) (λys H' h q hq=>?_)
 obtain⟨k,ek,rfl⟩:=at' hx;simp only[ek]at qb;exact ht k (η ek) H' h.1 QB qb;obtain⟨k,ek,rfl⟩:=at' hx;simp only[ek]at hp;exact he k (η ek) hp H' _ h.1 λt ht0=>h.yes ek hp ht0;obtain⟨k,ek,rfl⟩:=at' hx;simp only[ek]at hp;exact h.no ek hp;rw[hl]at h;obtain⟨h1,h2,h3⟩:=h.fin hq;exact hd q _ h1 h2 h3
def RQ{b:Addr}{xs:Tr}(p:Wu)(hb:H b=some (.lst xs))(hn:xs.length<=1000)
  (ht:∀ i x,xs[i]? =some x->∀ H',Same H H'->∀ QB:Bool->Hp->Prop,QB (p i) H'->tt (some (.int (i:Int))::some x::C1 AY σ) H' QB) (hd:newL (AX<|(ο xs.length).filter p) H Q):DU (LC K b) (FE K 2<|DF (AF 0) (DF (AF 1) FD)) tt (EA 0) 2 AY σ H Q:=by
 refine YF  p (CJ _<|oA hn rfl) (λi ys H'=>Same H H'/\ys=AX ((ο i).filter p)) {Same.refl _,rfl} (λi ys H' z ⟨s,e⟩=>{SqL.of<|s _ _ hb,?_}) (λi ys H' t o ⟨s,e⟩ h=>{HK s h,e}) (λi x ys H' hx ⟨s,e⟩ QB qb=>ht i x hx H' s QB qb) (λi x ys H' hx hp ⟨s,e⟩=>{s,by rw[e];unfold AX;rw[bz];simp[hp]}) (λi x ys H' hx hp ⟨s,e⟩=>{s,?_}) (λys H' hzz q hq=>?_);rw[e];unfold AX;rw[ζ];exact ψ (fm ..) (by rw[dw];exact υ _);rw[e];rw[bz];simp[hp];obtain⟨s,rfl⟩:=hzz;exact hd q _ (s.free hq) (HK s hq) AE
end
def ViewAt.rl{x:Addr}{A:VA}{vw:Vw}(h:ViewAt a H x A vw):∃ vs,H A.r=some (.lst vs)/\vs.length=vw.rc.length:=by
 obtain⟨vs,e,P⟩:=h.r;exact⟨vs,e,P.length⟩
def bK(h:RcV H v c):decide (v=.non)=c.isNone:=by
 cases c with
 |none=>rw[h];rfl
 |some c=>revert h;apply u2;rintro p q ⟨rfl,z⟩;rfl
def zve{v:V}{c:N4}(h:NmV H v c):decide (v=.non)=c.isNone:=by
 cases c with
 |none=>rw[h];rfl
 |some c=>obtain⟨p,rfl,z⟩:=h;rfl
def zvf(h:PcV H v c):decide (v=.non)=c.isNone:=by
 cases c with
 |none=>rw[h];rfl
 |some c=>rw[h];rfl
example:(zvg,U2,qJ,2):=by
 apply u5;rintro x A vw r c ⟨rfl,T,I,hc,q⟩;obtain⟨dx,e⟩:=I.ob
 have hr:r<vw.rc.length:=by
  unfold AS at hc;cases e2:vw.rc[r]? with
  |none=>rw[e2]at hc;cases hc
  |some _=>exact(ε.mp e2).1
 refine u2 ?_<|I.r.at hr;rintro us v ⟨e1,hl,ev,hv⟩;rw[hc]at hv;revert hv;apply u2;rintro p q' ⟨rfl,h1,h2⟩;exact y3 {e,T.cl,T.n2,_,VO,CW (SqL.of e1)  rfl ev (BB h1  rfl rfl q)}
example:(zvh,U1,qH,1):=by
 apply u3;rintro x A vw ⟨rfl,T,I,q⟩;obtain⟨dx,e⟩:=I.ob;obtain⟨us,e1,P⟩:=I.r
 have hl:=P.length;refine y3 {e,T.cl,T.n2,_,VO,{_,SqL.of e1},RQ (λr=>(AS vw.rc r).isSome) e1 (oA (ψ (bt hl) I.ok.br) rfl) (λi v hv H' s QB qb=>?_) ?_};refine u2 ?_<|I.r.at  (hl ▸ ((ε.mp hv).1));rintro us' v' ⟨e1',z,ev,hr⟩;rw[e1]at e1';cases e1';rw[hv]at ev;obtain rfl:=ι ev;push_cast[];rw[bK hr];simpa using qb;rw[hl];exact q
def bL(n:Nat):decide ((0:Int)<(n:Int))=decide (0<n):=by simp
def zvi(n:Nat):decide ((1:Int)<(n:Int))=decide (1<n):=by
 lia
def zvj(n:Nat):decide ((n:Int)=(0:Int))=decide (n=0):=by simp
def HL(l:ad):(AX l).length=l.length:=by simp[AX]
def M7(n:Nat)(f:Nat->Nat):((ο n).map f).length=n:=by simp
example:(zvk,RB,qI,1):=by
 apply u3;rintro x A vw ⟨rfl,T,I,q⟩;obtain⟨dx,e⟩:=I.ob
 have e1:=I.ng;refine y3 {e,T.cl,T.n7,_,Av,{_,SqL.of e1},RQ (λp=>decide<|0<EJ vw p) e1 (by rw[HL,M7];exact oA I.ok.bp rfl) (λi v hv H' s QB qb=>?_) ?_}
 have hi:=(ε.mp hv).1;rw[HL,M7]at hi;rw[VN (OE hi)]at hv;obtain rfl:=ι hv;push_cast[];rw[bL];exact qb;rw[HL,M7];exact q
example:(zvl,Y6,qG,1):=by
 apply u4;rintro x ar al vw ⟨rfl,T,⟨dx,fs,e,l1⟩,⟨dx',fs',e',l2⟩,hr,hal,br,q⟩;rw[e]at e'
 have hr':=hr;cases e';obtain⟨us,e1,P⟩:=hr
 have hl:=P.length;refine y3 {e,T.cl,T.n2,_,l1,{_,SqL.of e1},(YF  (λr=>decide<|0<led vw r) (CJ _<|oA (ψ (bt hl) br) rfl) (λi ys H'=>Same H H'/\Paired (RcV H') ys (((ο i).filter λr=>decide<|0<led vw r).map (AS vw.rc))) {Same.refl _,.nil} (λi ys H' z ⟨s,e⟩=>{SqL.of<|s _ _ e1,?_}) (λi ys H' t o ⟨s,P'⟩ h=>{HK s h,Paired.mapP P' λv c=>RcV.keep (AL h).tk}) (λi v ys H' hv hzz QB qb=>?_) (λi v ys H' hv hp hzz=>?_) (λi v ys H' hv hp ⟨s,P'⟩=>{s,?_}) (λys H' hzz p hp=>?_))};rw[e.length,ζ];exact ψ (fm ..) (by rw[dw];exact υ _);obtain⟨s,P'⟩:=hzz;refine y3 {s _ _ e,T.cl,T.n6,_,l2,RP (s _ _ hal) (hl ▸ ((ε.mp hv).1)) ?_};push_cast[];rw[bL];exact qb;obtain⟨s,P'⟩:=hzz;refine u2 ?_<|hr'.at  (hl ▸ ((ε.mp hv).1));rintro us' v' ⟨e1',z,ev,hrv⟩;rw[e1]at e1';cases e1';rw[hv]at ev;obtain rfl:=ι ev;refine{s,?_};rw[bz,jn,χ]
 have:(([i].filter λr=>decide<|0<led vw r).map (AS vw.rc))=[AS vw.rc i]:=by simp[hp]
 rw[this];exact Paired.snoc P'<|RcV.keep s.tk hrv;rw[bz,jn,χ]
 have:(([i].filter λr=>decide<|0<led vw r).map (AS vw.rc))=[]:=by simp[hp]
 rw[this,kx];exact P';obtain⟨s,P'⟩:=hzz;rw[hl]at P';exact q p _ (s.free hp) (HK s hp) {ys,AE,Paired.mapP P' λv c=>RcV.keep (AL hp).tk}
def Aw(h:MkV H0 v c)(q:Q (.bl<|decide<|c=some 1) H):B7 K v (.int 1) H Q:=by
 cases c with
 |none=>rw[h];exact q
 |some j=>rw[h];show Q _ _;simpa using q
def Ax{H0:Hp}{v:V}{c:Option Int}{Q:VK}(h:MkV H0 v c)(q:Q (.bl<|!decide (c=some 1)) H):DQ K v (.int 1) H Q:=by
 cases c with
 |none=>rw[h];exact q
 |some j=>rw[h];show Q _ _;simpa using q
def KQ{n:Nat}{p q r:Wu}{f:Ru}(h:∀ k,k<n->(p k&&q k)=r k):(((ο n).filter p).filter q).map f=CZ n r f:=by
 rw[List.filter_filter]
 congr 1
 refine Iw λk hk=>?_;rw[Bool.and_comm];exact h k<|ak.mp hk
def LX{n:Nat}{p:Wu}(h:n<=100):((ο n).filter p).length<=1000:=ψ (fm ..) (by rw[dw];exact oA h rfl)
def LY{n k:Nat}{p:Wu}(h:k∈(ο n).filter p):k<n/\p k=true:=by
 obtain⟨h1,h2⟩:=cj.mp h;exact{ak.mp h1,h2}
def newF.of{fs:t5}{H1:Hp}(q:newF fs H Q)(s:Same H H1):newF fs H1 Q:=λl H' hl s' F=>q l H' (s.free hl) (s.trans s') F
def newL.of{xs:Tr}{H1:Hp}(q:newL xs H Q)(s:Same H H1):newL xs H1 Q:=λl H' hl s' F=>q l H' (s.free hl) (s.trans s') F
example:(zvm,ZB,ZS,2):=by
 apply u3;rintro x A vw ⟨rfl,T,I,q⟩;obtain⟨dx,e⟩:=I.ob
 have bp:=I.ok.bp;obtain⟨us,e1,P⟩:=I.pm
 have l2:=I.ok.l2
 have hl:=P.length;push_cast[ZS,↓qQ_];refine y3 {e,T.cl,T.n5,_,Aq,{_,SqL.of e1},RQ (λp=>decide<|AS vw.pm p=some 1) e1 (by lia) (λi v hv H' s QB qb=>?_) λl H1 DN s1 el=>?_};refine u2 ?_<|I.pm.at  (hl ▸ ((ε.mp hv).1));rintro us' v' ⟨e1',z,ev,hr⟩;rw[e1]at e1';cases e1';rw[hv]at ev;obtain rfl:=ι ev;push_cast[];exact Aw hr qb;rw[hl,l2]at el;refine .inl {{_,SqL.of el},M6 (λp=>decide<|G0 vw p=0) (λp=>[.str "left",.str "piece",.int p]) el (LX bp) (λk hk H' s QB qb=>?_) (λk hk hp H' Q' s q'=>?_) ?_};obtain⟨hk,z⟩:=LY hk
 have s':=s1.trans s;refine y3 {s' _ _ e,T.cl,T.n8,_,zvd,RP (s' _ _ I.rh) hk ?_};push_cast[];rw[zvj];exact qb;push_cast[];exact{by decide,q'};rw[KQ λk z=>rfl];exact q.of s1
example:(zvn,ZC,ZT,2):=by
 apply u3;rintro x A vw ⟨rfl,T,I,q⟩;obtain⟨dx,e⟩:=I.ob
 have bp:=I.ok.br;obtain⟨us,e1,P⟩:=I.rm
 have l2:=I.ok.l1
 have hl:=P.length;push_cast[ZT,↓qS_];refine y3 {e,T.cl,T.n4,_,Ap,{_,SqL.of e1},RQ (λp=>decide<|AS vw.rm p=some 1) e1 (by lia) (λi v hv H' s QB qb=>?_) λl H1 DN s1 el=>?_};refine u2 ?_<|I.rm.at  (hl ▸ ((ε.mp hv).1));rintro us' v' ⟨e1',z,ev,hr⟩;rw[e1]at e1';cases e1';rw[hv]at ev;obtain rfl:=ι ev;push_cast[];exact Aw hr qb;rw[hl,l2]at el;refine .inl {{_,SqL.of el},M6 (λr=>(AS vw.rc r).isNone) (λr=>[.str "marked",.int r]) el (LX bp) (λk hk H' s QB qb=>?_) (λk hk hp H' Q' s q'=>?_) ?_};obtain⟨hk,z⟩:=LY hk
 have s':=s1.trans s;refine u2 ?_<|(I.same s').r.at hk;rintro us' v' ⟨e1',z,ev,hr⟩;refine y3 {s' _ _ e,T.cl,T.n2,_,VO,CW (SqL.of e1')  rfl ev ?_};push_cast[];rw[bK hr];exact qb;push_cast[];exact{by decide,q'};rw[KQ λk z=>rfl];exact q.of s1
def LZ{α β :Type}{F: α -> β ->Prop}:∀ {l l':List α} {m m':List β},Paired F l m->Paired F l' m'->Paired F (l++l') (m++m')
 |_,_,_,_,.nil,h=>h
 |_,_,_,_,.cons x r,h=>.cons x<|LZ r h
def D2{n:Nat}{p:Wu}{f:Ru}(h:n<=100):(CZ n p f).length<=100:=by
 unfold CZ;rw[ζ];exact ψ (fm ..) (by rw[dw];exact h)
def JR{l1 l2:Addr}{f1 f2:t5}{Q:VK}(h1:FindsL H l1 f1)(h2:FindsL H l2 f2)(hn:f1.length+f2.length<=10000)(q:newF (f1++f2) H Q):BH K (.ref l1) (.ref l2) H Q:=by
 obtain⟨p2,e2,P2⟩:=h2;obtain⟨p1,e1,P1⟩:=h1;exact .inl (x4 l1 l2 _ _ {rfl,rfl,e1,e2,CJ _ (by rw[ζ,ζ,P1.length,P2.length];exact oA hn rfl),λp hp=>(q p _ hp (AL hp) {_,by rw[AE,χ],Paired.mapP (LZ P1 P2) λx f e=>AL hp _ _ e})})
def VP(ok:EK vw):(N5 vw).length<=200/\(N6 vw).length<=300/\(Q9 vw).length<=200/\(N7 vw).length<=200/\(N8 vw).length<=100/\(N9 vw).length<=100:=by
 unfold N5 N6 Q9 N7 N8 N9;simp only[ae];exact{rg (D2 ok.bn) (D2 ok.bn),rg (rg (D2 ok.bp) (D2 ok.bp)) (D2 ok.br),rg (D2 ok.br) (D2 ok.bp),rg (D2 ok.br) (D2 ok.br),D2 ok.bp,D2 ok.br}
example:(zvo,U3,vJ,1):=by
 apply u3;rintro x A vw ⟨rfl,T,I,q⟩;obtain⟨n1,n2,n3,z⟩:=VP I.ok;exact x3 x A vw {rfl,T,I,λl1 H1 h1 s1 F1=>x3 x A vw {rfl,T,I.same s1,λl2 H2 h2 s2 F2=>JR (F1.same s2) F2 (by lia) λl3 H3 h3 s3 F3=>x3 x A vw {rfl,T,I.same<|(s1.trans s2).trans s3,λl4 H4 h4 s4 F4=>JR (F3.same s4) F4 (by simp only[ae];lia) (q.of<|((s1.trans s2).trans s3).trans s4)}}}
example:(zvp,ZD,vK,1):=by
 apply u3;rintro x A vw ⟨rfl,T,I,q⟩;obtain⟨z,z,z,n1,n2,n3⟩:=VP I.ok;exact x3 x A vw {rfl,T,I,λl1 H1 h1 s1 F1=>x3 x A vw {rfl,T,I.same s1,λl2 H2 h2 s2 F2=>JR (F1.same s2) F2 (by lia) λl3 H3 h3 s3 F3=>x3 x A vw {rfl,T,I.same<|(s1.trans s2).trans s3,λl4 H4 h4 s4 F4=>JR (F3.same s4) F4 (by simp only[ae];lia) (q.of<|((s1.trans s2).trans s3).trans s4)}}}
example:(zvq,Y9,Z6,4):=by
 apply u3;rintro x A vw ⟨rfl,T,I,q⟩;obtain⟨dx,e⟩:=I.ob
 have br:=I.ok.br
 have bp:=I.ok.bp;push_cast[Z6,↓sW_];refine y3 {e,T.cl,T.n6,_,bJ,{_,SqL.of I.ld},RQ (λp=>decide<|0<led vw p) I.ld (by rw[HL,M7];exact oA br rfl) (λi v hv H' s QB qb=>?_) λl H1 DN s1 el=>?_}
 have hi:=(ε.mp hv).1;rw[HL,M7]at hi;rw[VN (OE hi)]at hv;obtain rfl:=ι hv;push_cast[];rw[bL];exact qb;rw[HL,M7]at el;push_cast[↓sX_];refine .inl {{_,SqL.of el},M6 (λr=> !decide (AS vw.rm r=some 1)) (λr=>[.str "free",.str "record",.int r]) el (LX br) (λk hk H' s QB qb=>?_) (λk hk hp H' Q' s q'=>?_) ?_};obtain⟨hk,z⟩:=LY hk
 have s':=s1.trans s;refine u2 ?_ ((I.same s').rm.at  (by rw[I.ok.l1];exact hk));rintro us' v' ⟨e1',z,ev,hr⟩;push_cast[C1];exact y3 {s' _ _ e,T.cl,T.n4,_,Ap,CW (SqL.of e1')  rfl ev (Ax hr qb)};push_cast[];exact{by decide,q'};rw[KQ λk z=>rfl];intro l2 H2 D3 s2 F2
 have I2:=I.same<|s1.trans s2;obtain⟨dx2,e2⟩:=I2.ob;push_cast[↓sY_];refine y2 {e2,M5 (by decide),x3 x A vw {rfl,T,I2,λl3 H3 hl3 s3 el3=>(.inl {{_,SqL.of el3},M6 (λp=> !decide (AS vw.pm p=some 1)) (λp=>[.str "free",.str "piece",.int p]) el3 (LX bp) (λk hk H' s QB qb=>?_) (λk hk hp H' Q' s q'=>?_) ?_})}};obtain⟨hk,z⟩:=LY hk
 have I':=(I2.same s3).same s;obtain⟨dx',e'⟩:=I'.ob;refine u2 ?_ (I'.pm.at  (by rw[I.ok.l2];exact hk));rintro us' v' ⟨e1',z,ev,hr⟩;push_cast[C1];exact y3 {e',T.cl,T.n5,_,Aq,CW (SqL.of e1')  rfl ev (Ax hr qb)};push_cast[];exact{by decide,q'};rw[KQ λk z=>rfl];intro l4 H4 hl4 s4 F4
 have n2:=D2 (p:=λp=>decide (0<EJ vw p) && !decide (AS vw.pm p=some 1)) (f:=λp=>[.str "free",.str "piece",.int p]) bp
 have n1:=D2 (p:=λr=>decide (0<led vw r) && !decide (AS vw.rm r=some 1)) (f:=λr=>[.str "free",.str "record",.int r]) br;exact JR (F2.same<|s3.trans s4) F4 (by omega) (q.of<|((s1.trans s2).trans s3).trans s4)
example:(zvr,Y8,Z5,4):=by
 apply u3;rintro x A vw ⟨rfl,T,I,q⟩;obtain⟨dx,e⟩:=I.ob
 have br:=I.ok.br
 have bp:=I.ok.bp;push_cast[Z5,↓sT_];refine y2 {e,M5 (by decide),x3 x A vw {rfl,T,I,λl1 H1 DN s1 el1=>(.inl {{_,SqL.of el1},M6 (λp=>decide<|1<EJ vw p) (λp=>[.str "shared",.int p]) el1 (LX bp) (λk hk H' s QB qb=>?_) (λk hk hp H' Q' s q'=>?_) ?_})}};obtain⟨hk,z⟩:=LY hk
 have I':=(I.same s1).same s;obtain⟨dx',e'⟩:=I'.ob;refine y3 {e',T.cl,T.n7,_,Av,RP I'.ng hk ?_};push_cast[];rw[zvi];exact qb;push_cast[];exact{by decide,q'};rw[KQ (r:=λp=>decide<|1<EJ vw p) λk z=>by
  by_cases h:1<EJ vw k;simp[h];exact ψ (by decide) h
  ·simp[h]]
 intro l2 H2 D3 s2 F2
 have I2:=I.same<|s1.trans s2;obtain⟨dx2,e2⟩:=I2.ob;push_cast[↓sU_];refine y2 {e2,M5 (by decide),x3 x A vw {rfl,T,I2,λl3 H3 hl3 s3 el3=>(.inl {{_,SqL.of el3},M6 (λp=>(AS vw.pc p).isNone) (λp=>[.str "empty",.int p]) el3 (LX bp) (λk hk H' s QB qb=>?_) (λk hk hp H' Q' s q'=>?_) ?_})}};obtain⟨hk,z⟩:=LY hk
 have I':=(I2.same s3).same s;obtain⟨dx',e'⟩:=I'.ob;refine u2 ?_<|I'.p.at hk;rintro us' v' ⟨e1',z,ev,hr⟩;refine y3 {e',T.cl,T.n3,_,zvc,CW (SqL.of e1')  rfl ev ?_};push_cast[];rw[zvf hr];exact qb;push_cast[];exact{by decide,q'};rw[KQ λk z=>rfl];intro l4 H4 hl4 s4 F4
 have I4:=(I2.same s3).same s4;obtain⟨dx4,e4⟩:=I4.ob;push_cast[↓sV_];refine y2 {e4,M5 (by decide),x3 x A vw {rfl,T,I4,λl5 H5 hl5 s5 el5=>(.inl {{_,SqL.of el5},M6 (JM vw) (λr=>[.str "few",.int r]) el5 (LX br) (λk hk H' s QB qb=>?_) (λk hk hp H' Q' s q'=>?_) ?_})}};obtain⟨hk,hs⟩:=LY hk
 have I':=(I4.same s5).same s;obtain⟨dx',e'⟩:=I'.ob;obtain⟨c,hc⟩:=fg.mp hs;refine y2 {e',M5 (by decide),x5 x A vw k c {rfl,T,I',hc,x3 _ _ _ {e',T.cl,T.n6,_,bJ,RP I'.ld hk ?_}}};unfold JM at qb;rw[hc]at qb;exact qb;push_cast[];exact{by decide,q'};rw[KQ (r:=JM vw) λk z=>by
  unfold JM;cases AS _ k<;>simp]
 intro l6 H6 hl6 s6 F6
 have n2:=D2 (p:=λp=>decide (0<EJ vw p)&&(AS vw.pc p).isNone) (f:=λp=>[.str "empty",.int p]) bp
 have n1:=D2 (p:=λp=>decide<|1<EJ vw p) (f:=λp=>[.str "shared",.int p]) bp
 have n3:=D2 (p:=JM vw) (f:=λr=>[.str "few",.int r]) br
 have s26:=((s3.trans s4).trans s5).trans s6;exact JR (F2.same s26) (F4.same<|s5.trans s6) (by lia) λl7 H7 hl7 s7 F7=>JR F7 (F6.same s7) (by simp only[ae];lia) (q.of<|((s1.trans s2).trans s26).trans s7)
def TwoL(H:Hp)(l1 l2:Addr)(f1 f2:t5)(H':Hp):Prop:=SameBut (λy=>y=l1\/y=l2) H H'/\FindsL H' l1 f1/\FindsL H' l2 f2/\l1≠l2
def TwoL.same(h:TwoL H l1 l2 f1 f2 H1)(s:Same H1 H2):TwoL H l1 l2 f1 f2 H2:={h.1.trans s.sb,h.2.1.same s,h.2.2.1.same s,h.2.2.2}
def zvs(h:TwoL H l1 l2 f1 f2 H')(ht:H' t=some (.tup f)):TwoL H l1 l2 (f1++[f]) f2 (upd H' l1<|.lst<|((h.2.1).choose++[t]).map V.ref):=by
 obtain⟨s,F1,⟨p2,e2,P2⟩,n⟩:=h
 have k:∀ {y:Addr} {g:Tr},H' y=some (.tup g)->upd H' l1 (.lst<|(F1.choose++[t]).map V.ref) y=some _:=λe=>by rw[AG (BD e F1.choose_spec.1 (by intro z;cases z))];exact e
 exact{λy o e ny=>by rw[AG λz=>ny<|.inl z];exact s _ _ e ny,{_,AE,Paired.snoc (Paired.mapP F1.choose_spec.2 λq g e=>k e) (k ht)},{p2,by rw[AG n.symm];exact e2,Paired.mapP P2 λq g e=>k e},n}
def TwoL.flip{l1 l2:Addr}{f1 f2:t5}{H':Hp}(h:TwoL H l1 l2 f1 f2 H'):TwoL H l2 l1 f2 f1 H':={h.1.wide λz=>Or.symm,h.2.2.1,h.2.1,h.2.2.2.symm}
def VQ{l1 l2 t:Addr}{f1 f2:t5}{f:Tr}{H':Hp}{Q:VK}(h:TwoL H l1 l2 f1 f2 H')(hn:f1.length<=1000)(ht:H' t=some (.tup f))(q:∀ H2,TwoL H l1 l2 (f1++[f]) f2 H2->Q .non H2):EX (.ref l1) [.ref t] H' Q:=by
 have:=q _<|zvs h ht;refine{_,h.2.1.choose_spec.1,aa (show(h.2.1.choose.map _).length<10000 by rw[ζ,h.2.1.choose_spec.2.length];exact oC hn rfl) (by decide),?_};rw[χ]at this;exact this
def Ay:CZ (n+1) p f=if p n=true then CZ n p f++[f n]else CZ n p f:=by
 unfold CZ;rw[bz];split;rename_i h;simp[h];rename_i h;simp[h]
def HM(is:ad)(p:Wu)(f:Ru)(i:Nat):t5:=((is.take i).filter p).map f
def Az{is:ad}{p:Wu}{f:Ru}{i k:Nat}(h:is[i]? =some k):HM is p f (i+1)=if p k=true then HM is p f i++[f k]else HM is p f i:=by
 unfold HM;rw[JQ h];split;rename_i h;simp[h];rename_i h;simp[h]
def Bb{is:ad}{p:Wu}{f:Ru}{i:Nat}(h:is.length<=1000):(HM is p f i).length<=1000:=by
 unfold HM;rw[ζ];exact ψ (fm ..) (by rw[de];lia)
def ViewAt.two(I:ViewAt a H0 x A vw)(s0:Same H0 H)(n1:H0 l1=none)(n2:H0 l2=none)(W:TwoL H l1 l2 f1 f2 H'):ViewAt a H' x A vw :=
 I.same λy o e=>W.1 _ _ (s0 _ _ e) λz=>by
  rcases z with z|z
  rw[z,n1]at e;cases e;rw[z,n2]at e;cases e
example:(zvt,ZA,tF,5):=by
 apply u3;rintro x A vw ⟨rfl,T,I,q⟩
 have br:=I.ok.br;refine{by decide,λl1 DN=>{by decide,λl2 D3=>?_}}
 have s2:Same H (upd _ l2<|.lst []):=(AL DN).trans (AL D3)
 have n12:=BE AE D3
 have k1:FindsL (upd (upd H l1<|.lst []) l2 (.lst [])) l1 []:={[],by rw[AG n12,AE];rfl,.nil}
 have k2:FindsL (upd (upd H l1<|.lst []) l2 (.lst [])) l2 []:={[],AE,.nil}
 have f2:=(AL DN).free D3;revert s2 k1 k2;generalize upd _ l2 _=H2;intro s2 k1 k2
 have I2:=I.same s2;obtain⟨dx2,e2⟩:=I2.ob;refine y2 {e2,M5 (by decide),x3 x A vw {rfl,T,I2,λl3 H3 hl3 s3 el3=>(.inl {{_,SqL.of el3},?_})}}
 have m1:l1≠l3:=λz=>by
  obtain⟨ps,e,u⟩:=k1;rw[z,hl3]at e;cases e
 have m2:l2≠l3:=λz=>by
  obtain⟨ps,e,u⟩:=k2;rw[z,hl3]at e;cases e
 have FY:=s2.trans s3
 let is:=(ο vw.rc.length).filter λr=>(AS vw.rc r).isSome
 have hil:is.length<=1000:=LX br;refine IC  (λi σ H'=>TwoL H3 l1 l2 (HM is (GL vw) (λr=>[.str "many",.int r,.int<|led vw r]) i) (HM is (λr=>decide<|led vw r=0) (λr=>[.str "left",.str "record",.int r]) i) H'/\∃ y3 y4,σ=[some _,some _,some _,y3,y4]) {{SameBut.refl _,k1.same s3,k2.same s3,n12},x2 _ _ rfl} (by rintro i σ H' u ⟨W,u⟩;exact SqL.of<|W.1 _ _ el3 λz=>z.elim (λz=>m1 z.symm) λz=>m2 z.symm) (λi v σ H' hx hzz=>?_) (λσ H' hzz=>?_);obtain⟨W,y3,y4,eσ⟩:=hzz;subst eσ;unfold AX at hx;rw[τ,au]at hx;obtain⟨k,hk',rfl⟩:=hx;obtain⟨hk,hsm⟩:=LY<|η hk'
 have I':=I.two FY DN f2 W;obtain⟨dx',e'⟩:=I'.ob;obtain⟨c,hc⟩:=fg.mp hsm;refine x3 _ _ _ {e',T.cl,T.n6,_,bJ,RP I'.ld hk ?_}
 have im:GL vw k=(decide (0<led vw k)&&decide ((led vw k)<c.1)):=by unfold GL;rw[hc]
 push_cast[↓tE_];rw[Az hk',Az hk',im];by_cases h0:led vw k=0;refine CM (congrArg _ h0) ?_;push_cast[↓sZ_];obtain⟨ps2,ep2,u⟩:=W.2.2.1;refine{.inl {rfl,_,SqL.of ep2},by decide,λt ht=>VQ (W.same<|AL ht).flip (Bb hil) AE λH4 W4=>?_};rw[decide_eq_false (h0.symm ▸ by decide),if_pos h0];exact W4.flip;refine CI (λz=>h0<|cw z) (y2 {e',M5 (by decide +kernel),x5 x A vw k c {rfl,T,I',hc,?_}});push_cast[];by_cases h1:(led vw k)<c.1;refine CM h1 ?_;push_cast[↓tD_];obtain⟨ps2,ep2,u⟩:=W.2.1;refine{.inl {rfl,_,SqL.of ep2},by decide,λt ht=>VQ (W.same<|AL ht) (Bb hil) AE λH4 W4=>?_};rw[decide_eq_true (show 0<led vw k by exact nq h0),decide_eq_true h1,if_neg h0];exact W4;refine CI h1 ?_;rw[decide_eq_false h1,xy,if_neg h0];exact W;obtain⟨W,y3,y4,eσ⟩:=hzz;subst eσ;rw[HL]at W
 have g1:HM is (GL vw) (λr=>[.str "many",.int r,.int<|led vw r]) is.length=CZ vw.rc.length (GL vw) (λr=>[.str "many",.int r,.int<|led vw r]):=by
  unfold HM;rw[ce];exact KQ λk u=>by
   unfold GL;cases AS _ k<;>simp
 have g2:HM is (λr=>decide<|led vw r=0) (λr=>[.str "left",.str "record",.int r]) is.length=CZ vw.rc.length (λr=>(AS vw.rc r).isSome&&decide (led vw r=0)) (λr=>[.str "left",.str "record",.int r]):=by
  unfold HM;rw[ce];exact KQ λk u=>rfl
 rw[g1,g2]at W
 have n1:=D2 (p:=GL vw) (f:=λr=>[.str "many",.int r,.int<|led vw r]) br
 have n2:=D2 (p:=λr=>(AS vw.rc r).isSome&&decide (led vw r=0)) (f:=λr=>[.str "left",.str "record",.int r]) br;exact JR W.2.1 W.2.2.1 (by lia) (q.of λy o e=>W.1 _ _ (FY _ _ e) λz=>by
  rcases z with z|z
  rw[z,DN]at e;cases e;rw[z,f2]at e;cases e)
def OF(vw:Vw)(i:Nat)(s:Str):Bool:=(ο i).any λj=>match AS vw.nm j with
  |none=>false
  |some d=>decide<|d.1=s
structure NmW(H3:Hp)(vw:Vw)(l1 l2 sn:Addr)(i:Nat)(lo tw:t5)(j:Nat)(H':Hp):Prop where
 s:SameBut (λy=>y=l1\/y=l2\/y=sn) H3 H'
 f1:FindsL H' l1 lo
 f2:FindsL H' l2 tw
 d:∃ kvs:tZ,H' sn=some (.dK kvs)/\(∀ s:Str,(BF kvs<|.inr s).isSome=OF vw j s)/\kvs.length<=j
def NmW.two{H3:Hp}{vw:Vw}{l1 l2 sn:Addr}{i j:Nat}{lo tw lo' tw':t5}{H' H2:Hp}(h:NmW H3 vw l1 l2 sn i lo tw j H')(n1:sn≠l1)(n2:sn≠l2)(W:TwoL H' l1 l2 lo' tw' H2):NmW H3 vw l1 l2 sn i lo' tw' j H2:=by
 obtain⟨kvs,e,r⟩:=h.d;exact{h.s.trans<|W.1.wide λy z=>z.elim .inl λz=>.inr<|.inl z,W.2.1,W.2.2.1,{_,W.1 _ _ e λz=>z.elim n1 n2,r}}
def NmW.same{H3:Hp}{vw:Vw}{l1 l2 sn:Addr}{i j:Nat}{lo tw:t5}{H' H2:Hp}(h:NmW H3 vw l1 l2 sn i lo tw j H')(s:Same H' H2):NmW H3 vw l1 l2 sn i lo tw j H2:=by
 obtain⟨kvs,e,r⟩:=h.d;exact{h.s.trans s.sb,h.f1.same s,h.f2.same s,{_,s _ _ e,r}}
example:(zvu,Y7,qP,6):=by
  apply u3;rintro x A vw ⟨rfl,T,I,q⟩
  have bn:=I.ok.bn;refine{by decide,λl1 DN=>{by decide,λl2 D3 sn hsn=>?_}}
  have n12:=BE AE D3
  have s2:Same H (upd _ l2<|.lst []):=(AL DN).trans (AL D3)
  have k1:FindsL (upd (upd H l1<|.lst []) l2 (.lst [])) l1 []:={[],by rw[AG n12,AE];rfl,.nil}
  have k2:FindsL (upd (upd H l1<|.lst []) l2 (.lst [])) l2 []:={[],AE,.nil}
  have f2:=(AL DN).free D3;revert hsn s2 k1 k2;generalize upd _ l2 _=H2;intro hsn s2 k1 k2
  have fsn:=s2.free hsn;obtain⟨H3,zz0,s3,e3⟩:=D0  hsn;rw[zz0]
  have FY:=s2.trans s3
  have I3:=I.same FY;obtain⟨dx3,ob3⟩:=I3.ob;obtain⟨us,en,P⟩:=I3.n
  have hl:=P.length;refine y3 {ob3,T.cl,T.n1,_,zvb,{_,SqL.of en},?_}
  have m1:sn≠l1:=λz=>by
    obtain⟨ps,e,_⟩:=k1;rw[<-z,hsn]at e;cases e
  have m2:sn≠l2:=λz=>by
    obtain⟨ps,e,_⟩:=k2;rw[<-z,hsn]at e;cases e
  have vi:∀ {H':Hp} {i j:Nat} {lo tw:List _},NmW H3 vw l1 l2 sn i lo tw j H'->ViewAt a H' x A vw:=λh=>I.same λy o e=>h.s _ _ (FY _ _ e) λz=>by
    rcases z with z|z|z
    rw[z,DN]at e;cases e;rw[z,f2]at e;cases e;rw[z,fsn]at e;cases e
  have nA:A.n≠l1/\A.n≠l2/\A.n≠sn:=by
    obtain⟨us',e0,_⟩:=I.n;exact{λz=>(by rw[z,DN]at e0;cases e0),λz=>(by rw[z,f2]at e0;cases e0),λz=>(by rw[z,fsn]at e0;cases e0)}
  let LO:=λi=>CZ i (GK vw) (λk=>[.str "lost",.int k])
  let TW:=λi=>CZ i (G1 vw) (λk=>[.str "twice",.int k])
  refine X8  (λi σ H'=>NmW H3 vw l1 l2 sn i (LO i) (TW i) i H'/\∃ y4 y5,σ=[some (.ref x),some<|.ref l1,some<|.ref l2,some<|.ref sn,y4,y5]) {{SameBut.refl _,k1.same s3,k2.same s3,[],e3,λ_=>rfl,υ _},x2 _ _ rfl} (λi σ H' _ ⟨W,_⟩=>SqL.of<|W.s _ _ en λz=>z.elim nA.1 λz=>z.elim nA.2.1 nA.2.2) (λi v σ H' t hx hzz ht=>?_) (λσ H' hzz=>?_);obtain⟨W0,y4,y5,eσ⟩:=hzz;subst eσ
  have hi:=(ε.mp hx).1;push_cast[];refine{_,SqT.of AE,rfl,?_}
  have W:=W0.same<|AL (o:=.tup [.int (i:Int),v]) ht;revert W;generalize upd H' t (.tup [.int (i:Int),v])=H4;intro W
  have I4:=vi W;obtain⟨dx4,ob4⟩:=I4.ob;refine u2 ?_<|I4.n.at (k:=i) (hl ▸ hi);rintro us' v' ⟨e1',_,ev,hr⟩;rw[W.s _ _ en (λz=>z.elim nA.1 λz=>z.elim nA.2.1 nA.2.2)]at e1';cases e1';rw[hx]at ev;have bi:i<=100:=by lia
  obtain rfl:=ι ev
  have hLO:LO (i+1)=if GK vw i=true then LO i++[[.str "lost",.int i]]else LO i:=Ay
  have hTW:TW (i+1)=if G1 vw i=true then TW i++[[.str "twice",.int i]]else TW i:=Ay
  have n1:(LO i).length<=100:=D2 bi
  have n2:(TW i).length<=100:=D2 bi
  have sS:∀ s:Str,OF vw (i+1) s=(OF vw i s||match AS vw.nm i with
    |none=>false
    |some d=>decide<|d.1=s):=λs=>by
    unfold OF;rw[bz,List.any_append];simp
  push_cast[↓qO_];cases hc:AS vw.nm i with
  |none =>
    rw[hc]at hr;refine CI (λz=>z hr) ?_
    have z1:GK vw i=false:=by unfold GK;rw[hc]
    have z2:G1 vw i=false:=by unfold G1;rw[hc]
    rw[hLO,hTW,z1,z2,if_neg bc,if_neg bc];obtain⟨kvs,ek,hv,OO⟩:=W.d;exact{W.s,W.f1,W.f2,kvs,ek,λs=>by rw[hv,sS,hc,oq],da OO}
  | some c =>
    rw[hc]at hr;obtain⟨p,rfl,hp⟩:=hr;refine CM (by simp) ?_
    have hm:some c∈vw.nm:=by
      unfold AS at hc;cases e2:vw.nm[i]? with
      |none=>rw[e2]at hc;cases hc
      |some y =>
        rw[e2]at hc
        have hc:y=some c:=hc;exact hc ▸ η e2
    have hcr:=(I.ok.n1 c hm).1
    have z1:GK vw i=(AS vw.rc c.2).isNone:=by unfold GK;rw[hc]
    have z2:G1 vw i=OF vw i c.1:=by unfold G1 OF;simp only[hc]<;>rfl
    have tail:∀ {H5:Hp},NmW H3 vw l1 l2 sn i (LO<|i+1) (TW i) i H5->H5 p=some (.tup [.str c.1,.int c.2])->AH (ZQ K a (λ_=>E) (λ_=>E)) (VF K a (λ_=>E) (λ_=>E)) { nx:=λσ H'=>NmW H3 vw l1 l2 sn (i+1) (LO<|i+1) (TW<|i+1) (i+1) H'/\∃ y4 y5,σ=[some (V.ref x),some<|V.ref l1,some<|V.ref l2,some<|V.ref sn,y4,y5],rt:=Q,bk:=ZR K a (λx=>E) (λx=>E) (AV Q),ct:=λσ H'=>NmW H3 vw l1 l2 sn (i+1) (LO<|i+1) (TW<|i+1) (i+1) H'/\∃ y4 y5,σ=[some (V.ref x),some<|V.ref l1,some<|V.ref l2,some<|V.ref sn,y4,y5] } [some (V.ref x),some<|V.ref l1,some<|V.ref l2,some<|V.ref sn,some<|V.int ↑i,some<|V.ref p] H5:=λ{H5} W5 hp5=>by
      have last:∀ {H6:Hp},NmW H3 vw l1 l2 sn i (LO<|i+1) (TW<|i+1) i H6->H6 p=some (.tup [.str c.1,.int c.2])->VF K a (λ_=>E) (λ_=>E) { nx:=λσ H'=>NmW H3 vw l1 l2 sn (i+1) (LO<|i+1) (TW<|i+1) (i+1) H'/\∃ y4 y5,σ=[some (V.ref x),some<|V.ref l1,some<|V.ref l2,some<|V.ref sn,y4,y5],rt:=Q,bk:=ZR K a (λx=>E) (λx=>E) (AV Q),ct:=λσ H'=>NmW H3 vw l1 l2 sn (i+1) (LO<|i+1) (TW<|i+1) (i+1) H'/\∃ y4 y5,σ=[some (V.ref x),some<|V.ref l1,some<|V.ref l2,some<|V.ref sn,y4,y5] } [some (V.ref x),some<|V.ref l1,some<|V.ref l2,some<|V.ref sn,some<|V.int ↑i,some<|V.ref p] H6:=λ{H6} W6 hp6=>by
        obtain⟨kvs,ek,hv,OO⟩:=W6.d;push_cast[↓VF_];refine BB hp6 (n:=0) rfl rfl {_,pS ek (by lia),?_}
        have s7:SameBut (· =sn) H6 (upd H6 sn<|.dK<|B0 kvs (.inr c.1) (.bl true)):=λy o e ny=>by rw[AG ny];exact e
        obtain⟨q1,g1,P1⟩:=W6.f1;obtain⟨q2,g2,P2⟩:=W6.f2
        have kt:∀ {y:Addr} {g:Tr},H6 y=some (.tup g)->upd H6 sn (.dK<|B0 kvs (.inr c.1) (.bl true)) y=some (.tup g):=λe=>s7 _ _ e (BD e ek (by intro z;cases z));refine{W6.s.trans<|s7.wide λy z=>.inr<|.inr z,{q1,s7 _ _ g1 m1.symm,Paired.mapP P1 λq g e=>kt e},{q2,s7 _ _ g2 m2.symm,Paired.mapP P2 λq g e=>kt e},_,AE,λs=>?_,?_}
        · rw[K0,sS,hc,<-hv]
          by_cases z:s=c.1
          ·subst z;simp
          · rw[if_neg (by simpa using z)]
            have:decide (c.1=s)=false:=by simpa using λu=>z<|Eq.symm u
            simp only[this,oq]
        · have:=K1 kvs (.inr c.1) (.bl true)
          lia
      obtain⟨kvs,ek,hv,OO⟩:=W5.d;push_cast[↓ZQ_];refine BB hp5 (n:=0) rfl rfl {_,dS ek,?_};rw[hv,<-z2];cases hz:G1 vw i with
      | true =>
        refine CM rfl ?_;push_cast[↓qN_];obtain⟨ps2,ep2,_⟩:=W5.f2;refine{.inl {rfl,_,SqL.of ep2},by decide,λt2 ht2=>?_}
        have W5':=W5.same<|AL (o:=.tup [V.str (bw "twice"),V.int ↑i]) ht2;refine VQ (H:=upd H5 t2<|.tup [V.str (bw "twice"),V.int ↑i]) (l2:=l1) (f2:=LO<|i+1) {SameBut.refl _,W5'.f2,W5'.f1,n12.symm} (by lia) AE λH6 W6=>?_
        have W7:=W5'.two m1 m2 W6.flip;rw[show TW i++[[V.str (bw "twice"),V.int ↑i]]=TW (i+1) by rw[hTW,hz,if_pos rfl]]at W7;exact last W7 (W6.1 _ _ (AL ht2 _ _ hp5) λz=>by
          rcases z with z|z
          · obtain⟨ps,e,_⟩:=W5.f2
            rw[<-z,hp5]at e;cases e
          · obtain⟨ps,e,_⟩:=W5.f1
            rw[<-z,hp5]at e;cases e)
      |false =>
        refine CI bc ?_;rw[show TW i=TW (i+1) by rw[hTW,hz,if_neg bc]]at W5;exact last W5 hp5
    refine u2 ?_<|I4.r.at hcr;rintro us2 v2 ⟨e2,_,ev2,R7⟩;push_cast[↓qM_];refine y3 {ob4,T.cl,T.n2,_,VO,BB hp (n:=1) rfl rfl (CW (SqL.of e2) (n:=c.2) rfl ev2 ?_)};push_cast[]
    have WI:=bK R7;by_cases hz:v2=.non
    · refine CM hz ?_
      have hz':GK vw i=true:=by rw[z1,<-WI];simpa using hz
      push_cast[↓qK_];obtain⟨ps2,ep2,_⟩:=W.f1;refine{.inl {rfl,_,SqL.of ep2},by decide,λt2 ht2=>?_}
      have W5':=W.same<|AL (o:=.tup [V.str (bw "lost"),V.int ↑i]) ht2;refine VQ (H:=upd H4 t2<|.tup [V.str (bw "lost"),V.int ↑i]) (l2:=l2) (f2:=TW i) {SameBut.refl _,W5'.f1,W5'.f2,n12} (by lia) AE λH6 W6=>?_
      have W7:=W5'.two m1 m2 W6;rw[show LO i++[[V.str (bw "lost"),V.int ↑i]]=LO (i+1) by rw[hLO,hz',if_pos rfl]]at W7;exact tail W7 (W6.1 _ _ (AL ht2 _ _ hp) λz=>by
          rcases z with z|z
          · obtain⟨ps,e,_⟩:=W.f1
            rw[<-z,hp]at e;cases e
          · obtain⟨ps,e,_⟩:=W.f2
            rw[<-z,hp]at e;cases e)
    · refine CI hz ?_
      have hz':GK vw i=false:=by rw[z1,<-WI];simpa using hz
      rw[show LO i=LO (i+1) by rw[hLO,hz',if_neg bc]]at W;exact tail W hp
  obtain⟨W,y4,y5,eσ⟩:=hzz;subst eσ;rw[hl]at W;exact JR W.f1 W.f2 (by have:=D2 (p:=GK vw) (f:=λk=>[.str "lost",.int k]) bn;have:=D2 (p:=G1 vw) (f:=λk=>[.str "twice",.int k]) bn;show(CZ _ _ _).length+(CZ _ _ _).length<=_;lia) (q.of λy o e=>W.s _ _ (FY _ _ e) λz=>by
    rcases z with z|z|z
    ·rw[z,DN]at e;cases e
    ·rw[z,f2]at e;cases e
    ·rw[z,fsn]at e;cases e)
def zvv{n b:Nat}(h:b<n):HX n (b:Int)=some b:=by
 unfold HX;rw[if_pos (i0),if_pos<|d_.mpr h,az]
def KR{α β :Type}{F: α -> β ->Prop}:∀ {l:List α} {m:List β} {i:Nat} {x: α},Paired F l m->l[i]? =some x->∃ y,m[i]? =some y/\F x y
 |_,_,_,_,.nil,h=>by simp at h
 |_,_,0,_,.cons h _,e=>by obtain rfl:=ι e;exact⟨_,rfl,h⟩
 |_,_,i+1,_,.cons _ r,e=>by
  obtain⟨y,h1,h2⟩:=KR  r (e);exact⟨y,h1,h2⟩
example:(zvw,LT,vL,2):=by
 apply u8;rintro gp cl pl w rows m ts ps ⟨rfl,TP,P,CB,Pt,hin,hn,q⟩
 have hl:=Pt.length;refine .inl {{_,SqL.of CB},oR  (CJ _ (by rw[ζ];exact oA (ψ (bt hl) hn) rfl)) (λi σ' ys H'=>Same H H'/\ys=(ps.take i).map (λij=>LS rows ij.1 ij.2)/\∃ y0 y1,σ'=[y0,y1,some _]) {Same.refl _,rfl,x2 _ _ rfl} (λi σ' ys H' ⟨s,e,_⟩=>{SqL.of<|s _ _ CB,by rw[e,ζ,de];lia}) (λi x σ' ys H' hi hx hzz=>?_) (λσ' ys H' hzz p hp=>?_)};obtain⟨s,e,y0,y1,eσ⟩:=hzz;subst eσ;rw[ζ]at hi;rw[τ,au]at hx;obtain⟨t,ht,rfl⟩:=hx;obtain⟨ij,eij,et⟩:=KR Pt ht
 have hb:=hin ij<|η eij
 have P':=P.same s;obtain⟨dp,NG⟩:=P'.ob;push_cast[];refine{_,SqT.of<|s _ _ et,rfl,y2 {rfl,y2 {rfl,rfl,({λy H4=>Same H H4/\y=LS rows ij.1 ij.2,λy H4 ⟨s4,ey⟩=>cnx (by rw[ζ];exact hi) {s4,?_},y2 {NG,RL _ _ _,x6 gp cl w _ m _ {rfl,TP,P',λb' row eb er l1 DN=>?_,λz=>by lia}}})}}};rw[ey,e,JQ eij,χ]
 rfl;obtain rfl:ij.1=b':=cw eb
 have ej:=θ   (aa hb.2<|bt (P.wd _<|η er).symm);refine CW (SqL.of AE)  rfl ej {HK s DN,?_};unfold LS;rw[er]
 show _=(row[ij.2]?).getD _;rw[ej];rfl;obtain⟨s,e,v⟩:=hzz;rw[ζ,hl,ce]at e;subst e;exact q p _ (s.free hp) (HK s hp) AE
example:(zvx,RA,ZU,4):=by
 apply u3;rintro many nl ks ⟨rfl,hnl,hks,hm,hkn,q⟩;push_cast[ZU,↓qT_]
 have e0:(ο many).map (λx=>V.int 0)=AX ((ο many).map λk=>([]).count k):=by
  unfold AX;rw[ff]
  rfl
 refine{i0,by lia,Yw (CJ _<|oA hm rfl) (λx=>V.int 0) (λj hj Q' q'=>q') λl hl=>?_};rw[e0]
 have s1:=AL (o:=.lst<|AX<|(ο many).map λk=>([]).count k) hl
 have e1:upd H l _ l=some (.lst<|AX<|(ο many).map λk=>([]).count k):=AE;revert s1 e1;refine λs1 e1=>.inl {{_,SqL.of<|s1 _ _ hnl},IC  (λi σ H'=>(Same H H'/\H' l=some (.lst<|AX<|(ο _).map λk=>(ks.take i).count k))/\∃ y,σ=[some _,some _,some _,y]) {⟨s1,e1⟩,_,rfl} (by rintro i σ H' x ⟨⟨s,x⟩,x⟩;exact SqL.of<|s _ _ hnl) (λi v σ H' hx hzz=>?_) (λσ H' hzz=>?_)};obtain⟨⟨s,e⟩,y,eσ⟩:=hzz;subst eσ;unfold AX at hx;rw[τ,au]at hx;obtain⟨k,hk',rfl⟩:=hx
 have hk:=hks k<|η hk';push_cast[↓qU_];refine x2 _ k {rfl,SqL.of e,_,VN<|OE hk,?_};push_cast[];refine x4 l _ _ k {rfl,rfl,e,zvv (by rw[HL,M7];exact hk),λy o e=>by rw[AG (BE e hl)];exact s _ _ e,?_};rw[AE]
 congr 2
 unfold AX;refine yw λj=>?_;by_cases hj:j<many;rw[τ,OE hj,JQ hk',yz];by_cases z:k=j;subst z;rw[gz (by simpa using hj)];simp;rw[ir z,τ,OE hj]
 have:On j [k]=0:=by simp[z]
 rw[this]
 rfl;rw[bq (by simp;exact cu hj),bq (by simp;exact cu hj)];obtain⟨⟨s,e⟩,y,eσ⟩:=hzz;subst eσ;rw[HL,ce]at e;exact q l _ hl s e
example:(zvy,U0,qX,3):=by
 apply u2;rintro rl cs ⟨rfl,⟨us,FZ,P⟩,hcs,hp,q⟩
 have hl:=P.length;refine{by decide,λl hl0=>?_}
 have s1:=AL (o:=.lst []) hl0
 have e1:upd H l _ l=some (.lst<|AX<|EZ []):=AE;revert s1 e1
 have pl:∀ i,(EZ<|cs.take i).length<=i * 20:=λi=>by
  induction i with
  |zero=>exact υ _
  | succ i ih =>
   cases e:cs[i]? with
   |none =>
    rw[jd (da<|yh.mp e)];rw[jd ((yh.mp e))]at ih
    lia
   | some c =>
    rw[JQ e];unfold EZ at ih ⊢;rw[List.flatMap_append,ae]
    have:(List.flatMap JL [c]).length<=20:=by
     cases c with
     |none=>simp[JL]
     |some c =>
      simp[JL];exact hp c<|η e
    lia
 refine λs1 e1=>.inl {{_,SqL.of<|s1 _ _ FZ},IC  (λi σ H'=>(Same H H'/\H' l=some (.lst<|AX<|EZ<|cs.take i))/\∃ y,σ=[some _,some _,y]) {⟨s1,e1⟩,_,rfl} (by rintro i σ H' x ⟨⟨s,x⟩,x⟩;exact SqL.of<|s _ _ FZ) (λi v σ H' hx hzz=>?_) (λσ H' hzz=>?_)};obtain⟨⟨s,e⟩,y,eσ⟩:=hzz;subst eσ;obtain⟨c,ec,hr⟩:=KR P hx
 have pli:=pl i
 have ep:EZ (cs.take<|i+1)=EZ (cs.take i)++JL c:=by
  rw[JQ ec];unfold EZ;simp
 have hi:=(ε.mp hx).1;rw[ep];push_cast[↓qW_];cases c with
 |none =>
  refine CI (λz=>z hr) ?_;rw[show JL _=[]from rfl,kx];exact⟨s,e⟩
 |some c =>
  revert hr;apply u2;rintro p t ⟨rfl,h1,h2⟩
  have hc:=hp c<|η ec;push_cast[↓qV_];refine{.inl {rfl,_,SqL.of e},BB (s _ _ h1)  rfl rfl (x4 l t _ _ {rfl,rfl,e,SqT.of<|s _ _ h2,CJ _ (by rw[HL,HL];lia),{λy o e=>by rw[AG (BE e hl0)];exact s _ _ e,?_}})};rw[AE];unfold AX;rw[χ]
  rfl
 obtain⟨⟨s,e⟩,y,eσ⟩:=hzz;subst eσ;rw[hl,ce]at e;exact q l _ hl0 s e
def HN{α :Type}{l l':List α}{a k:Nat}(h:l.length=a):(l++l')[a+k]? =l'[k]? :=by
 subst h;rw[ci (Ki _ _),Nat.add_sub_cancel_left]
def VR:∀ {rows:t5} {b j:Nat},(∀ r∈rows,r.length=w)->b<rows.length->j<w->rows.flatten[b*w+j]? =(rows[b]?).bind (·[j]?)
 | [],b,j,_,hb,_=>by simp at hb
 |r::rs,0,j,h,_,hj=>by
  rw[xk,vg,i_,ba<|aa hj<|bt (h r ai).symm]
  rfl
 |r::rs,b+1,j,h,hb,hj=>by
  rw[va,vb<|b*w,fh,i_,HN<|h r ai,VR (λr hr=>h r<|ω _ hr) (by simpa using hb) hj]
  rfl
def Bc(h:∀ r∈rows,r.length=w)(hw:1<=w)(hk:k<n*w)(hb:b+n<=rows.length):(rows.flatten[b*w+k]?)=some (LS rows (b+k/w) (k%w))/\b+k/w<rows.length/\k%w<w:=by
 have h2:k%w<w:=uo _<|hw
 have h1:=li (by rw[di];exact hk)
 have e:b*w+k=(b+k/w)*w+k%w:=by
  rw[dq,fh,Le]
 refine{?_,by lia,h2};rw[e,VR h (by lia) h2];unfold LS
 have hb':b+k/w<rows.length:=by lia
 rw[θ _]
 show(rows[b+k/w])[k%w]? =some (((rows[b+k/w])[k%w]?).getD _);rw[θ (aa h2<|bt (h _<|r_ _).symm)]
 rfl
def zvz(h:∀ r∈rows,r.length=w)(hw:1<=w)(hb:b+n<=rows.length)(e:rows.flatten=pre++vs++post)(hp:pre.length=b*w)(hv:vs.length=n*w):(ο<|n*w).map (λk=>LS rows (b+k/w) (k%w))=vs:=by
 refine yw λk=>?_;by_cases hk:k<n*w
 ·rw[τ,xa hk]
  show some _=_;rw[<-((Bc h hw hk hb).1),e,gg,HN hp,ba<|hv ▸ hk]
 ·rw[bq (by simp;exact cu hk),bq<|hv ▸ cu hk]
def zv0(hn:N<=1000)
  (he:∀ k,k<N->∀ H' (Q':VK),Same H H'->(∀ t,H' t=none->Q' (.ref t) (upd H' t<|.tup [.int ((b+k/w:Nat):Int),.int ((k%w:Nat):Int)]))->te (some (.int (k:Int))::C1 AY σ) H' Q')
  (hd:∀ (pl:Addr) (ts:Uu) (H':Hp),H pl=none->Same H H'->H' pl=some (.lst<|ts.map V.ref)->Paired (λt (ij:Nat × Nat)=>H' t=some (.tup [.int ij.1,.int ij.2])) ts ((ο N).map λk=>(b+k/w,k%w))->Q (.ref pl) H'):DU (FS 0 N) (AF 0) CG te 1 AY σ H Q:=by
 refine LA (CJ _<|oA hn rfl) (λi ys H'=>Same H H'/\∃ ts:List _,ys=ts.map V.ref/\Paired (λt (ij:Nat × Nat)=>H' t=some (.tup [.int ij.1,.int ij.2])) ts ((ο i).map λk=>(b+k/w,k%w))) {Same.refl _,[],rfl,.nil} (λi ys H' hi z hzz=>?_) (λys H' z hzz p hp=>?_);obtain⟨s,ts,e,P⟩:=hzz;rw[vh];refine he i hi H' _ s λt ht=>{HK s ht,ts++[t],by rw[e,χ];rfl,?_}
 rw[bz,χ];exact Paired.snoc (Paired.mapP P λt ij e=>AL ht _ _ e) AE;obtain⟨s,ts,rfl,P⟩:=hzz;exact hd p ts _ (s.free hp) (HK s hp) AE (Paired.mapP P λt ij e=>AL hp _ _ e)
def RR{n b w m:Nat}{gp cl:Addr}{rows:t5}{te:TE}{AY:ad}{σ:St}{QV:VK}{pre us post:Tr}(TP:DH K a)(P:PlankAt a H gp cl w rows m)(hw:1<=w)(hnw:n*w<=1000)(hb:b+n<=rows.length)(e:rows.flatten=pre++us++post)(hp:pre.length=b*w)(hv:us.length=n*w)
  (he:∀ k,k<n*w->∀ H' (Q':VK),Same H H'->(∀ t,H' t=none->Q' (.ref t) (upd H' t<|.tup [.int ((b+k/w:Nat):Int),.int ((k%w:Nat):Int)]))->te (some (.int (k:Int))::C1 AY σ) H' Q')
  (q:newL us H QV):DU (FS 0<|n*w) (AF 0) CG te 1 AY σ H (λv H2=>LT K a [.ref gp,v] H2 QV E):=by
 refine zv0 hnw he λpl ts H' CB s epl Pt=>(x8 gp cl pl w _ m ts _ {rfl,TP,P.same s,epl,Pt,λij hij=>?_,by rw[ζ,dw];exact hnw,?_})
 obtain⟨k,hk,rfl⟩:=af.mp hij;exact(Bc P.wd hw (ak.mp hk) hb).2;rw[ff,show((ο _).map ((λij:Nat × Nat=>LS _ ij.1 ij.2) ∘ λk=>(b+k/w,k%w)))=us from(zvz P.wd hw hb e hp hv)];exact q.of s
section
variable{u1 u2 u3 u4 u5 u6:V}{CU:tT}
def zv1:(("name_values",u1)::CU:tT).lookup ("name_values":Str)=some u1:=rfl
def Bd:(("name_values",u1)::("record_values",u2)::CU:tT).lookup ("record_values":Str)=some u2:=by
 simp[aw,A8 (a:="record_values") (b:="name_values") (by decide)]
def zv2:(("name_values",u1)::("record_values",u2)::("piece_values",u3)::("record_marks",u4)::("piece_marks",u5)::("leads",u6)::CU:tT).lookup ("leads":Str)=some u6:=by
 simp[aw,A8 (a:="leads") (b:="name_values") (by decide),A8 (a:="leads") (b:="record_values") (by decide),A8 (a:="leads") (b:="piece_values") (by decide),A8 (a:="leads") (b:="record_marks") (by decide),A8 (a:="leads") (b:="piece_marks") (by decide)]
end
def OG(ks:Xu)(as:Uu):tT:=List.zipWith (λk l=>(k,V.ref l)) ks as
def Bg:∀ {ks:Xu} {as:Uu},ks.length=as.length->ks.all (λg=> !DK g f)=true->BP f (.ref l) (OG ks as)=OG (ks++[f]) (as++[l])
 | [],[],_,_=>rfl
 |k::ks,b::as,h,e=>by
  simp only[wj,cb,vd]at e
  show BP f _ ((k,V.ref b)::OG ks as)=_;rw[zgm e.1,Bg (Qn h) e.2]
  rfl
structure VI(C:Addr)(H H':Hp)(x dx:Addr)(ks:Xu)(as:Uu)(ls:List (Addr × HO)):Prop where
 ob:H' x=some (.ins C dx<|OG ks as)
 s:SameBut (· =x) H H'
 al:∀ p∈ls,H' p.1=some p.2/\p.1≠x
section
variable{C x dx l:Addr}{ks:Xu}{as:Uu}{ls:List (Addr × HO)}{H1 H2:Hp}{o:HO}
def VI.same(I:VI C H H1 x dx ks as ls)(s:Same H1 H2):VI C H H2 x dx ks as ls:={s _ _ I.ob,I.s.trans s.sb,λp hp=>{s _ _ (I.al p hp).1,(I.al p hp).2}}
def VI.add(I:VI C H H1 x dx ks as ls)(e:H1 l=some o)(no:∀ D d f,o≠.ins D d f:=by intro y y y z;cases z):VI C H H1 x dx ks as ((l,o)::ls):=⟨I.ob,I.s,λp hp=>by
 rcases ax.mp hp with rfl|hp
 exact{e,λz=>by rw[show l=x from z,I.ob]at e;exact no _ _ _ (ι e).symm};exact I.al p hp⟩
def VI.new(I:VI C H H1 x dx ks as ls)(h:H1 l=none)(no:∀ D d f,o≠.ins D d f:=by intro y y y z;cases z):VI C H (upd H1 l o) x dx ks as ((l,o)::ls):=(I.same<|AL h).add AE no
def VI.put{f:Str}{P:Hp->Prop}(I:VI C H H1 x dx ks as ls)(T:Cls K C)(hn:NoAttr K C f)(q:∀ H3,VI C H H3 x dx (ks++[f]) (as++[l]) ls->P H3)(hl:ks.length=as.length:=by rfl)(hf:ks.all (λg=> !DK g f)=true:=by decide +kernel)(h9:ks.length<1000:=by decide) :
  ∃ D d gs,H1 x=some (.ins D d gs)/\Cls K D/\NoAttr K D f/\gs.length<1000/\P (upd H1 x<|.ins D d<|BP f (.ref l) gs) :=
 {_,_,_,I.ob,T,hn,cr (by unfold OG;rw[List.length_zipWith];exact Nat.min_le_left _ _) h9,q _ {by rw[AE,Bg hl hf],I.s.trans λy o e ny=>by rw[AG ny];exact e,λp hp=>{by rw[AG (I.al p hp).2];exact(I.al p hp).1,(I.al p hp).2}}}
end
def RS{b k w:Nat}{z:Int}{Q:VK}(hz:z=b)(q:∀ t,H t=none->Q (.ref t) (upd H t<|.tup [.int ((b+k/w:Nat):Int),.int ((k%w:Nat):Int)])):GZ (z+(k:Int)/(w:Int)) ((k:Int)%(w:Int)) Q H:=by
 have e1:z+k/w=((b+k/w:Nat)):=by rw[hz];simp
 rw[e1];exact q
def PlankAt.off{H1:Hp}{gp cl x dx C:Addr}{w m:Nat}{rows:t5}{fs:tT}(P:PlankAt a H gp cl w rows m)(hx:H x=some (.ins C dx fs))(n1:gp≠x)(s:SameBut (· =x) H H1):PlankAt a H1 gp cl w rows m:=by
 obtain⟨⟨dp,e1⟩,⟨ts,e2,e3⟩,r1,r2,r3⟩:=P;exact{{dp,s _ _ e1 n1},{ts,s _ _ e2 (BD e2 hx (by intro z;cases z)),Paired.mapP e3 λt r e=>s _ _ e (BD e hx (by intro z;cases z))},r1,r2,r3}
example:(zv3,RC,wO,6):=by
 apply KS;rintro x dx ly gp cl n r c w rows m vw ⟨rfl,T,TL,TP,hx,L,P,FZ,⟨⟨v1,v2,v3,v4,v5,ef,P1,P2,P3,P4,P5⟩,ln,lr,lp,ok⟩,q⟩;obtain⟨dl,IU⟩:=L.ob;obtain⟨u,b1,b2,b3,b4,b5⟩:=id L
 have q1:=P1.length
 have q3:=P3.length
 have q2:=P2.length
 have q4:=P4.length
 have ok1:=ok.l1
 have q5:=P5.length
 have ok2:=ok.l2
 have br:=ok.br
 have bp:=ok.bp
 have bn:=ok.bn;refine y2 {IU,B1 (by decide +kernel),x5 ly n r c w {rfl,TL,L,λt ht=>?_}};obtain⟨H1,zz0,s1,et⟩:=D0 (o:=.tup [.int ((n:Int)*w),.int<|(r:Int)*w,.int<|(c:Int)*w]) ht;rw[zz0];refine BB et (n:=1) rfl rfl (BB et (n:=2) rfl rfl ?_);push_cast[↓wG_];refine BB et (n:=0) rfl rfl ?_
 have cn:∀ k:Nat,((k:Int)*w)=((k*w:Nat):Int):=λk=>by simp
 have ngx:gp≠x:=λz=>by
  obtain⟨dp,e⟩:=P.ob;rw[z,hx]at e
  have e:=(HO.ins.inj<|ι e).2.2;simp[pf]at e
 have nlx:ly≠x:=λz=>by
  rw[z,hx]at IU
  have IU:=(HO.ins.inj<|ι IU).2.2;simp[lf]at IU
 have L':∀ {H':Hp},SameBut (· =x) H H'->LayAt a H' ly n r c w:=λs=>L.sb s nlx
 have V1:VI (a "View") H H1 x dx [] [] []:={s1 _ _ hx,s1.sb,λp hp=>by cases hp}
 have P':∀ {H':Hp},SameBut (· =x) H H'->PlankAt a H' gp cl w rows m:=λs=>P.off hx ngx s;rw[cn n,cn r,cn c];refine{i0,by lia,?_};refine RR (n:=n) (b:=0) (us:=v1) (pre:=[]) (post:=v2++v3++v4++v5) TP (P' V1.s) b4 (oA (ψ (bt ln.symm) bn) rfl) (by lia) (by rw[ef];simp) (by simp) (ln ▸ q1) (λk hk H' Q' s q'=>?_) λan H2 han s2 ean=>((V1.same s2).add ean).put T.cl T.n1 λH3 V2=>?_
 have Lk:=L'<|V1.s.trans s.sb;obtain⟨dl',hly'⟩:=Lk.ob;exact y2 {hly',B1 (by decide +kernel),x6 ly n r c w k {rfl,TL,Lk,RS (by simp) q'}};push_cast[↓wH_];refine{i0,by lia,RR (n:=r) (b:=n) (us:=v2) (pre:=v1) (post:=v3++v4++v5) TP (P' V2.s) b4 (by lia) (by lia) (by simp[ef]) (by first|(simp only[ae,dq];lia)|exact ln ▸ q1) (lr ▸ q2) (λk hk H' Q' s q'=>?_) λar H4 h4 s4 e4=>((V2.same s4).add e4).put T.cl T.n2 λH5 V3=>?_}
 have Lk:=L'<|V2.s.trans s.sb;obtain⟨dl',hly'⟩:=Lk.ob;exact y2 {hly',B1 (by decide +kernel),x6 ly n r c w k {rfl,TL,Lk,RS (by simp) q'}};push_cast[↓wI_];refine{i0,by lia,RR (n:=c) (b:=n+r) (us:=v3) (pre:=v1++v2) (post:=v4++v5) TP (P' V3.s) b4 (oA (ψ (bt lp.symm) bp) rfl) (by lia) (by simp[ef]) (by simp only[ae,dq,q1,q2,q3,q4,ok.l1,ln,lr,lp]) (lp ▸ q3) (λk hk H' Q' s q'=>?_) λap H4 h4 s4 e4=>((V3.same s4).add e4).put T.cl T.n3 λH5 V4=>?_}
 have Lk:=L'<|V3.s.trans s.sb;obtain⟨dl',hly'⟩:=Lk.ob;exact y2 {hly',B1 (by decide +kernel),x6 ly n r c w k {rfl,TL,Lk,RS (by simp) q'}};push_cast[↓wJ_];refine{i0,by lia,RR (n:=r) (b:=n+r+c) (us:=v4) (pre:=v1++v2++v3) (post:=v5) TP (P' V4.s) b4 (by lia) (by lia) (by simp[ef]) (by simp only[ae,dq,q1,q2,q3,q4,ok.l1,ln,lr,lp]) (by lia) (λk hk H' Q' s q'=>?_) λam H4 h4 s4 e4=>((V4.same s4).add e4).put T.cl T.n4 λH5 V5=>?_}
 have Lk:=L'<|V4.s.trans s.sb;obtain⟨dl',hly'⟩:=Lk.ob;exact y2 {hly',B1 (by decide +kernel),x6 ly n r c w k {rfl,TL,Lk,RS (by simp) q'}};push_cast[↓wK_];refine{i0,by lia,RR (n:=c) (b:=n+r+c+r) (us:=v5) (pre:=v1++v2++v3++v4) (post:=[]) TP (P' V5.s) b4 (oA (ψ (bt lp.symm) bp) rfl) (bt FZ.symm) (by simp[ef]) (by simp only[ae,dq,q1,q2,q3,q4,ok.l1,ln,lr,lp]) (by lia) (λk hk H' Q' s q'=>?_) λaq H4 h4 s4 e4=>((V5.same s4).add e4).put T.cl T.n5 λH5 V6=>?_}
 have Lk:=L'<|V5.s.trans s.sb;obtain⟨dl',hly'⟩:=Lk.ob;exact y2 {hly',B1 (by decide +kernel),x6 ly n r c w k {rfl,TL,Lk,RS (by simp) q'}};push_cast[↓wL_]
 have P1':=Paired.mapP P1 λv c=>NmV.keep λy xs e=>V6.s _ _ e (BD e hx (by intro z;cases z))
 have ean2:=(V6.al (an,.lst v1) (by simp)).1;refine y3 {V6.ob,T.cl,T.n1,_,zv1,.inl {{_,SqL.of ean2},(o7 (xs:=v1) (λi=>(AS vw.nm i).isSome) (CJ _<|oA (ψ (bt q1) bn) rfl) (λi ys H'=>H'=H5/\ys=AX (MW<|vw.nm.take i)) ⟨rfl,rfl⟩ (λi ys H' u ⟨e,e'⟩=>{e ▸ SqL.of ean2,?_}) (λi v ys H' hv hzz QB qb=>?_) (λi v ys H' hv hp hzz=>?_) (λi v ys H' hv hp ⟨e,e'⟩=>{e,?_}) (λys H' hzz p hp=>?_))}};rw[e',HL];exact ψ (ik ..) (by rw[de];lia);obtain⟨c',ec,hr⟩:=KR P1' hv;push_cast[];rw[zve hr];unfold AS at qb;rw[ec]at qb;simpa using qb;obtain⟨rfl,e'⟩:=hzz;obtain⟨c',ec,hr⟩:=KR P1' hv
 have:c'.isSome=true:=by
  unfold AS at hp;rw[ec]at hp;exact hp
 obtain⟨cc,rfl⟩:=fg.mp this;obtain⟨p,rfl,hp'⟩:=hr;refine BB hp' (n:=1) rfl rfl {rfl,?_};rw[e',JQ ec];unfold MW AX;rw[Bn,χ]
 rfl;obtain⟨c',ec,hr⟩:=KR P1' hv
 have:c'=none:=by
  unfold AS at hp;rw[ec]at hp;cases c' with
  |none=>rfl
  |some _=>cases hp
 subst this;rw[e',JQ ec];unfold MW AX;simp;obtain⟨rfl,e'⟩:=hzz;rw[q1,ce]at e';obtain⟨H12,zz0,C4,e12⟩:=D0 (o:=.lst<|AX<|MW vw.nm) hp;subst e';rw[zz0];refine x3 (r*w) p (MW vw.nm) {rfl,e12,λk hk=>?_,by lia,oA (ψ (ik ..) bn) rfl,λal H13 hal s13 eal=>((V6.same<|C4.trans s13).add eal).put T.cl T.n6 λH14 V7=>?_};obtain⟨cc,h1,h2⟩:=jj.mp hk;rw[au]at h2;obtain⟨c2,rfl,rfl⟩:=h2;rw[<-lr];exact(ok.n1 c2 h1).1
 have tkx:∀ {H':Hp} {ks as ls},VI (a "View") H H' x dx ks as ls->D1 H H':=λI y xs e=>I.s _ _ e (BD e hx (by intro z;cases z))
 have rcs:∀ {H':Hp} {ks as ls},VI (a "View") H H' x dx ks as ls->H' ar=some (.lst v2)->LstAt RcV H' ar vw.rc:=λI e=>{v2,e,Paired.mapP P2 λv c=>RcV.keep<|tkx I}
 have n10:∀ cc,some cc∈vw.rc->cc.2.length<=20:=λcc h=>(ok.n2 cc h).2
 have pb:∀ (l:List JK),l.length<=100->(∀ cc,some cc∈l->cc.2.length<=20)->(EZ l).length<=2000:=λl hl h=>by
  have:(EZ l).length<=l.length * 20:=by
   clear hl
   induction l with
   |nil=>simp[EZ]
   |cons y l ih =>
    have ih:=ih λcc hc=>h cc<|ω _ hc;unfold EZ at ih ⊢;rw[List.flatMap_cons,ae,dv]
    have:(JL y).length<=20:=by
     cases y with
     |none=>simp[JL]
     |some c=>exact h c ai
    lia
  lia
 push_cast[↓wM_];refine y3 {V7.ob,T.cl,T.n2,_,Bd,x2 ar vw.rc {rfl,rcs V7 ((V7.al (ar,.lst v2) (by simp)).1),br,n10,λpl H15 CB s15 epl=>x3 (c*w) pl (EZ vw.rc) {rfl,epl,λk hk=>?_,oA (ψ (bt lp.symm) bp) rfl,by have:=pb _ br n10;lia,λag H16 hag s16 eag=>((V7.same<|s15.trans s16).add eag).put T.cl T.n7 λH17 V8=>?_}}}
 ·unfold EZ at hk;obtain⟨cc,h1,h2⟩:=jo.mp hk;cases cc with
  |none=>cases h2
  |some cc =>
   rw[<-lp];exact(ok.n2 cc h1).1 k h2
 have hal':H17 al=some (.lst<|AX<|(ο vw.rc.length).map (led vw)):=by rw[lr];exact(V8.al _<|.tail _<|.head _).1
 have ltm:∀ cc,some cc∈LR vw->some cc∈vw.rc:=λcc h=>by
  unfold LR at h;obtain⟨k,u,hk⟩:=af.mp h;unfold AS at hk;cases e:vw.rc[k]? with
  |none=>rw[e]at hk;cases hk
  |some y =>
   rw[e]at hk
   have hk:y=some cc:=hk;exact hk ▸ η e
 have ltl:(LR vw).length<=100:=by
  unfold LR;rw[ζ];exact ψ (fm ..) (by rw[dw];exact br)
 push_cast[↓wN_];refine y2 {V8.ob,?_,x4 x ar al vw {rfl,T,y2 ⟨V8.ob,Bd⟩,y2 ⟨V8.ob,zv2⟩,rcs V8 ((V8.al (ar,.lst v2) (by simp)).1),hal',br,λlt H18 A0 s18 DX=>x2 lt (LR vw) {rfl,DX,ltl,λcc h=>n10 cc<|ltm cc h,λpl2 H19 hpl2 s19 epl2=>x3 (c*w) pl2 (EZ<|LR vw) {rfl,epl2,λk hk=>?_,oA (ψ (bt lp.symm) bp) rfl,by have:=pb _ ltl<|λcc h=>n10 cc<|ltm cc h;lia,λah H20 hah s20 eah=>((V8.same<|(s18.trans s19).trans s20).add eah).put T.cl T.n8 λH21 V9=>?_}}}}
 ·simp[OG,aw,A8 (a:="records_led_to") (b:="name_values") (by decide +kernel),A8 (a:="records_led_to") (b:="record_values") (by decide +kernel),A8 (a:="records_led_to") (b:="piece_values") (by decide +kernel),A8 (a:="records_led_to") (b:="record_marks") (by decide +kernel),A8 (a:="records_led_to") (b:="piece_marks") (by decide +kernel),A8 (a:="records_led_to") (b:="leads") (by decide +kernel),A8 (a:="records_led_to") (b:="namings") (by decide +kernel)]
 ·unfold EZ at hk;obtain⟨cc,h1,h2⟩:=jo.mp hk;cases cc with
  |none=>cases h2
  |some cc =>
   rw[<-lp];exact(ok.n2 cc<|ltm cc h1).1 k h2
 have tk:=tkx V9;refine q ⟨an,ar,ap,am,aq,al,ag,ah⟩ _ {⟨dx,V9.ob⟩,{v1,(V9.al (an,.lst v1) (by simp)).1,Paired.mapP P1 λv c=>NmV.keep tk},{v2,(V9.al (ar,.lst v2) (by simp)).1,Paired.mapP P2 λv c=>RcV.keep tk},{v3,(V9.al (ap,.lst v3) (by simp)).1,Paired.mapP P3 λv c=>PcV.keep tk},{v4,(V9.al (am,.lst v4) (by simp)).1,Paired.mapP P4 λv c=>MkV.keep tk},{v5,(V9.al (aq,.lst v5) (by simp)).1,Paired.mapP P5 λv c=>MkV.keep tk},by rw[lr];exact(V9.al _<|.tail _<|.tail _<|.head _).1,by rw[lp];exact(V9.al _<|.tail _<|.head _).1,by rw[lp];exact(V9.al _<|.head _).1,ok} V9.s
def PlV.same(h:PlV H rows n r c w vw)(tk:D1 H H'):PlV H' rows n r c w vw:=by
 obtain⟨⟨v1,v2,v3,v4,v5,ef,P1,P2,P3,P4,P5⟩,x1,x2,x3,x4⟩:=h;exact{x5 v1 v2 v3 v4 v5 {ef,Paired.mapP P1 λv c=>NmV.keep tk,Paired.mapP P2 λv c=>RcV.keep tk,Paired.mapP P3 λv c=>PcV.keep tk,Paired.mapP P4 λv c=>MkV.keep tk,Paired.mapP P5 λv c=>MkV.keep tk},x1,x2,x3,x4}
def Ground.same(g:Ground K a H ly gp vw)(s:Same H H'):Ground K a H' ly gp vw:=by
 revert g;apply u7;rintro cl n r c w rows m ⟨T,TL,TP,L,P,hr,pv⟩;exact x7 cl n r c w _ m {T,TL,TP,L.same s,P.same s,hr,pv.same s.tk}
def Ground.ok{ly gp:Addr}{vw:Vw}(g:Ground K a H ly gp vw):EK vw:=by
 revert g;apply u7;rintro cl n r c w rows m ⟨T,TL,TP,L,P,hr,pv⟩;exact pv.ok
def Bh{ly gp:Addr}{vw:Vw}{Q:Addr->Hp->Prop}(g:Ground K a H ly gp vw)(q:TV K a->∀ x A H2,ViewAt a H2 x A vw->Same H H2->Q x H2) :
  ∀ x dx,H x=none->H dx=none->dx≠x->RC K a [.ref x,.ref ly,.ref gp] (upd (upd H dx<|.own x) x (.ins (a "View") dx [])) (λv H2=>v=.non/\Q x H2) E:=λx dx hx R8 nd=>by
 have s0:Same H (upd (upd H dx<|.own x) x (.ins (a "View") dx [])):=(AL R8).trans (AL (by rw[AG nd.symm];exact hx));revert g;apply u7;rintro cl n r c w rows m ⟨T,TL,TP,L,P,hr,pv⟩;exact OR x dx ly gp cl n r c w _ m vw {rfl,T,TL,TP,AE,L.same s0,P.same s0,hr,pv.same s0.tk,λA H' I s=>{rfl,q T x A H' I λy o e=>s _ _ (s0 _ _ e) (BE e hx)}}
example:(zv4,U4,wX,3):=by
 apply u3;rintro ly gp vw ⟨rfl,g,q⟩;obtain⟨n1,n2,n3,n4,n5,n6⟩:=VP g.ok;refine Bh g λT x A H1 I s1=>(x3 x A vw {rfl,T,I,λl1 H2 h2 s2 F2=>x3 x A vw {rfl,T,I.same s2,λl2 H3 h3 s3 F3=>JR (F2.same s3) F3 ?_ (q.of<|(s1.trans s2).trans s3)}})
 unfold faults IJ;simp only[ae]
 lia
example:(zv5,ZE,aJ,2):=by
 apply u3;rintro ly gp vw ⟨rfl,g,q⟩;push_cast[aJ,↓wY_];refine Bh g λT x A H1 I s1=>x3 x A vw {rfl,T,I,λl1 H2 h2 s2 F2=>?_};obtain⟨ps,e,P⟩:=F2;refine{_,.inl {_,SqL.of e,by rw[ζ,P.length]},?_}
 have e2:decide (((faults vw).length:Int)=0)=decide (faults vw=[]):=by
  rw[decide_eq_decide];constructor;intro h;exact fz.mp (by lia);intro h;rw[h];rfl
 rw[e2];exact(q H2<|s1.trans s2)
def Bj(vw:Vw):IJ vw=(E9 vw).map (p7 vw):=by
 unfold IJ N7 N8 N9 E9 CZ;simp only[χ,ff]
 rfl
def L0{α :Type}{f:Nat->Option α}{n k:Nat}:AS ((ο n).map f) k=if k<n then f k else none:=by
 unfold AS;by_cases h:k<n;rw[if_pos h,τ,xa h]
 rfl;rw[if_neg h,bq (by simp;exact cu h)]
 rfl
def VS{α :Type}{l:List (Option α)}{k:Nat}(h:¬ k<l.length):AS l k=none:=by
 unfold AS;rw[bq (cu h)]
 rfl
section
variable{vw:Vw}
def bM(r:Nat):AS (mended vw).rc r=FM vw r:=by
 show AS ((ο _).map _) r=_;rw[L0];split
 rfl;rename_i h;unfold FM;rw[VS h]
def bN(ok:EK vw)(r:Nat):AS (mended vw).rm r=KJ vw r:=by
 show AS ((ο _).map _) r=_;rw[L0];split
 rfl;rename_i h;unfold KJ;rw[VS h,(VS (by rw[ok.l1];exact h))];simp
def Bl(ok:EK vw)(p:Nat):AS (mended vw).pm p=MY vw p:=by
 show AS ((ο _).map _) p=_;rw[L0];split
 rfl;rename_i h;unfold MY;rw[(VS (by rw[ok.l2];exact h))];simp
def zv6{r:Nat}{d:Int × ad}(h:FM vw r=some d):∃ c,AS vw.rc r=some c/\0<led vw r/\d=((led vw r:Int),c.2):=by
 unfold FM at h;cases e:AS _ r with
 |none=>rw[e]at h;cases h
 |some c =>
  rw[e]at h;by_cases h0:led vw r=0;simp only[h0]at h;cases h;simp only[h0,if_false,yr]at h;exact{c,rfl,nq h0,h.symm}
def Bm{r:Nat}{c:Int × ad}(h:AS vw.rc r=some c)(hl:0<led vw r):FM vw r=some ((led vw r:Int),c.2):=by
 unfold FM;rw[h];simp only;rw[if_neg (g_ hl)]
def VT(ok:EK vw):EK (mended vw):=by
 refine{λc h=>?_,λc h=>?_,ok.n3,?_,?_,ok.bn,?_,ok.bp}
 show c.2<((ο _).map _).length/\_;simp only[ζ,dw];exact ok.n1 c h;obtain⟨r,z,hr⟩:=af.mp h;obtain⟨d,hd,z,rfl⟩:=zv6 hr;exact ok.n2 d<|zva hd
 show((ο _).map _).length=((ο _).map _).length;simp
 show((ο _).map _).length=vw.pc.length;simp
 show((ο _).map _).length<=100;simp only[ζ,dw];exact ok.br
end
def OH{α β γ :Type}{F: α -> β ->Prop}{G: α -> γ ->Prop}{f: β -> γ}(k:∀ x y,G x (f y)->F x y):∀ {l:List α} {m:List β},Paired G l (m.map f)->Paired F l m
 |_,[],h=>by cases h;exact .nil
 |_,y::m,h=>by
  cases h with
  |cons h t=>exact .cons (k _ _ h) (OH k t)
def RU{α β :Type}{F: α -> β ->Prop}:∀ {bs:List β} {l:List α} {ds:List β},Paired F l (bs++ds)->∃ x y,l=x++y/\Paired F x bs/\Paired F y ds
 | [],l,ds,h=>x2 [] l {rfl,.nil,h}
 |b::bs,l,ds,h=>by
  cases h with
  |cons h t =>
   refine u2 ?_<|RU t;rintro x y ⟨rfl,p1,p2⟩;exact x2 _ y {rfl,.cons h p1,p2}
def PlV.asC{rows:t5}{n r c w:Nat}{vw:Vw}(h:PlV H rows n r c w vw):Paired (CelV H) rows.flatten (DM vw):=by
 refine u5 ?_ h.vs;rintro v1 v2 v3 v4 v5 ⟨ef,P1,P2,P3,P4,P5⟩;rw[ef];exact LZ (LZ (LZ (LZ (M3 P1 λz z h=>h) (M3 P2 λz z h=>h)) (M3 P3 λz z h=>h)) (M3 P4 λz z h=>h)) (M3 P5 λz z h=>h)
def PlV.of{rows:t5}{n r c w:Nat}{vw:Vw}(P:Paired (CelV H) rows.flatten (DM vw))(z1:vw.nm.length=n*w)(z2:vw.rc.length=r*w)(z3:vw.pc.length=c*w)(ok:EK vw):PlV H rows n r c w vw:=by
 refine u2 ?_<|RU P;rintro x4 v5 ⟨e5,P,P5⟩;refine u2 ?_<|RU P;rintro x3 v4 ⟨e4,P,P4⟩;refine u2 ?_<|RU P;rintro x2 v3 ⟨e3,P,P3⟩;refine u2 ?_<|RU P;rintro v1 v2 ⟨e2,P1,P2⟩;exact{x5 v1 v2 v3 v4 v5 {by rw[e5,e4,e3,e2],OH  (f:=Cel.nm) (λz z h=>h) P1,OH  (f:=Cel.rc) (λz z h=>h) P2,OH  (f:=Cel.pc) (λz z h=>h) P3,OH  (f:=Cel.mk) (λz z h=>h) P4,OH  (f:=Cel.mk) (λz z h=>h) P5},z1,z2,z3,ok}
def CelV.keep{H':Hp}(tk:D1 H H'){v:V}:∀ {c:Cel},CelV H v c->CelV H' v c
 |.nm _,h=>NmV.keep tk h
 |.rc _,h=>RcV.keep tk h
 |.pc _,h=>PcV.keep tk h
 |.mk _,h=>MkV.keep tk h
def zv7{α :Type}{l:List (Option α)}{k:Nat}(h:k<l.length):l[k]? =some (AS l k):=by
 unfold AS;rw[θ h]
 rfl
def Bp(vw:Vw)(ok:EK vw):(DM vw).length=vw.nm.length+vw.rc.length+vw.pc.length+vw.rc.length+vw.pc.length:=by
 unfold DM;simp only[ae,ζ,ok.l1,ok.l2]
def RV{α β :Type}{f:Option α -> β}{l:List (Option α)}{l':List β}{k:Nat}(h:k<l.length):(l.map f++l')[k]? =some (f<|AS l k):=by
 rw[ba (by rwa [ζ]),τ,zv7 h]
 rfl
section
variable{vw:Vw}{N R P k:Nat}
def RW(vw:Vw):DM vw=vw.nm.map .nm++(vw.rc.map .rc++(vw.pc.map .pc++(vw.rm.map .mk++(vw.pm.map .mk++[])))):=by simp[DM]
def bO(h1:vw.nm.length=N)(h:k<N):(DM vw)[k]? =some (.nm<|AS vw.nm k):=by
 subst h1;rw[RW,RV h]
def OI(h1:vw.nm.length=N)(h2:vw.rc.length=R)(h:k<R):(DM vw)[N+k]? =some (.rc<|AS vw.rc k):=by
 subst h1 h2;rw[RW,HN<|ζ _,RV h]
def bP(h1:vw.nm.length=N)(h2:vw.rc.length=R)(h3:vw.pc.length=P)(h:k<P):(DM vw)[N+R+k]? =some (.pc<|AS vw.pc k):=by
 subst h1 h2 h3;rw[RW,fh,HN<|ζ _,HN<|ζ _,RV h]
def RX(ok:EK vw)(h1:vw.nm.length=N)(h2:vw.rc.length=R)(h3:vw.pc.length=P)(h:k<R):(DM vw)[N+R+P+k]? =some (.mk<|AS vw.rm k):=by
 subst h1 h2 h3;rw[RW,fh,fh,HN<|ζ _,HN<|ζ _,HN<|ζ _,RV<|ok.l1 ▸ h]
def VU(ok:EK vw)(h1:vw.nm.length=N)(h2:vw.rc.length=R)(h3:vw.pc.length=P)(h:k<P):(DM vw)[N+R+P+R+k]? =some (.mk<|AS vw.pm k):=by
 subst h1 h2 h3;rw[RW,fh,fh,fh,HN<|ζ _,HN<|ζ _,HN<|ζ _,HN<|(ζ _).trans ok.l1,RV<|ok.l2 ▸ h]
def Bq{f:Nat}{A:Nat->Prop}(h0:f<N->A f)(h3:∀ k,k<R->A (N+k))(h4:∀ k,k<P->A (N+R+k))(h1:∀ k,k<R->A (N+R+P+k))(h2:∀ k,k<P->A (N+R+P+R+k))(hf:f<N+R+P+R+P):A f:=by
 rcases fe f N with h|h
 exact h0 h;obtain⟨f,rfl⟩:=iw h;rcases fe f R with h|h
 exact h3 f h;obtain⟨f,rfl⟩:=iw h;rw[<-fh]at hf ⊢;rcases fe f P with h|h
 exact h4 f h;obtain⟨f,rfl⟩:=iw h;rw[<-fh]at hf ⊢;rcases fe f R with h|h
 exact h1 f h;obtain⟨f,rfl⟩:=iw h;rw[<-fh]at hf ⊢;exact h2 f<|Nat.lt_of_add_lt_add_left hf
end
def zv8(h:CZ n p f=[])(hk:k<n):p k=false:=by
 simpa using (vj.mp (wz.mp h) k (ak.mpr hk))
def zv9(h:faults vw=[])(hr:r<vw.rc.length):JM vw r=false:=zv8 (ka.mp<|(ka.mp (ka.mp h).1).2).2 hr
def Bv{vw:Vw}{lv:Lv}(h:lv∈E9 vw):(∃ r,lv=.many r/\r<vw.rc.length/\GL vw r=true)\/(∃ r,lv=.leftR r/\r<vw.rc.length/\(AS vw.rc r).isSome=true/\led vw r=0)\/(∃ p,lv=.leftP p/\p<vw.pc.length/\AS vw.pm p=some 1/\G0 vw p=0)\/∃ r,lv=.marked r/\r<vw.rc.length/\AS vw.rm r=some 1/\AS vw.rc r=none:=by
 unfold E9 at h;simp only[ao,af,cj,ak,cb,decide_eq_true_eq]at h;rcases h with((⟨r,h,rfl⟩|⟨r,h,rfl⟩)|⟨p,h,rfl⟩)|⟨r,h,rfl⟩
 exact .inl ⟨r,rfl,h.1,h.2⟩;exact .inr<|.inl ⟨r,rfl,h.1,h.2.1,h.2.2⟩;exact .inr<|.inr<|.inl ⟨p,rfl,h.1,h.2.1,h.2.2⟩;exact .inr<|.inr<|.inr {r,rfl,h.1,h.2.1,yf.mp h.2.2}
section
variable{vw:Vw}{n r c w:Nat}
def zwa(ok:EK vw)(z1:vw.nm.length=n*w)(z2:vw.rc.length=r*w)(z3:vw.pc.length=c*w)(h:lv∈E9 vw)(hx:fx∈E3 vw n r c w lv):(DM<|mended vw)[fx.1]? =some fx.2:=by
 have g2:(mended vw).rc.length=r*w:=by
  show((ο vw.rc.length).map (FM vw)).length=_;simp[z2]
 have ok':=VT ok
 have g1:(mended vw).nm.length=n*w:=z1
 have g3:(mended vw).pc.length=c*w:=z3;rcases Bv h with⟨k,rfl,hk,hm⟩|⟨k,rfl,hk,hs,hl⟩|⟨k,rfl,hk,h1,h2⟩|⟨k,rfl,hk,h1,h2⟩
 ·simp only[E3,ρ]at hx;subst hx;rw[OI g1 g2 (z2 ▸ hk),bM]
 ·obtain⟨d,hd⟩:=fg.mp hs;simp only[E3,ax,b_,or_false]at hx;rcases hx with rfl|rfl
  ·rw[OI g1 g2 (z2 ▸ hk),bM];unfold FM;rw[hd];simp[hl]
  ·simp only[dq];rw[RX ok' g1 g2 g3 (z2 ▸ hk),bN ok];unfold KJ;rw[hd];simp[hl]
 ·simp only[E3,ρ]at hx;subst hx;simp only[dq];rw[VU ok' g1 g2 g3 (z3 ▸ hk),Bl ok];unfold MY;rw[if_pos ⟨h1,h2⟩]
 ·simp only[E3,ρ]at hx;subst hx;simp only[dq];rw[RX ok' g1 g2 g3 (z2 ▸ hk),bN ok];unfold KJ;rw[h2];simp[h1]
def zwb(ok:EK vw)(z1:vw.nm.length=n * w)(z2:vw.rc.length=r * w)(z3:vw.pc.length=c * w)(hf0:faults vw=[])(hf:f<n * w+r * w+c * w+r * w+c * w):(∀ lv∈E9 vw,∀ fx∈E3 vw n r c w lv,fx.1≠f)->(DM<|mended vw)[f]? =(DM vw)[f]? :=by
 have g2:(mended vw).rc.length=r*w:=by
  show((ο vw.rc.length).map (FM vw)).length=_;simp[z2]
 have ok':=VT ok
 have g1:(mended vw).nm.length=n*w:=z1
 have g3:(mended vw).pc.length=c*w:=z3;refine Bq (A:=λf=>(∀ lv∈E9 vw,∀ fx∈E3 vw n r c w lv,fx.1≠f)->(DM<|mended vw)[f]? =(DM vw)[f]?) (λh hno=>?_) (λk hk hno=>?_) (λk hk hno=>?_) (λk hk hno=>?_) (λk hk hno=>?_) hf
 ·rw[bO g1 h,bO z1 h];rfl
 ·rw[OI g1 g2 hk,OI z1 z2 hk,bM]
  have hk':k<vw.rc.length:=z2.symm ▸ hk
  congr 2
  cases e:AS vw.rc k with
  |none=>unfold FM;rw[e]
  |some d =>
   have h0:0<led vw k:=by
    rcases nr (led vw k)with z|z
    ·refine absurd rfl (hno (.leftR k) ?_ (n*w+k,.rc none) (by simp[E3]));unfold E9;simp only[ao,af,cj,ak,cb,decide_eq_true_eq];exact .inl (.inl (.inr {k,{hk',by rw[e];rfl,z},rfl}))
    ·exact z
   have h1:¬ ((led vw k:Int)<d.1):=λz=>by
    refine absurd rfl (hno (.many k) ?_ (n*w+k,.rc<|FM vw k) (by simp[E3]));unfold E9;simp only[ao,af,cj,ak,cb,decide_eq_true_eq];refine .inl<|.inl<|.inl {k,{hk',?_},rfl};unfold GL;rw[e];simp[h0,z]
   have h2:=zv9 hf0 hk';unfold JM at h2;rw[e]at h2;rw[Bm e h0]
   have:d.1=(led vw k:Int):=by lia
   rw[<-this]
 ·rw[bP g1 g2 g3 hk,bP z1 z2 z3 hk];rfl
 ·rw[RX ok' g1 g2 g3 hk,RX ok z1 z2 z3 hk,bN ok]
  have hk':k<vw.rc.length:=z2.symm ▸ hk
  congr 2
  cases e:AS vw.rc k with
  |none =>
   unfold KJ;rw[e];simp only;rw[if_neg];intro z;refine absurd (by simp only[dq]) (hno (.marked k) ?_ ((n+r+c)*w+k,.mk<|some 0) (by simp[E3]));unfold E9;simp only[ao,af,cj,ak,cb,decide_eq_true_eq];exact .inr {k,{hk',z,by rw[e];rfl},rfl}
  |some d =>
   unfold KJ;rw[e];simp only;rw[if_neg];intro z;refine absurd (by simp only[dq]) (hno (.leftR k) ?_ ((n+r+c)*w+k,.mk<|some 0) (by simp[E3]));unfold E9;simp only[ao,af,cj,ak,cb,decide_eq_true_eq];exact .inl (.inl (.inr {k,{hk',by rw[e];rfl,z},rfl}))
 ·rw[VU ok' g1 g2 g3 hk,VU ok z1 z2 z3 hk,Bl ok]
  congr 2
  unfold MY;rw[if_neg];rintro ⟨z1',z2'⟩;refine absurd (by simp only[dq]) (hno (.leftP k) ?_ ((n+r+c+r)*w+k,.mk<|some 0) (by simp[E3]));unfold E9;simp only[ao,af,cj,ak,cb,decide_eq_true_eq];exact .inl<|.inr {k,{z3.symm ▸ hk,z1',z2'},rfl}
end
def E5:Cel->vz
 |.nm none=>.none
 |.nm (some c)=>.tuple [.str c.1,.int c.2]
 |.rc none=>.none
 |.rc (some c)=>.tuple [.int c.1,.tuple<|c.2.map λ(k:Nat)=>Ge k]
 |.pc none=>.none
 |.pc (some s)=>.str s
 |.mk none=>.none
 |.mk (some i)=>.int i
def zwc(l:ad):∀ {n:Nat},Paired (Dat K H n) (AX l) (l.map λ(k:Nat)=>Ge k):=by
 induction l with
 |nil=>exact .nil
 |cons x r ih=>exact .cons (.int _) ih
def CelV.dat:∀ {c:Cel},CelV H v c->c.ok->Dat K H 2 v (E5 c)
 |.nm none,h,_=>by cases (h);exact Dat.non
 |.nm (some c),h,o=>by
  obtain⟨p,rfl,e⟩:=(h)
  exact Dat.tup  (SqT.of e) (.cons {.str _,o,bu _} (.cons (Dat.int _) .nil))
 |.rc none,h,_=>by cases (h);exact Dat.non
 |.rc (some c),h,_=>by
  refine u2 ?_<|h;rintro p q ⟨rfl,e,e2⟩;exact Dat.tup  (SqT.of e) (.cons (Dat.int _) (.cons (Dat.tup  (SqT.of e2) (zwc _)) .nil))
 |.pc none,h,_=>by cases (h);exact Dat.non
 |.pc (some s),h,o=>by
  cases (h);exact{.str s,o,bu _}
 |.mk none,h,_=>by cases (h);exact Dat.non
 |.mk (some i),h,_=>by cases (h);exact Dat.int i
def Bw:∀ (l m:ad),tz (l.map λ(k:Nat)=>Ge k) (m.map λ(k:Nat)=>Ge k)=decide (l=m)
 | [],[]=>rfl
 | [],_::_=>rfl
 |_::_,[]=>rfl
 |x::l,y::m=>by
  show((x ==(y:Int))&&tz _ _)=_;rw[Bw l m];simp
  lia
def zwd:∀ {c c':Cel},c.kind=c'.kind->iq (E5 c) (E5 c')=decide (c=c')
 | .nm c,.nm c',_=>by
  cases c with
  |none=>cases c'<;>simp[E5,iq]
  |some c =>
   cases c' with
   |none=>simp[E5,iq]
   |some d =>
    obtain⟨s,k⟩:=c;obtain⟨s',k'⟩:=d;simp[E5,iq,tz]
    lia
 | .rc c,.rc c',_=>by
  cases c with
  |none=>cases c'<;>simp[E5,iq]
  |some c =>
   cases c' with
   |none=>simp[E5,iq]
   |some d =>
    obtain⟨s,k⟩:=c;obtain⟨s',k'⟩:=d;rw[oa];simp[E5,iq,tz,Bw]
 | .pc c,.pc c',_=>by
  cases c with
  |none=>cases c'<;>simp[E5,iq]
  |some c =>
   cases c' with
   |none=>simp[E5,iq]
   |some d =>
    rw[oa];simp[E5,iq]
 | .mk c,.mk c',_=>by
  cases c with
  |none=>cases c'<;>simp[E5,iq]
  |some c =>
   cases c' with
   |none=>simp[E5,iq]
   |some d =>
    rw[oa];simp[E5,iq]
 |.nm _,.rc _,h=>by cases h
 |.nm _,.pc _,h=>by cases h
 |.nm _,.mk _,h=>by cases h
 |.rc _,.nm _,h=>by cases h
 |.rc _,.pc _,h=>by cases h
 |.rc _,.mk _,h=>by cases h
 |.pc _,.nm _,h=>by cases h
 |.pc _,.rc _,h=>by cases h
 |.pc _,.mk _,h=>by cases h
 |.mk _,.nm _,h=>by cases h
 |.mk _,.rc _,h=>by cases h
 |.mk _,.pc _,h=>by cases h
def Bx:∀ {cs cs':Fr},cs.map Cel.kind=cs'.map Cel.kind->tz (cs.map E5) (cs'.map E5)=decide (cs=cs')
 | [],[],_=>rfl
 | [],_::_,h=>by cases h
 |_::_,[],h=>by cases h
 |x::l,y::m,h=>by
  injection h with h1 h2
  show(iq _ _&&tz _ _)=_;rw[zwd h1,Bx h2];simp
def By(h:Paired (CelV H) xs cs)(ok:∀ c∈cs,c.ok):Paired (Dat K H 2) xs (cs.map E5):=by
 induction h with
 |nil=>exact .nil
 |cons h t ih=>exact .cons (h.dat<|ok _ ai) (ih λc hc=>ok c<|ω _ hc)
def zwe{p q:Addr}{xs ys:Tr}{cs cs':Fr}(h1:H p=some (.lst xs))(h2:H q=some (.lst ys))(P1:Paired (CelV H) xs cs)(P2:Paired (CelV H) ys cs')(o1:∀ c∈cs,c.ok)(o2:∀ c∈cs',c.ok)(hk:cs.map Cel.kind=cs'.map Cel.kind)(hq:Q (.bl<|!decide (cs=cs')) H):K9 K (.ref p) (.ref q) H Q:=by
 have e1:Dat K H 3 _ _:=Dat.lst (SqL.of h1) (By P1 o1)
 have e2:Dat K H 3 _ _:=Dat.lst (SqL.of h2) (By P2 o2);refine y2 {e1.1,e2.1,e1.shp (by decide),e2.shp (by decide),?_}
 show Q (.bl<|!PyData.eqvAll _ _) H;rw[Bx hk];exact hq
def Bz{w f g:Nat}(h:pk w f=pk w g):f=g:=by
 injection h with h1 h
 injection h with h2 _
 injection h1 with h1
 injection h2 with h2
 have a1:=uj f w;rw[show f/w=g/w by exact cw h1,show f%w=g%w by exact cw h2]at a1;exact a1 ▸ (uj g w)
def bQ(b j:Nat):Int:=reduceHash<|Oq [hashInt b,hashInt j]
def zwf:∀ j,j<6->∀ b,b<31->∀ c,c<31->bQ b j=bQ c j->b=c:=by decide +kernel
def zwg{k:List AM}{v:V}:TJ [(k,v)]:=λP w=>by simp
def zwh{w f g:Nat}{v u:V}(w6:w<=6)(w1:1<=w)(hf:f/w<31)(hg:g/w<31)(he:f%w=g%w)(ne:f/w≠g/w):TJ [(pk w f,v),(pk w g,u)]:=λP W=>by
 have e:∀ h:Nat,(rj<|DE P W).hash (pk w h)=bQ (h/w) (h%w):=λh=>rfl;simp only[ca,xg,fq,ρ,b_,not_false_eq_true,mj,and_true];rw[e,he];exact λz=>ne<|zwf (g%w) (aa (uo _ w1) w6) _ hf _ hg z
def RY{w b k:Nat}{x:Int}(hw:1<=w)(hx:x=b):([.int (x+(k:Int)/(w:Int)),.int<|(k:Int)%(w:Int)]:Tr)=(pk w<|b*w+k).map kV:=by
 unfold pk
 have h2:(b*w+k)%w=k%w:=by rw[di,og]
 have h1:(b*w+k)/w=b+k/w:=by rw[di,om<|hw]
 rw[h1,h2,hx];simp only[ca,xg,kV];rw[Na,Lf,Li]
def zwi{gp cl:Addr}{w m f:Nat}{rows:t5}{cs:Fr}{x:Cel}(P:PlankAt a H gp cl w rows m)(hw:1<=w)(hc:Paired (CelV H) rows.flatten cs)(hx:cs[f]? =some x)(hb:f/w<rows.length):∃ row v,rows[f/w]? =some row/\row[f%w]? =some v/\CelV H v x:=by
 obtain⟨v,hv,hr⟩:=GS hc hx
 have e:=VR  (j:=f%w) P.wd hb (uo _ hw);rw[di,uj,hv]at e;cases er:rows[f/w]? with
 |none=>rw[er]at e;cases e
 |some row =>
  rw[er]at e;exact x2 _ v ⟨rfl,e.symm,hr⟩
example:(zwj,ZF,aD,4):=by
 apply KS;rintro ly gp cl fd n r c w rows m vw lv ⟨rfl,S,hlv,EW,q⟩
 have w1:=S.w1;obtain⟨dl,IU⟩:=S.la.ob
 have z2:=S.pv.lr
 have n6:=S.n6
 have r6:=S.r6
 have c6:=S.c6
 have q1:∀ {p t:Addr} {f:Nat} {x:Cel} {v:V} {H2:Hp},H p=none->Same H H2->H2 p=some (.dT [])->H2 t=some (.tup<|(pk w f).map kV)->CelV H2 v x->E3 vw n r c w lv=[(f,x)]->H2 p=some (.dT [])/\∃ kvs:RJ,TK H2 [(.ref t,v)] kvs/\kvs.length<=15/\Q (.ref p) (upd H2 p<|.dT<|EQ [] kvs):=λ{p t f x v H2} hp s e et hv ef=>by
  refine{e,[(pk w f,v)],.cons {⟨t,rfl,et⟩,rfl} .nil,by simp,?_};refine q p [(pk w f,v)] _ hp (λy o ey=>by rw[AG (BE ey hp)];exact s _ _ ey) AE ?_ zwg;rw[ef];exact .cons {rfl,CelV.keep (λy ys ey=>by rw[AG (BD ey e (λz=>nomatch z))];exact ey) hv} .nil
 rcases Bv hlv with⟨k,rfl,hk,hm⟩|⟨k,rfl,hk,hsm,hl⟩|⟨k,rfl,hk,h1,h2⟩|⟨k,rfl,hk,h1,h2⟩
 obtain⟨d,hd⟩:∃ d,AS vw.rc k=some d:=by
  unfold GL at hm;cases e:AS vw.rc k with
  |none=>rw[e]at hm;cases hm
  |some d=>exact⟨d,rfl⟩
 have hl:0<led vw k:=by
  unfold GL at hm;rw[hd]at hm;simp at hm;exact hm.1
 refine BB EW (n:=0) rfl rfl (y2 {IU,B1 (by decide +kernel),BB EW (n:=1) rfl rfl (x6 ly n r c w k {rfl,S.tl,S.la,λt ht=>?_})});obtain⟨H1,zz0,s1,e1⟩:=D0 (o:=.tup [.int ((n:Int)+(k:Int)/(w:Int)),.int<|(k:Int)%(w:Int)]) ht;rw[zz0];push_cast[↓vM_];intro p hp;obtain⟨H2,zz0,s2,e2⟩:=D0 (o:=.dT []) hp;rw[zz0]
 have ND:=s1.trans s2
 have P2:=S.pl.same ND
 have f1:(n*w+k)/w=n+k/w:=by rw[di,om (by exact w1)]
 have f2:(n*w+k)%w=k%w:=by rw[di,og]
 obtain⟨dp,NG⟩:=P2.ob
 have hkw:k/w<r:=by
  rw[vn (by exact w1)];exact z2 ▸ hk
 refine u2 ?_ (zwi (f:=n*w+k) (x:=.rc<|AS vw.rc k) P2 w1 (S.pv.same ND.tk).asC (OI S.pv.ln z2<|z2 ▸ hk) (by rw[S.rl];lia));rintro row v ⟨er,ev,hv⟩;rw[f1]at er;rw[f2]at ev;rw[hd]at hv;revert hv;apply u2;rintro pv tv ⟨rfl,hpv,htv⟩;refine BB ((s1.trans s2) _ _ EW) (n:=2) rfl rfl (y2 {NG,RL _ _ _,BB (s2 _ _ e1) (n:=0) rfl rfl (x6 gp cl w rows m _ {rfl,S.tp,P2,λi row' eb er' l hnl=>?_,λz=>?_})})
 have ei:i=n+k/w:=by
  have:((n+k/w:Nat):Int)=(n:Int)+(k:Int)/(w:Int):=by rw[Na,Lf]
  exact cw eb.symm
 subst ei;rw[er]at er';obtain⟨H3,zz0,s3,e3⟩:=D0 (o:=.lst row) hnl;obtain rfl:=ι er';rw[zz0];refine BB (s3 _ _<|s2 _ _ e1) (n:=1) rfl rfl (CW (SqL.of e3) (n:=k%w) (by rw[Li]) ev (BB (s3 _ _ hpv) (n:=1) rfl rfl {by decide,λp1 OM=>?_}))
 have s4:=AL (o:=.tup [V.int ↑(led vw k),V.ref tv]) OM
 have s24:=s3.trans s4;refine q1 (f:=n*w+k) (x:=.rc<|FM vw k) (s1.free hp) (ND.trans s24) (s24 _ _ e2) ?_ ?_ rfl;rw[<-RY (x:=(n:Int)) w1 rfl];exact s24 _ _<|s2 _ _ e1;rw[Bm hd hl];exact x2 p1 tv {rfl,AE,s24 _ _ htv}
 have rl:=S.rl;rcases z with z|z
 exact absurd z<|Oh.mpr<|m_ _
 ·have z:rows.length<=n+k/w:=xi.mp z
  lia
 refine BB EW (n:=0) rfl rfl ?_;refine BB EW (n:=0) rfl rfl ?_;refine BB EW (n:=1) rfl rfl ?_;intro p hp;obtain⟨H2,zz0,s2,e2⟩:=D0 (o:=.dT []) hp;rw[zz0];refine y2 {s2 _ _ IU,B1 (by decide +kernel),BB (s2 _ _ EW) (n:=2) rfl rfl (x6 ly n r c w k {rfl,S.tl,S.la.same s2,λt ht=>?_})}
 have s3:=AL (o:=.tup [.int ((n:Int)+(k:Int)/(w:Int)),.int<|(k:Int)%(w:Int)]) ht
 have e3:upd H2 t (.tup [.int ((n:Int)+(k:Int)/(w:Int)),.int<|(k:Int)%(w:Int)]) t=some (.tup<|(pk w<|n*w+k).map kV):=by rw[AE,RY (x:=(n:Int)) w1 rfl]
 revert s3 e3;generalize upd H2 t (.tup [.int ((n:Int)+(k:Int)/(w:Int)),.int<|(k:Int)%(w:Int)])=H3;intro s3 e3
 have FY:=s2.trans s3;refine y2 {FY _ _ IU,B1 (by decide +kernel),BB (FY _ _ EW) (n:=2) rfl rfl (x6 ly n r c w k {rfl,S.tl,S.la.same FY,λt2 ht2=>?_})}
 have s4:=AL (o:=.tup [.int ((n:Int)+r+c+(k:Int)/(w:Int)),.int<|(k:Int)%(w:Int)]) ht2
 have e4:upd H3 t2 (.tup [.int ((n:Int)+r+c+(k:Int)/(w:Int)),.int<|(k:Int)%(w:Int)]) t2=some (.tup<|(pk w<|(n+r+c)*w+k).map kV):=by rw[AE,RY (x:=(n:Int)+r+c) (b:=n+r+c) w1 (by exact rfl)]
 revert s4 e4;intro s4 e4
 have s24:=s3.trans s4
 have f1:(n*w+k)/w=n+k/w:=by rw[di,om (by exact w1)]
 have f2:(n*w+k)%w=k%w:=by rw[di,og]
 have g1:((n+r+c)*w+k)/w=n+r+c+k/w:=by rw[di,om (by exact w1)]
 have g2:((n+r+c)*w+k)%w=k%w:=by rw[di,og]
 have hkw:k/w<r:=by
  rw[vn (by exact w1)];exact z2 ▸ hk
 have mg:EQ [] [(pk w<|n*w+k,V.non),(pk w<|(n+r+c)*w+k,.int 0)]=[(pk w<|n*w+k,V.non),(pk w<|(n+r+c)*w+k,.int 0)]:=YI _ [] (by
  simp only[t_,ca,xg,fq,ρ,b_,not_false_eq_true,mj,and_true];intro z
  have:=Bz z
  have e9:(n*w+k)/w=((n+r+c)*w+k)/w:=by rw[this]
  rw[f1,g1]at e9
  lia)
 refine{(s24 _ _ e2),[(pk w<|n*w+k,V.non),(pk w<|(n+r+c)*w+k,.int 0)],.cons {{t,rfl,s4 _ _ e3},rfl} (.cons {⟨t2,rfl,e4⟩,rfl} .nil),by simp,?_};rw[mg];refine q p _ _ hp (λy o ey=>by rw[AG (BE ey hp)];exact(s2.trans s24) _ _ ey) AE (.cons ⟨rfl,rfl⟩ (.cons ⟨rfl,rfl⟩ .nil)) (zwh S.w6 w1 (by rw[f1];lia) (by rw[g1];lia) (by rw[f2,g2]) (by rw[f1,g1];lia));refine BB EW (n:=0) rfl rfl ?_;push_cast[];refine BB EW (n:=0) rfl rfl ?_;push_cast[];push_cast[↓vQ_];refine BB EW (n:=1) rfl rfl ?_;push_cast[];refine CI (by decide +kernel) ?_;push_cast[↓vR_];intro p hp;obtain⟨H2,zz0,s2,e2⟩:=D0 (o:=.dT []) hp;rw[zz0];refine y2 {s2 _ _ IU,B1 (by decide +kernel),BB (s2 _ _ EW) (n:=2) rfl rfl (x6 ly n r c w k {rfl,S.tl,S.la.same s2,λt ht=>?_})}
 have s3:=AL (o:=.tup [.int ((n:Int)+r+c+r+(k:Int)/(w:Int)),.int<|(k:Int)%(w:Int)]) ht
 have e3:upd H2 t (.tup [.int ((n:Int)+r+c+r+(k:Int)/(w:Int)),.int<|(k:Int)%(w:Int)]) t=some (.tup<|(pk w<|(n+r+c+r)*w+k).map kV):=by rw[AE,RY (x:=(n:Int)+r+c+r) (b:=n+r+c+r) w1 (by exact rfl)]
 exact q1 (f:=(n+r+c+r)*w+k) (x:=.mk<|some 0) hp (s2.trans s3) (s3 _ _ e2) e3 rfl rfl
 ·have EW:H fd=some (.tup [.str (bw "marked"),.int k]):=EW;push_cast[aD,↓vN_];refine BB EW (n:=0) rfl rfl ?_;push_cast[];refine CI (by decide +kernel) ?_;push_cast[↓vP_];refine BB EW (n:=0) rfl rfl ?_;push_cast[];push_cast[↓vO_];intro p hp;obtain⟨H2,zz0,s2,e2⟩:=D0 (o:=.dT []) hp;rw[zz0];refine y2 {s2 _ _ IU,B1 (by decide +kernel),BB (s2 _ _ EW) (n:=1) rfl rfl (x6 ly n r c w k {rfl,S.tl,S.la.same s2,λt ht=>?_})}
  have s3:=AL (o:=.tup [.int ((n:Int)+r+c+(k:Int)/(w:Int)),.int<|(k:Int)%(w:Int)]) ht
  have e3:upd H2 t (.tup [.int ((n:Int)+r+c+(k:Int)/(w:Int)),.int<|(k:Int)%(w:Int)]) t=some (.tup<|(pk w<|(n+r+c)*w+k).map kV):=by rw[AE,RY (x:=(n:Int)+r+c) (b:=n+r+c) w1 (by exact rfl)]
  exact q1 (f:=(n+r+c)*w+k) (x:=.mk<|some 0) hp (s2.trans s3) (s3 _ _ e2) e3 rfl rfl
def Cb{α β :Type}{F: α -> β ->Prop}:∀ {l:List α} {m:List β} (k:Nat),Paired F l m->Paired F (l.take k) (m.take k)
 |_,_,0,_=>.nil
 |_,_,_+1,.nil=>.nil
 |_,_,k+1,.cons h t=>.cons h<|Cb k t
def Cc{α β :Type}{F: α -> β ->Prop}:∀ {l:List α} {m:List β} (k:Nat),Paired F l m->Paired F (l.drop k) (m.drop k)
 |_,_,0,h=>h
 |_,_,_+1,.nil=>.nil
 |_,_,k+1,.cons h t=>Cc k t
def Cd{w b:Nat}{cs:Fr}:DI w cs (b+1)=DI w (cs.drop w) b:=by
 unfold DI;rw[List.drop_drop,va,vb]
def Cg{w:Nat}:∀ {rows:t5} {cs:Fr},(∀ r∈rows,r.length=w)->Paired (CelV H) rows.flatten cs->∀ {b:Nat} {row:Tr},rows[b]? =some row->Paired (CelV H) row (DI w cs b)
 | [],_,_,_,_,_,e=>by simp at e
 |r0::rs,cs,hw,P,0,row,e=>by
  obtain rfl:=ι e
  have h0:=hw r0 ai
  have:=Cb w P;rw[i_,<-h0,Oo]at this;unfold DI;rw[xk,<-h0];exact this
 |r0::rs,cs,hw,P,b+1,row,e=>by
  have h0:=hw r0 ai
  have:=Cc w P;rw[i_,<-h0,Dr,h0]at this;rw[Cd];exact Cg (λr hr=>hw r<|ω _ hr) this e
def Cj{w:Nat}:∀ {rows:t5} {cs:Fr},cs.length=rows.length * w->(∀ {b:Nat} {row:Tr},rows[b]? =some row->Paired (CelV H) row (DI w cs b))->Paired (CelV H) rows.flatten cs
 | [],cs,hl,_=>by
  rw[uh,xk]at hl;rw[fz.mp hl];exact .nil
 |r0::rs,cs,hl,h=>by
  rw[dv]at hl
  have h0:=h (b:=0) rfl;unfold DI at h0;rw[xk,Om]at h0
  have ih:=Cj (w:=w) (rows:=rs) (cs:=cs.drop w) (by rw[ke,hl,va,Nat.add_sub_cancel]) λ{b row} e=>by
   rw[<-Cd];exact h  e
  have:=LZ h0 ih;rw[ku]at this;exact this
def OJ{w:Nat}:∀ {rows:t5},(∀ r∈rows,r.length=w)->rows.flatten.length=rows.length*w
 | [],_=>by simp
 |r::rs,h=>by
  rw[i_,ae,OJ λx hx=>h x<|ω _ hx,h r ai,dv,va];exact vb _ _
def zwk(cl:Addr)(w n:Int):(pf cl w n).lookup ("blocks":Str)=none:=LI _ _ _ (by decide) (by decide) (by decide)
def Ck{w b j:Nat}{cs:Fr}(hj:j<w):(DI w cs b)[j]? =cs[b*w+j]? :=by
 unfold DI;rw[Gf,if_pos hj,Ga]
def zwl{w b:Nat}{cs cs':Fr}(h:cs'.map Cel.kind=cs.map Cel.kind):(DI w cs' b).map Cel.kind=(DI w cs b).map Cel.kind:=by
 unfold DI;rw[E_,Fa,E_,Fa,h]
def Cl{w b:Nat}{cs:Fr}{c:Cel}(h:c∈DI w cs b):c∈cs:=List.mem_of_mem_drop<|wp h
def Cm{w i:Nat}{cs cs':Fr}:OA w (i+1) cs cs'=OA w i cs cs'+if DI w cs i=DI w cs' i then 0 else 1:=by
 unfold OA;rw[bz];by_cases h:DI w cs i=DI w cs' i;simp[h];simp[h]
def zwm{w b j:Nat}(hj:j<w):([.int (b:Int),.int (j:Int)]:Tr)=(pk w<|b*w+j).map kV:=by
 unfold pk
 have h1:(b*w+j)/w=b:=by rw[di,om (by lia),Nat.div_eq_of_lt hj,Nat.add_zero]
 have h2:(b*w+j)%w=j:=by rw[di,og,Nat.mod_eq_of_lt hj]
 rw[h1,h2]
 rfl
structure Cp(a:Ad)(gp cl:Addr)(w m M:Nat)(cs cs':Fr)(H:Hp)(i:Nat)(rs:t5)(H':Hp):Prop where
 p:PlankAt a H' gp cl w rs (m+OA w i cs cs')
 l:rs.length=M
 c:∀ {b:Nat} {row:Tr},rs[b]? =some row->Paired (CelV H') row (if b<i then DI w cs' b else DI w cs b)
 s:SameBut (λx=>x=gp\/x=cl) H H'
example:(zwn,ZG,aE,5):=by
 apply u9;rintro gp cl dl w rows m kvs cs cs' ⟨rfl,TP,P,hM,w1,w6,hdl,PC,hk,o1,o2,hc,q⟩;obtain⟨dp,NG⟩:=P.ob;obtain⟨tc,BC,_⟩:=P.ls
 have hcl':cs.length=rows.length*w:=by
  rw[<-PC.length];exact OJ P.wd
 have F8:cs'.length=cs.length:=by
  simpa using (congrArg lb hk)
 have ndl:dl≠gp/\dl≠cl:={BD hdl NG (λz=>nomatch z),BD hdl BC (λz=>nomatch z)}
 push_cast[aE,↓vV_];refine y2 {NG,zwk _ _ _,x5 gp cl w _ m {rfl,TP,P,?_}};push_cast[];refine{i0,by lia,QC (λi σ H'=>(∃ rs,Cp a gp cl w m _ cs cs' H i rs H')/\∃ y2 y3 y4,σ=[some _,some _,y2,y3,y4]) {{_,{P,rfl,λe=>Cg P.wd PC e,SameBut.refl _}},x3 _ _ _ rfl} (λi σ H1 hi hzz=>?_) (λσ H1 hzz=>?_)};obtain⟨⟨rs,J⟩,y2,y3,y4,eσ⟩:=hzz;subst eσ;obtain⟨dp1,hob1⟩:=J.p.ob
 have er:=θ   (by rw[J.l];exact hi)
 have tk1:D1 H H1:=λy ys e=>J.s _ _ e λz=>by
  rcases z with z|z
  rw[z,NG]at e;cases e;rw[z,BC]at e;cases e
 revert er;generalize rs[i]'(by rw[J.l];exact hi)=row;intro er
 have Pr:=J.c er;rw[if_neg (kd _)]at Pr
 have hrw:=J.p.wd _<|η er;push_cast[vh];refine x2 _ _ {hob1,RL _ _ _,x6 gp cl w rs _ i {rfl,TP,J.p,λi' row' eb er' l hl=>?_,λz=>by rw[J.l]at z;lia}};obtain rfl:i=i':=cw eb;rw[er]at er';obtain rfl:=ι er';obtain⟨H2,zz0,s2,e2⟩:=D0  hl;rw[zz0];push_cast[↓vS_];refine{{_,SqL.of e2},YF  (λ_=>true) (CJ _<|oA (ψ (bt hrw) w6) rfl) (λj ys H'=>Same H2 H'/\Paired (CelV H') ys ((DI w cs' i).take j)) {Same.refl _,.nil} (λj ys H' hj ⟨s,P⟩=>{SqL.of<|s _ _ e2,?_}) (λj ys H' t o ⟨s,P⟩ h=>{HK s h,Paired.mapP P λv c=>CelV.keep (AL h).tk}) (λj x ys H' hx _ QB qb=>qb) (λj x ys H' hx _ hzz=>?_) (λj x ys H' hx hp=>by cases hp) (λys H3 hzz l2 D3=>?_)};rw[P.length,de];lia
 have hj:j<w:=by rw[<-hrw];exact(ε.mp hx).1
 obtain⟨s,P⟩:=hzz
 have hd':=s _ _<|s2 _ _<|J.s _ _ hdl λz=>z.elim ndl.1 ndl.2;push_cast[C1]
 have A0:i*w+j<cs.length:=by
  rw[hcl']
  have:=wq w<|hi
  lia
 refine{.inr {_,.inl hd'},by decide,λp hp=>{BF kvs<|pk w<|i*w+j,?_,HK s hp,?_}}
 have sp:=AL (o:=.tup [V.int i,V.int j]) hp;exact DGet.t (sp _ _ hd') (by rw[AE,zwm hj])
 have sp:=AL (o:=.tup [V.int i,V.int j]) hp
 have ec':=θ (l:=cs')  (by rw[F8];exact A0);revert ec';generalize cs'[i*w+j]'(by rw[F8];exact A0)=c';intro ec';obtain⟨c,ec,hv⟩:=KR Pr hx;rw[Ck hj]at ec;rw[JQ  (by rw[Ck hj];exact ec')]
 have s1p:=(s2.trans s).trans sp;refine Paired.snoc (Paired.mapP P λv c=>CelV.keep sp.tk) ?_;rcases hc _ c c' ec ec' with⟨e1,e2'⟩|⟨v,e1,e2'⟩
 rw[e1,e2'];exact CelV.keep s1p.tk hv;rw[e1];exact CelV.keep s1p.tk<|CelV.keep tk1 e2'
 have hcl3:(DI w cs' i).length=w:=by
  unfold DI;rw[de,ke,F8,hcl']
  have:=wq w<|hi
  lia
 obtain⟨s,P⟩:=hzz;rw[hrw,jd<|bt hcl3]at P;obtain⟨H4,zz0,s4,e4⟩:=D0  D3
 have s14:=(s2.trans s).trans s4
 have P4:=Paired.mapP P λv c=>CelV.keep s4.tk
 have hys:ys.length=w:=by rw[P4.length,hcl3]
 have J4:Cp a gp cl w m _ cs _ H i rs H4:={J.p.same s14,J.l,λe=>Paired.mapP (J.c e) λv c=>CelV.keep s14.tk,J.s.trans s14.sb}
 rw[zz0];push_cast[↓vU_];refine zwe e4 ((s.trans s4) _ _ e2) P4 (Paired.mapP Pr λv c=>CelV.keep s14.tk) (λc hc=>o2 c<|Cl hc) (λc hc=>o1 c<|Cl hc) (zwl hk) ?_;by_cases he:DI w cs' i=DI w cs i;refine CI (by simp[he]) ({rs,{by rw[Cm,if_pos he.symm];exact J4.p,J4.l,λ{b row} e=>?_,J4.s}})
 have:=J4.c e;by_cases hb:b=i;rw[hb,if_neg<|kd _]at this;rw[hb,if_pos<|fu _,he];exact this;simp only[propext {λh=>ni (f_ h) hb,λh=>da h}];exact this;obtain⟨dp4,hob4⟩:=J4.p.ob;obtain⟨tc4,hcl4,_⟩:=J4.p.ls;refine CM (by simp[he]) ?_;push_cast[↓vT_];refine x2 _ _ {hob4,zV _ _ _,x8 gp cl w rs _ _ l2 ys {rfl,TP,J4.p,SqL.of e4,by lia,λi' eb hb' hyl H5 P5 G6=>?_,λz=>by rw[J.l]at z;lia}};obtain rfl:i=i':=cw eb
 have tk5:D1 H4 H5:=λy ys e=>G6 _ _ e λz=>by
  rcases z with z|z
  rw[z,hob4]at e;cases e;rw[z,hcl4]at e;cases e
 refine{rs.set i ys,{?_,by rw[ky];exact J.l,λ{b row} e=>?_,J4.s.trans G6}};rw[Cm,if_neg<|λz=>he z.symm];exact P5;by_cases hb:b=i;subst hb;rw[gz (by rw[J.l];exact hi)]at e;obtain rfl:=ι e;rw[if_pos (fu _)];exact Paired.mapP P4 λv c=>CelV.keep tk5;rw[ir (λz=>hb z.symm)]at e
 have:=J4.c e;simp only[show(b<i+1)=(b<i)from propext {λh=>by exact ni (f_ h) hb,λh=>by exact da h}];exact Paired.mapP this λv c=>CelV.keep tk5;obtain⟨⟨rs,J⟩,y2,y3,y4,eσ⟩:=hzz;refine q rs H1 J.p J.l (Cj (w:=w) (by rw[J.l,F8,hcl']) λ{b row} e=>?_) J.s
 have:=J.c e;rw[if_pos (by rw[<-J.l];exact(ε.mp e).1)]at this;exact this
def bR{vw:Vw}(ok:EK vw):∀ c∈DM vw,c.ok:=λc hc=>by
 unfold DM at hc;simp only[ao,af]at hc;rcases hc with(((⟨x,hx,rfl⟩|⟨x,hx,rfl⟩)|⟨x,hx,rfl⟩)|⟨x,hx,rfl⟩)|⟨x,hx,rfl⟩
 cases x with
 |none=>exact trivial
 |some d=>exact(ok.n1 d hx).2
 cases x<;>exact trivial;cases x with
 |none=>exact trivial
 |some d=>exact ok.n3 d hx
 cases x<;>exact trivial;cases x<;>exact trivial
def JS{α :Type}{f: α ->Cel}(h:∀ x,(f x).kind=k)(l:List α):(l.map f).map Cel.kind=bg l.length k:=by
 rw[ff]
 induction l with
 |nil=>rfl
 |cons x r ih=>rw[ca,ih];exact congrArg (· ::_) (h x)
def zwo{vw:Vw}(ok:EK vw):(DM<|mended vw).map Cel.kind=(DM vw).map Cel.kind:=by
 have ok2:=VT ok
 have l1:(mended vw).rc.length=vw.rc.length:=by
  show((ο _).map _).length=_;simp
 unfold DM;simp only[χ];rw[JS  (f:=Cel.nm) λz=>rfl,JS  (f:=Cel.rc) λz=>rfl,JS  (f:=Cel.pc) λz=>rfl,JS  (f:=Cel.mk) λz=>rfl,JS  (f:=Cel.mk) λz=>rfl,
  JS  (f:=Cel.nm) λz=>rfl,JS  (f:=Cel.rc) λz=>rfl,JS  (f:=Cel.pc) λz=>rfl,JS  (f:=Cel.mk) λz=>rfl,JS  (f:=Cel.mk) λz=>rfl,ok2.l1,ok2.l2,ok.l1,ok.l2,l1]
 rfl
def Cq{P:List AM->V->Prop}:∀ {more kvs:RJ},(∀ k v,BF kvs k=some v->P k v)->(∀ kv∈more,P kv.1 kv.2)->∀ k v,BF (EQ kvs more) k=some v->P k v
 | [],kvs,h,_=>h
 |p::r,kvs,h,hm=>Cq  (kvs:=B0 _ _ _) (λk v e=>by
   rw[K0]at e;by_cases z:k=p.1;rw[if_pos z]at e;obtain rfl:=ι e;rw[z];exact hm p ai;rw[if_neg z]at e;exact h k v e) λkv hkv=>hm kv<|ω _ hkv
def bS:∀ {more kvs:RJ} {k:List AM},(BF kvs k).isSome=true->(BF (EQ kvs more) k).isSome=true
 | [],_,_,h=>h
 |p::r,kvs,k,h=>bS  (kvs:=B0 _ _ _) (by
   rw[K0];split
   rfl;exact h)
def Cv:∀ {more kvs:RJ} {kv:List AM × V},kv∈more->(BF (EQ kvs more) kv.1).isSome=true
 | [],_,_,h=>by cases h
 |p::r,kvs,kv,h=>by
  rcases ax.mp h with rfl|h
  exact bS  (kvs:=B0 _ _ _) (by rw[K0,if_pos rfl];rfl);exact Cv (more:=r) h
def zwp(lv:Lv):(E3 vw n r c w lv).length<=2:=by
 cases lv<;>simp[E3]
structure DuI(vw:Vw)(n r c w:Nat)(dl:Addr)(H2:Hp)(i:Nat)(kvs:RJ)(H':Hp):Prop where
 s:Same H2 H'
 e:H' dl=some (.dT kvs)
 A:∀ k v,BF kvs k=some v->∃ lv∈E9 vw,∃ fx∈E3 vw n r c w lv,k=pk w fx.1/\CelV H' v fx.2
 B:∀ j lv,j<i->(E9 vw)[j]? =some lv->∀ fx∈E3 vw n r c w lv,(BF kvs<|pk w fx.1).isSome=true
 l:kvs.length<=2*i
def zwr(ok:EK vw):(E9 vw).length<=400:=by
 obtain⟨z,z,z,m4,m5,m6⟩:=VP ok
 have:=congrArg lb<|Bj vw;unfold IJ at this;simp only[ae,ζ]at this
 lia
def Site.ground(S:Site K a H ly gp cl n r c w rows m vw):Ground K a H ly gp vw:=x7 cl n r c w _ m ⟨S.tv,S.tl,S.tp,S.la,S.pl,S.rl,S.pv⟩
def Site.same{ly gp cl:Addr}{n r c w:Nat}{rows:t5}{m:Nat}{vw:Vw}{H':Hp}(S:Site K a H ly gp cl n r c w rows m vw)(s:Same H H'):Site K a H' ly gp cl n r c w rows m vw:={S.tv,S.tl,S.tp,S.la.same s,S.pl.same s,S.rl,S.pv.same s.tk,S.w1,S.w6,S.n6,S.r6,S.c6}
example:(zws,p8,aP,5):=by
 apply OT;rintro ly gp cl n r c w rows m vw ⟨rfl,S,hf,q⟩
 have z1:=S.pv.ln
 have z2:=S.pv.lr
 have z3:=S.pv.lp
 have ok:=S.pv.ok
 have n6:=S.n6
 have r6:=S.r6
 have c6:=S.c6
 have rl:=S.rl;refine x3 ly gp vw {rfl,S.ground,λH1 s1=>?_};rw[decide_eq_true hf];refine x3 ly gp vw {rfl,S.ground.same s1,λfo H2 hfo s2 F2=>?_};rw[hf,t_]at F2
 have F0:=F2;rw[Bj]at F2
 have ND:=s1.trans s2;obtain⟨ps,efo,PF⟩:=F2;intro dl hdl;obtain⟨H3,zz0,s3,e3⟩:=D0  hdl
 have ln:=zwr ok
 have pl:ps.length=(E9 vw).length:=by rw[PF.length,ζ]
 rw[zz0];refine .inl {{_,SqL.of<|s3 _ _ efo},IC  (λi σ H'=>(∃ kvs,DuI vw n r c w dl H2 i kvs H')/\∃ y,σ=[some _,some _,some _,some _,y]) {{[],{s3,e3,λk v h=>(by cases h),λj lv h=>absurd h<|nv _,υ _}},_,rfl} (by rintro i σ H' _ ⟨⟨_,J⟩,_⟩;exact SqL.of<|J.s _ _ efo) (λi x σ H4 hx hzz=>?_) (λσ H4 hzz=>?_)};obtain⟨⟨kvs,J⟩,y,eσ⟩:=hzz;subst eσ;rw[τ,au]at hx;obtain⟨fd,efd,rfl⟩:=hx;obtain⟨g,eg,EW⟩:=KR PF efd;rw[τ,au]at eg;obtain⟨lv,elv,rfl⟩:=eg
 have hlv:=η elv
 have hi:=(ε.mp elv).1;push_cast[↓xL_];refine{.inr<|.inr<|.inl {rfl,.inr ⟨_,J.e⟩},OR ly gp cl fd n r c w _ m vw lv {rfl,(S.same ND).same J.s,hlv,J.s _ _ EW,λdm more H5 hdm s5 e5 PM ap=>?_}}
 have ml:more.length<=2:=by rw[PM.length];exact zwp lv
 have tk6:D1 H5 (upd H5 dl<|.dT<|EQ kvs more):=λy ys ey=>by rw[AG (BD ey (s5 _ _ J.e) (λz=>nomatch z))];exact ey
 have jl:=J.l;refine x4 dl dm _ _ {rfl,rfl,BE J.e hdm,s5 _ _ J.e,e5,λ_=>ap,CJ _ (by lia),_,{λy o ey=>?_,AE,?_,λj lv' hj ej fx hfx=>?_,?_}};rw[AG (BE ey hdl)];exact s5 _ _<|J.s _ _ ey;refine Cq (λk v e=>?_) λkv hkv=>?_;obtain⟨lv',h1,fx,h2,h3,h4⟩:=J.A k v e;exact{_,h1,fx,h2,h3,CelV.keep tk6<|CelV.keep s5.tk h4};obtain⟨k,ek⟩:=T9 hkv;obtain⟨fx,efx,h1,h2⟩:=KR PM ek;exact{lv,hlv,fx,η efx,h1,CelV.keep tk6 h2};by_cases hji:j<i;exact bS<|J.B j _ hji ej fx hfx;obtain rfl:j=i:=n_ (f_ hj) (cu hji);rw[elv]at ej;obtain rfl:=ι ej;obtain⟨k,ek⟩:=T9 hfx;obtain⟨kv,ekv,h1,_⟩:=GS PM ek;rw[<-h1];exact Cv<|η ekv
 have:=YH more kvs
 lia
 obtain⟨⟨kvs,J⟩,y,eσ⟩:=hzz
 have S4:=(S.same ND).same J.s;subst eσ;obtain⟨dp,hgp⟩:=S4.pl.ob;obtain⟨dp1,hgp1⟩:=(S.same s1).pl.ob;obtain⟨tc1,hcl1,_⟩:=(S.same s1).pl.ls;obtain⟨tc,BC,_⟩:=S4.pl.ls
 have nfo:fo≠gp/\fo≠cl:={(BE hgp1 hfo).symm,(BE hcl1 hfo).symm}
 have ok2:=VT ok
 have g2:(mended vw).rc.length=r*w:=by
  show((ο _).map _).length=_;simp[z2]
 push_cast[↓xM_];refine x9 gp cl dl w _ m _ _ _ {rfl,S.tp,S4.pl,by lia,S.w1,S.w6,J.e,S4.pv.asC,zwo ok,bR ok,bR ok2,λf x x' ex kD=>?_,λrows' H5 P5 hl5 PC5 G6=>?_}
 have A0:f<n*w+r*w+c*w+r*w+c*w:=by
  have:=(ε.mp ex).1
  rwa [Bp vw ok,z1,z2,z3]at this
 cases ev:BF _ (pk w f)with
 |none =>
  refine .inl {rfl,?_}
  have:=zwb ok z1 z2 z3 hf A0 λlv hlv fx hfx e=>?_;rw[ex,kD]at this;exact ι this;obtain⟨j,ej⟩:=T9 hlv
  have:=J.B j lv (by rw[ζ,pl];exact(ε.mp ej).1) ej fx hfx;rw[e,ev]at this;cases this
 |some v =>
  obtain⟨lv,hlv,fx,hfx,e1,e2⟩:=J.A _ v ev
  have h3:=zwa ok z1 z2 z3 hlv hfx;rw[<-(Bz e1),kD]at h3;obtain rfl:=ι h3;exact .inr ⟨v,rfl,e2⟩
 have tk5:D1 H4 H5:=λy ys e=>G6 _ _ e λz=>by
  rcases z with z|z
  rw[z,hgp]at e;cases e;rw[z,BC]at e;cases e
 exact q fo _ H5 (s1.free hfo) ((F0.same J.s).on (λo e=>G6 _ _ e λz=>z.elim nfo.1 nfo.2) tk5) P5 (by rw[hl5,rl]) (PlV.of PC5 z1 g2 z3 ok2) ((ND.trans J.s).sb.trans G6)
def Cw:∀ {es:List AC},(∀ j,as.length<=j->C j=false)->sh M C (es++as)=sh M C as
 | [],_=>rfl
 |e::es,h=>by
  rw[vy,EE (by rw[h _ (by simp)];exact bc)];exact Cw h
def bT{tks:tZ}{z:Str}{k:Nat}:LV (B0 tks (.inr z) (.int (k:Nat)))=ES (LV tks) z k:=by
 funext y;unfold LV E8 ES;rw[K0];by_cases e:y=z;subst e;rw[if_pos rfl,if_pos rfl];rfl;rw[if_neg (λh=>e<|Ls h),if_neg e]
def bU{tks:tZ}{z:Str}{j:Nat}(h:LV tks z=some j):j∈E8 tks z:=List.mem_of_mem_head? h
def LaidA.off{n r c w:Nat}{cs:Rr}{as:List AC}{B:Md}(h:LaidA n r c w H cs as)(b:∀ kind k,¬ k<BN n r c w kind->B kind k=.no){C:Wu}{kind k:Nat}(hk:¬ k<BN n r c w kind):sh B C as kind k=.no:=by
 induction h with
 |nil=>exact b _ _ hk
 |@snoc cs as ch x l e1 e2 e3 e4 e5 e6 ih =>
  by_cases c:C as.length=true;rw[CS c];unfold Md.put;rw[if_neg (λe=>hk (by rw[e.1,e.2];exact e6))];exact ih;rw[EE c];exact ih
def zwt(b:∀ kind k,DL kind<|B kind k)(h:∀ x∈as,DL x.kind x.x)(kind k:Nat):DL kind (sh B C as kind k):=by
 induction as with
 |nil=>exact b _ _
 |cons x r ih =>
  have ih:=ih λy hy=>h y<|ω _ hy;by_cases c:C r.length=true;rw[CS c];unfold Md.put;split;rename_i z;rw[z.1];exact h x ai;exact ih;rw[EE c];exact ih
section
variable{X:SX}{cs:Rr}{tks:tZ}{M:Hs}
def SM.out(I:X.at a H cs tks M){j:Nat}(hj:cs.length<=j):X.outs j=false:=by
 obtain⟨DS,e,hv,ks⟩:=I.bk.bk.out;cases eo:X.outs j with
 |false=>rfl
 |true =>
  rw[<-hv,<-J3]at eo;obtain⟨p,hp,ep⟩:=e_.mp eo
  have:=ks.2 p hp
  lia
def C6.more{H':Hp}{ex:Rr}{tks':tZ}{M':Hs}(I:C6 a H X cs tks M)(I':X.at a H' (cs++ex) tks' M')(sb:SameBut (λx=>X.S.A.F x\/x=X.S.tk) H H')(hH:∃ o,Hist X.m0 M'.b M'.as (LV tks') o)(hb:M'.b=M.b)(hs:∃ es,M'.as=es++M.as/\∀ x∈es,DL x.kind x.x):C6 a H' X (cs++ex) tks' M':=by
 obtain⟨es,he,ho⟩:=hs
 have out:∀ j:Nat,cs.length<=j->X.outs j=false:=λj hj=>I.st.out hj;refine{I',hH,hb ▸ I.bo,λk c ec o=>?_,?_,I.few,λx hx=>?_,I.w1};by_cases hk:k<cs.length;rw[ba hk]at ec;exact I.cut k c ec o;rw[out k (cu hk)]at o;cases o;rw[hb,he,Cw λj hj=>out j (by rw[I.st.la.len];exact hj)];exact I.rows.keep (KO sb λx hx=>hx.elim (λh=>I.st.bk.loose h) λh=>by rw[h];exact MO I.st.tk);rw[he]at hx;rcases ao.mp hx with h|h
 exact ho x h;exact I.ok x h
def RZ{m:Nat}{z:Str}(h:cellOf M m z=none):∀ j r,j<m->M 0 j≠.nm z r:=λj r hj e=>by
 have:=ko.mp h j<|ak.mpr hj;unfold D7 at this;rw[e]at this;simp at this
def bV{cell:Nat}(h:CQ 0 (M 0 cell)=true):M 0 cell=.no:=by
 cases e:M 0 _ with
 |no=>rfl
 |_=>rw[e]at h;simp[CQ]at h
def Cy{kind k:Nat}(h:CQ kind (M kind k)=true):M kind k≠.mk 1:=λe=>by
 rw[e]at h;simp[CQ]at h
def C6.snd(I:C6 a H X cs tks M):Snd X.m0 (sh M.b X.C M.as):=by
 obtain⟨o,hi⟩:=I.hi;exact hi.sd _<|I.st.la.cut I.cut
def C6.now(I:C6 a H X cs tks M):Snd X.m0 M.f:=by
 obtain⟨o,hi⟩:=I.hi;exact hi.now
def C6.inl(I:C6 a H X cs tks M)(C:Wu):InL X.n X.r X.c X.w (sh M.b C M.as):={λz z h=>I.st.la.off I.bo.no h,zwt I.bo.ok I.ok}
end
def Snd.few{n r c w:Nat}{S:Md}(s:Snd (n*w) S)(b:InL n r c w S){q m:Nat}{ps:ad}(h:S 3 q=.rc m ps):(∀ p∈ps,p<c*w)/\ps.length<=c*w:=by
 have lt:∀ p∈ps,p<c*w:=λp hp=>by
  have e:=(s.pm q m ps h p hp).1;rcases fe p _ with z|z
  exact z;rw[b.no 2 p (λhk=>nL hk z)]at e;cases e
 have:=mv (s.nd q m ps h)  λp hp=>ak.mpr<|lt p hp;rw[dw]at this;exact⟨lt,this⟩
def Snd.rl{n r c w:Nat}{S:Md}(s:Snd (n*w) S)(b:InL n r c w S){k q:Nat}{z:Str}(hk:k<n*w)(e:S 0 k=.nm z q):∃ m ps,q<r*w/\S 3 q=.rc m ps:=by
 refine u2 ?_<|s.nl k z q hk e;rintro m ps e3;refine x2 m ps {?_,e3};rcases fe q _ with h|h
 exact h;rw[b.no 3 q (λhk=>nL hk h)]at e3;cases e3
section
variable{X:SX}{cs:Rr}{tks:tZ}{M:Hs}
def C6.ps(I:C6 a H X cs tks M){r m:Nat}{ps:ad}(h:M 3 r=.rc m ps):(∀ p∈ps,p<X.c*X.w)/\ps.length<=18:=by
 have:=I.now.few (I.inl _) h;exact{this.1,ψ this.2 I.few}
def C6.rl(I:C6 a H X cs tks M){k rec:Nat}{z:Str}(hk:k<X.m0)(e:M 0 k=.nm z rec):∃ m ps,rec<X.r*X.w/\M 3 rec=.rc m ps:=I.now.rl (I.inl _) hk e
def SM.sbG{G:Addr->Prop}{H':Hp}(I:X.at a H cs tks M)(s:SameBut G H H')(g:∀ x,G x->ER (H x))(f:∀ x,G x->¬ X.S.A.F x/\x≠X.S.tk):X.at a H' cs tks M:=by
 obtain⟨⟨dx,e1⟩,e2,e3,e4,e5,e6,e7,e8,e9,e10,e11,e12⟩:=I;obtain⟨dl,el⟩:=e2.ob
 have tk:=KO s g;exact{{dx,s _ _ e1 λz=>(g _ z).2 _ _ _ e1},e2.sb s λz=>(g _ z).2 _ _ _ el,e3.sb s g λx hx=>(f x hx).1,s _ _ e4 λz=>(f _ z).2 rfl,e5,e6,e7,e8,e9.keep tk,λkind k v h1 h2 hv=>(e10 _ k v h1 h2 hv).keep tk,e11,e12.keep tk}
def C6.sbG{G:Addr->Prop}{H':Hp}(I:C6 a H X cs tks M)(s:SameBut G H H')(g:∀ x,G x->ER (H x))(f:∀ x,G x->¬ X.S.A.F x/\x≠X.S.tk):C6 a H' X cs tks M:={I.st.sbG s g f,I.hi,I.bo,I.cut,I.rows.keep<|KO s g,I.few,I.ok,I.w1}
def C6.same{H':Hp}(I:C6 a H X cs tks M)(s:Same H H'):C6 a H' X cs tks M:={I.st.same s,I.hi,I.bo,I.cut,I.rows.keep s.tk,I.few,I.ok,I.w1}
def C6.write(I:C6 a H X cs tks M)(er:X.rows[b]? =some row)(I':(X.wr cs b row).at a H' cs tks M)(sb:SameBut (λx=>X.S.A.F x\/x=X.S.A.gp) H H'):C6 a H' (X.wr cs b row) cs tks M:=by
 obtain⟨dp,ep⟩:=I.st.bk.pk.ob;exact{I',I.hi,I.bo,zgu I.cut b,(I.rows.write I.st.la er).keep (λy ys e=>sb _ _ e λz=>z.elim (λz=>(I.st.bk.loose z).1 _ e) λz=>by rw[z,ep]at e;cases e),I.few,I.ok,I.w1}
end
def Cz:Nat->CV->Cel
 |0,x=>.nm<|LW x
 |1,x=>.mk<|FA x
 |2,x=>.mk<|FA x
 |3,x=>.rc<|KK x
 |_,x=>.pc<|RD x
def G4(n r c kind:Nat):Nat:=if kind=0 then 0 else if kind=1 then n+r+c else if kind=2 then n+r+c+r else if kind=3 then n else n+r
def Db(hk:kind<5)(ok:DL kind x):RepC H x v↔CelV H v (Cz kind x):=by
 rcases kind with _|_|_|_|_|k
 all_goals cases x<;>first|exact ok.elim|exact Re
section
variable{n r c w:Nat}{S:Md}
def Dc(k:Nat):AS (BK n r c w S).nm k=if k<n*w then LW (S 0 k)else none:=L0
def Dd(k:Nat):AS (BK n r c w S).rc k=if k<r*w then KK (S 3 k)else none:=L0
def Dg(k:Nat):AS (BK n r c w S).pc k=if k<c*w then RD (S 4 k)else none:=L0
def Dh(k:Nat):AS (BK n r c w S).rm k=if k<r*w then FA (S 1 k)else none:=L0
def Dj(k:Nat):AS (BK n r c w S).pm k=if k<c*w then FA (S 2 k)else none:=L0
def JT:(BK n r c w S).nm.length=n*w:=by simp[BK]
def IQ:(BK n r c w S).rc.length=r*w:=by simp[BK]
def L4:(BK n r c w S).pc.length=c*w:=by simp[BK]
def InL.rc(b:InL n r c w S)(k:Nat):AS (BK n r c w S).rc k=KK (S 3 k):=by
 rw[Dd];split
 rfl;rename_i h;rw[b.no 3 k (h)];rfl
def InL.nm(b:InL n r c w S)(k:Nat):AS (BK n r c w S).nm k=LW (S 0 k):=by
 rw[Dc];split
 rfl;rename_i h;rw[b.no 0 k (h)];rfl
def InL.pc(b:InL n r c w S)(k:Nat):AS (BK n r c w S).pc k=RD (S 4 k):=by
 rw[Dg];split
 rfl;rename_i h;rw[b.no 4 k (h)];rfl
def InL.rm(b:InL n r c w S)(k:Nat):AS (BK n r c w S).rm k=FA (S 1 k):=by
 rw[Dh];split
 rfl;rename_i h;rw[b.no 1 k (h)];rfl
def InL.pm(b:InL n r c w S)(k:Nat):AS (BK n r c w S).pm k=FA (S 2 k):=by
 rw[Dj];split
 rfl;rename_i h;rw[b.no 2 k (h)];rfl
def Dk(h:LW x=some (z,q)):x=.nm z q:=by
 cases x<;>simp[LW]at h;rw[h.1,h.2]
def Dl(h:KK x=some d):∃ m:Nat,x=.rc m d.2/\d.1=m:=by
 cases x with
 |rc m ps=>cases h;exact⟨m,rfl,rfl⟩
 |_=>cases h
def Dm(h:RD x=some z):x=.tx z:=by
 cases x with
 |tx y=>cases h;rfl
 |_=>cases h
def M8(q:Nat):led (BK n r c w S) q=ld (n * w) S q:=by
 unfold led ld MW BK;generalize ο _=l
 induction l with
 |nil=>rfl
 |cons k l ih =>
  rw[ca,wc];cases e:S 0 k with
  |nm z q' =>
   show On q (q'::_)=_;rw[A_,ih]
   rfl
  |_=>exact ih
def bW(h:0<ld (n*w) S q):∃ k z,k<n*w/\S 0 k=.nm z q:=by
 obtain⟨k,hk,e⟩:=w_.mp h;cases e0:S 0 k with
 |nm z q' =>
  rw[e0]at e
  have:q'=q:=by simpa [FL]using e
  exact x2 k z {ak.mp hk,by rw[<-this];exact e0}
 |_=>rw[e0]at e;cases e
def zwu(hk:k<n*w)(e:S 0 k=.nm z q):0<ld (n*w) S q:=w_.mpr {k,ak.mpr hk,by rw[e];simp[FL]}
def zwv(b:InL n r c w S)(h:0<EJ (BK n r c w S) p):∃ q m ps,S 3 q=.rc m ps/\p∈ps:=by
 obtain⟨d,hd,hp⟩:=jo.mp<|kq.mp h;obtain⟨k,hk,rfl⟩:=af.mp hd;cases e:S 3 k with
 |rc m ps=>rw[e]at hp;exact x3 k m ps ⟨e,hp⟩
 |_=>rw[e]at hp;cases hp
def zww(s:Snd (n * w) S)(p:Nat):EJ (BK n r c w S) p<=1:=by
 refine Df.mp (Bo.mpr {λd hd=>?_,gj.mpr<|nj.imp λ{i j} hij x hx y hy z=>?_}) p;obtain⟨k,hk,rfl⟩:=af.mp hd;cases e:S 3 k with
 |rc m ps=>exact s.nd k m ps e
 |_=>exact .nil
 cases e:S 3 i with
 |rc m ps =>
  cases e':S 3 j with
  |rc m' ps' =>
   rw[e]at hx;rw[e']at hy;exact s.dj i j m m' ps _ (bd hij) e e' x hx (z ▸ hy)
  |_=>rw[e']at hy;cases hy
 |_=>rw[e]at hx;cases hx
def IR(h:∀ k,k<n->p k=false):CZ n p f=[]:=by
 unfold CZ;rw[vj.mpr λk hk=>by rw[h k (ak.mp hk)];exact bc]
 rfl
def Snd.fault(s:Snd (n * w) S)(b:InL n r c w S):faults (BK n r c w S)=[]:=by
 have pm:∀ {p},0<EJ _ p->S 2 p=.mk 1/\∃ t,S 4 p=.tx t:=λ{p} h=>by
  refine u3 ?_<|zwv b h;rintro q m ps ⟨e,hp⟩;exact s.pm q m ps e p hp
 have z1:∀ k,k<(BK n r c w S).nm.length->GK _ k=false:=λk hk=>by
  unfold GK;rw[b.nm];cases e:S 0 k with
  |nm z q =>
   refine u2 ?_ (s.nl k z q (by rw[JT]at hk;exact hk) e);rintro m ps e3
   show(AS _ q).isNone=false;rw[b.rc,e3];rfl
  |_=>rfl
 have z2:∀ k,k<(BK n r c w S).nm.length->G1 _ k=false:=λk hk=>by
  unfold G1;rw[b.nm];cases e:S 0 k with
  |nm z q =>
   show List.any _ _=false;rw[uy];intro j hj
   have hj:=ak.mp hj;rw[b.nm];cases e':S 0 j with
   |nm z' q' =>
    have hk:k<n*w:=by rw[JT]at hk;exact hk
    show ¬ decide _=true;rw[decide_eq_true_eq];rintro rfl
    have:=s.un j k z' q' q (Aa hj hk) hk e' e
    lia
   |_=>exact bc
  |_=>rfl
 have z3:∀ p,p<(BK n r c w S).pc.length->decide (1<EJ (BK n r c w S) p)=false:=λp hp=>by
  have:=zww (r:=r) (c:=c) s p
  lia
 have z4:∀ p,p<(BK n r c w S).pc.length->(decide _&&(AS _ p).isNone)=false:=λp hp=>by
  by_cases h:0<EJ (BK n r c w S) p;obtain⟨y,t,e⟩:=pm h;rw[b.pc,e,decide_eq_true h];rfl;rw[decide_eq_false h];rfl
 have z5:∀ q,q<(BK n r c w S).rc.length->JM _ q=false:=λq hq=>by
  unfold JM;rw[b.rc];cases e:S 3 q with
  |rc m ps =>
   have:=s.ct q m ps e
   show decide _=false;rw[M8];lia
  |_=>rfl
 have z6:∀ q,q<(BK n r c w S).rc.length->(decide (0<led (BK n r c w S) q) && !decide (AS (BK n r c w S).rm q=some 1))=false:=λq hq=>by
  rw[M8,b.rm];by_cases h:0<ld (n*w) S q;refine u2 ?_<|bW h;rintro k z ⟨hk,e⟩;refine u2 ?_<|s.nl k z q hk e;rintro m ps e3;rw[s.mr q m ps e3,decide_eq_true h];rfl;rw[decide_eq_false h];rfl
 have z7:∀ p,p<(BK n r c w S).pc.length->(decide _ && !decide (AS (BK n r c w S).pm p=some 1))=false:=λp hp=>by
  by_cases h:0<EJ (BK n r c w S) p;rw[b.pm,(pm h).1,decide_eq_true h];rfl;rw[decide_eq_false h];rfl
 unfold faults N5 N6 Q9;rw[IR z1,IR z2,IR z3,IR z4,IR z5,IR z6,IR z7]
 rfl
end
section
variable{n r c w:Nat}{S:Md}
def bX(e:S 3 k=.rc m ps)(h:0<ld (n*w) S k):BZ n r c w S 3 k=.rc (ld (n*w) S k) ps:=by
 unfold BZ;simp only[kg,if_false,if_true,e];rw[if_neg (g_ h)]
def IS(h:BZ n r c w S 3 k=.rc m ps):∃ m',S 3 k=.rc m' ps/\0<ld (n*w) S k/\m=ld (n*w) S k:=by
 unfold BZ at h;simp only[kg,if_false,if_true]at h;cases e:S 3 k with
 |rc m' ps' =>
  rw[e]at h;simp only at h;split at h;cases h;cases h;exact{m',rfl,by lia,rfl}
 |_=>rw[e]at h;cases h
def Snd.mended(s:Snd (n*w) S)(b:InL n r c w S):Snd (n*w) (BZ n r c w S):=by
 refine{λk z q hk e=>?_,λq m ps e=>?_,λq m ps e=>?_,λq m ps e=>?_,λq m ps e p hp=>?_,λq q' m m' ps ps' hn e e'=>?_,s.un};refine u2 ?_<|s.nl k z q hk e;rintro m ps e3;exact x2 _ _<|bX e3<|zwu hk e;obtain⟨m',x,x,rfl⟩:=IS e;exact bt<|(λq=>rfl) q;obtain⟨m',e3,h,x⟩:=IS e;unfold BZ;simp only[e3];rw[if_neg (g_ h)];exact s.mr q m' ps e3;obtain⟨m',e3,x,x⟩:=IS e;exact s.nd q m' ps e3;obtain⟨m',e3,h,x⟩:=IS e;obtain⟨h2,h4⟩:=s.pm q m' ps e3 p hp;refine{?_,h4};unfold BZ;simp only[h2]
 have:0<G0 (BK n r c w S) p:=by
  refine kq.mpr (jo.mpr {_,af.mpr {q,cj.mpr {ak.mpr ?_,?_},b.rc q},by rw[e3];exact hp});rw[IQ];refine u2 ?_<|bW h;rintro k y ⟨hk,e0⟩;refine u2 ?_<|s.rl b hk e0;rintro x x ⟨h',x⟩;exact h';rw[M8];exact decide_eq_true h
 lia
 obtain⟨x,e3,x,x⟩:=IS e;obtain⟨x,e3',x,x⟩:=IS e';exact s.dj q q' _ _ ps _ hn e3 e3'
def InL.mended(b:InL n r c w S):InL n r c w (BZ n r c w S):=by
 constructor;intro kind k h
 have e:=b.no _ k h;unfold BZ;split;rename_i z;subst z;rw[e,b.no 3 k<|h];split;rename_i z;subst z;rw[e];split;rename_i z;subst z;rw[e];exact e;intro kind k
 have e:=b.ok kind k;unfold BZ;split;rename_i z;subst z;cases e3:S 3 k with
 |rc m ps =>
  show DL 1 (if _ then _ else _);split;exact bu 1;exact e
 |_ =>
  cases e1:S 1 k with
  |mk i =>
   show DL 1 (if _ then _ else _);rw[e1]at e;split;exact bu 1;exact e
  |_=>rw[e1]at e;exact e
 split;rename_i z;subst z;cases e1:S 2 k with
 |mk i =>
  show DL 2 (if _ then _ else _);rw[e1]at e;split;exact bu 1;exact e
 |_=>rw[e1]at e;exact e
 split;rename_i z;subst z;cases e1:S 3 k with
 |rc m ps =>
  show DL 3 (if _ then _ else _);split
  trivial
  trivial
 |_=>rw[e1]at e;exact e
 exact e
def bY{α :Type}{f g:Nat-> α}{m:Nat}(h:∀ k,k<m->f k=g k):(ο m).map f=(ο m).map g:=jf λk hk=>h k<|ak.mp hk
def zwx(b:InL n r c w S):mended (BK n r c w S)=BK n r c w (BZ n r c w S):=by
 unfold mended;rw[IQ,L4]
 have e1:(ο _).map (FM _)=(ο<|r*w).map λk=>KK (BZ n r c w S 3 k):=bY λk y=>by
  unfold FM BZ;rw[b.rc,M8];cases e:S 3 k with
  |rc m ps =>
   show(if ld _ S k=0 then none else some _)=KK _;split<;>rfl
  |_=>rfl
 have e2:(ο _).map (KJ _)=(ο<|r * w).map λk=>FA (BZ n r c w S 1 k):=bY λk y=>by
  unfold KJ BZ;rw[b.rc,b.rm,M8];cases e:S 3 k with
  |rc m ps =>
   show(if ld _ S k=0 then some 0 else FA _)=FA _;split<;>rfl
  |_ =>
   cases e1:S 1 k with
   |mk i =>
    show(if(some (i:Int))=some 1 then some 0 else some _)=FA (if i=1 then .mk 0 else .mk i);by_cases h:i=1;subst h;rfl;rw[if_neg h,if_neg (λz=>h (by exact cw<|ι z))];rfl
   |_=>rfl
 have e3:(ο _).map (MY _)=(ο<|c*w).map λk=>FA (BZ n r c w S 2 k):=bY λk y=>by
  unfold MY BZ;rw[b.pm];cases e1:S 2 k with
  |mk i =>
   show(if some (i:Int)=some 1/\G0 _ k=0 then some 0 else some _)=FA (if i=1/\G0 _ k=0 then .mk 0 else .mk i);by_cases h:i=1/\G0 (BK n r c w S) k=0;rw[if_pos h,if_pos {by rw[h.1];rfl,h.2}];rfl;rw[if_neg h,if_neg<|λz=>h {cw<|ι z.1,z.2}];rfl
  |_=>rfl
 rw[e1,e2,e3]
 rfl
def Dp(ok:EK (BK n r c w S))(h1:kind<5)(hk:k<BN n r c w kind):(DM<|BK n r c w S)[G4 n r c kind*w+k]? =some (Cz kind<|S kind k):=by
 unfold BN at hk;unfold G4;rcases kind with _|_|_|_|_|kind
 ·simp only[if_true,xk,vg]at hk ⊢;rw[bO JT hk,Dc,if_pos hk];rfl
 ·simp only[kg,if_false,if_true,vg,dq]at hk ⊢;rw[RX ok JT IQ L4 hk,Dh,if_pos hk];rfl
 ·simp only[kg,if_false,if_true,vg,zi,dq]at hk ⊢;rw[VU ok JT IQ L4 hk,Dj,if_pos hk];rfl
 ·simp only[kg,if_false,if_true,vg,zi]at hk ⊢;rw[OI JT IQ hk,Dd,if_pos hk];rfl
 ·simp only[kg,if_false,if_true,vg,zi,dq]at hk ⊢;rw[bP JT IQ L4 hk,Dg,if_pos hk];rfl
 ·lia
def zwy(hw:1<=w):BI n r c w kind k=(G4 n r c kind*w+k)/w/\k%w=(G4 n r c kind*w+k)%w:=by
 constructor;rw[di,om<|hw];rfl;rw[di,og]
def zwz(hf:f<(n+r+c+r+c)*w):∃ kind k,kind<5/\k<BN n r c w kind/\f=G4 n r c kind*w+k:=by
 simp only[dq]at hf;refine Bq (N:=n*w) (R:=r*w) (P:=c*w) (A:=λf=>∃ kind k,kind<5/\k<BN n r c w kind/\f=G4 n r c kind*w+k) (λh=>x2 0 f {by decide,h,by simp[G4]}) (λk h=>x2 3 k {by decide,h,rfl}) (λk h=>x2 4 k {by decide,h,by simp[G4,dq]}) (λk h=>x2 1 k {by decide,h,by simp[G4,dq]}) (λk h=>x2 2 k {by decide,h,by simp[G4,dq]}) hf
def Dq{α β :Type}{F: α -> β ->Prop}:∀ {l:List α} {m:List β},l.length=m.length->(∀ (i:Nat) x y,l[i]? =some x->m[i]? =some y->F x y)->Paired F l m
 | [],[],_,_=>.nil
 |x::l,y::m,h,f=>.cons (f 0 x y rfl rfl) (Dq (by simpa using h) λi a b e1 e2=>f (i+1) a b e1 e2)
 | [],_::_,h,_=>by simp at h
 |_::_,[],h,_=>by simp at h
def VW(P:PlankAt a H gp cl w rows m)(hw:1<=w)(rl:rows.length=n+r+c+r+c)(h1:kind<5)(hk:k<BN n r c w kind):∃ v,(rows[BI n r c w kind k]?).bind (λq=>q[k%w]?)=some v/\rows.flatten[G4 n r c kind*w+k]? =some v/\∃ q∈rows,v∈q:=by
 obtain⟨e1,e2⟩:=zwy      hw
 have A0:G4 n r c kind*w+k<(n+r+c+r+c)*w:=by
  refine aa (Nat.add_lt_add_left hk _) ?_;unfold BN;rw[<-dq];refine wq _ ?_;unfold G4;rcases kind with _|_|_|_|_|kind<;>simp<;>lia
 have hb:BI n r c w kind k<rows.length:=by rw[rl,e1];exact(vn<|hw).mpr A0
 have hj:k%w<w:=uo _<|hw
 have er:=θ hb
 have wl:=P.wd _<|η er
 have ej:=θ (show k%w<(rows[BI n r c w kind k]).length by rw[wl];exact hj)
 have e:(rows[BI n r c w kind k]?).bind (λq=>q[k%w]?)=some ((rows[BI n r c w kind k])[k%w]):=by rw[er];exact ej
 refine{_,e,?_,_,η er,η ej};rw[<-e,<-VR P.wd hb hj,e1,e2,Le]
def zw0(P:PlankAt a H gp cl w rows m)(hw:1<=w)(sz:n<=6/\r<=6/\c<=6/\w<=6/\rows.length=n+r+c+r+c)(few:c*w<=18)(gd:Q1 H rows)(R:RowsAre H n r c w rows S)(b:InL n r c w S)(s:Snd (n*w) S):EK (BK n r c w S):=by
 obtain⟨z1,z2,z3,z4,rl⟩:=sz
 have m6:∀ {x:Nat},x<=6->x*w<=36:=λ{x} h=>ii h z4;refine{λd hd=>?_,λd hd=>?_,λz hz=>?_,by simp[BK],by simp[BK],by rw[JT];exact oA (m6 z1) rfl,by rw[IQ];exact oA (m6 z2) rfl,by rw[L4];exact oA few rfl};obtain⟨k,hk,e⟩:=af.mp hd
 have hk:=ak.mp hk
 have e:=Dk   e;rw[IQ];refine u2 ?_<|s.rl b hk e;rintro y y ⟨hq,y⟩;refine{hq,?_};obtain⟨v,ev,y,q,hq1,hq2⟩:=VW    P hw rl (kind:=0)  (by decide) (hk)
 have rp:=R 0 k v (by decide) (hk) ev;rw[e]at rp;obtain⟨t,rfl,et⟩:=rp;obtain⟨xs,ex,y,hx⟩:=gd q hq1 _ hq2;rw[et]at ex;cases ex;exact hx _ ai;obtain⟨k,hk,e⟩:=af.mp hd;obtain⟨m,e3,y⟩:=Dl e
 have:=s.few b e3;exact{λp hp=>by rw[L4];exact this.1 p hp,oA (ψ this.2 few) rfl};obtain⟨k,hk,e⟩:=af.mp hz;obtain⟨v,ev,y,q,hq1,hq2⟩:=VW    P hw rl (kind:=4)  (by decide) (by simpa [BN]using hk)
 have rp:=R 4 k v (by decide) (by simpa [BN]using hk) ev;rw[(Dm e)]at rp;rw[rp]at hq2;exact gd q hq1 _ hq2
def RowsAre.plv{rows:t5}(R:RowsAre H n r c w rows S)(P:PlankAt a H gp cl w rows m)(hw:1<=w)(rl:rows.length=n+r+c+r+c)(b:InL n r c w S)(ok:EK (BK n r c w S)):PlV H rows n r c w (BK n r c w S):=by
 refine PlV.of (Dq ?_ λf v x e1 e2=>?_) JT IQ L4 ok;rw[OJ P.wd,Bp _ ok,JT,IQ,L4,rl];simp only[dq]
 have hf:=(ε.mp e1).1;rw[OJ P.wd,rl]at hf;refine u2 ?_<|zwz hf;rintro kind k ⟨h1,hk,rfl⟩;rw[Dp ok h1 hk]at e2;obtain⟨v',ev,ef,z⟩:=VW P hw rl h1 hk;obtain rfl:=ι e2;rw[e1]at ef;obtain rfl:=ι ef;exact(Db h1<|b.ok _ _).mp (R _ k v h1 hk ev)
def PlV.rows{gp cl:Addr}{m:Nat}{rows:t5}(L:PlV H rows n r c w (BK n r c w S))(P:PlankAt a H gp cl w rows m)(hw:1<=w)(rl:rows.length=n+r+c+r+c)(b:InL n r c w S):RowsAre H n r c w rows S:=λkind k v h1 hk ev=>by
 obtain⟨v',ev',ef,z⟩:=VW P hw rl h1 hk;rw[ev]at ev';obtain rfl:=ι ev';obtain⟨x,ex,hx⟩:=RK L.asC ef;rw[Dp L.ok h1 hk]at ex;obtain rfl:=ι ex;exact(Db h1<|b.ok _ _).mpr hx
def PlV.good{rows:t5}{vw:Vw}(L:PlV H rows n r c w vw):Q1 H rows:=λq hq v hv=>by
 obtain⟨f,hf⟩:=vo.mp<|List.mem_flatten.mpr ⟨q,hq,hv⟩;obtain⟨x,ex,hx⟩:=RK L.asC hf
 have ok:=bR L.ok x<|η ex;cases x with
 | nm d =>
  cases d with
  |none=>rw[hx];trivial
  |some d =>
   obtain⟨t,rfl,et⟩:=hx;exact⟨_,et,by simp,λu hu=>by
    simp only[ax,b_,or_false]at hu;rcases hu with rfl|rfl
    exact ok
    trivial⟩
 | rc d =>
  cases d with
  |none=>rw[hx];trivial
  |some d =>
   revert hx;apply u2;rintro t u ⟨rfl,et,eu⟩
   have hd:some d∈vw.rc:=by
    have:=η ex;unfold DM at this;simp only[ao,af,reduceCtorEq,and_false,exists_false,false_or,or_false,Cel.rc.injEq,exists_eq_right]at this;exact this
   exact⟨_,et,by simp,λx hx=>by
    simp only[ax,b_,or_false]at hx;rcases hx with rfl|rfl
    trivial
    refine{_,eu,by simp[AX];exact oA ((L.ok.n2 d hd).2) rfl,λy hy=>?_};obtain⟨i,z,rfl⟩:=af.mp hy
    trivial⟩
 |pc d =>
  cases d with
  |none=>rw[hx];trivial
  |some d=>rw[hx];exact ok
 |mk d =>
  cases d with
  |none=>rw[hx];trivial
  |some d=>rw[hx];trivial
end
def zw1(s:Snd m0 S):∃ o,Hist m0 S [] (LV []) o:={λz=>none,λz z=>s,λz z z z z=>rfl,λz z=>rfl,λz z z z z z z=>Re}
def Dv{Q:Addr->Hp->Prop}{E:XK}(G:Gnd K a H1 ly gp cl n r c w rows nn S)
  (q:∀ (X:SX) (H2:Hp),X.S.lp=ly->X.S.A.gp=gp->X.S.A.cl=cl->X.n=n->X.r=r->X.c=c->X.w=w->(∀ y o,H1 y=some o->y=cl\/¬ X.S.A.F y)->H1 X.S.tk=none->C6 a H2 X [] [] {S,[]}->Same H1 H2->Q X.S.st H2) :
  ∀ x dx,H1 x=none->H1 dx=none->dx≠x->NZ K a [.ref x,.ref ly,.ref gp] (upd (upd H1 dx<|.own x) x (.ins (a "Store") dx [])) (λv H2=>v=.non/\Q x H2) E:=λx dx hx R8 nd=>by
 have s0:Same H1 (upd (upd H1 dx<|.own x) x (.ins (a "Store") dx [])):=(AL R8).trans (AL (by rw[AG nd.symm];exact hx));refine OR x dx ly gp cl n r c w _ nn S {rfl,G.t4,AE,G.la.same s0,G.pl.same s0,G.sz,λq hq v hv=>(G.gd q hq v hv).keep s0.tk,λkind k v h1 hk hv=>(G.rw.keep s0.tk) _ k v h1 hk hv,λkind k z z=>G.bo.ok _ k,λS' H2 e1 e2 e3 e4 off ht I sb=>{rfl,?_}}
 have s2:Same H1 H2:=λy o e=>sb _ _ (s0 _ _ e) (BE e hx)
 have:=q {S',n,r,c,w,_,nn,λz=>false} H2 e2 e3 e4 rfl rfl rfl rfl (λy o e=>off y o<|s0 _ _ e) (by
  cases e:H1 _ with
  |none=>rfl
  |some o=>rw[s0 _ _ e]at ht;cases ht) {I,zw1 G.sd,G.bo,λk c ec=>by simp at ec,G.rw.keep s2.tk,G.few,λz h=>by simp at h,G.w1} s2
 rw[<-e1];exact this
def zw2(h:ZH K a vs H Q E):aP K a (λ_=>E) (AV Q) (AZ ["layout","plank","finds","due","find"] vs) H:=zws h
def Gnd.site(G:Gnd K a H ly gp cl n r c w rows nn S):Site K a H ly gp cl n r c w rows nn (BK n r c w S):=by
 obtain⟨z1,z2,z3,z4,z5⟩:=G.sz;exact{G.tv,G.t4.2.2.1,G.t4.2.1,G.la,G.pl,z5,G.rw.plv G.pl G.w1 z5 G.bo<|zw0 G.pl G.w1 G.sz G.few G.gd G.rw G.bo G.sd,G.w1,z4,z1,z2,z3}
example:(zw3,RF,yH,2):=by
 apply OT;rintro ly gp cl n r c w rows nn S ⟨rfl,G,q⟩;obtain⟨dl,el⟩:=G.la.ob;obtain⟨dp,ep⟩:=G.pl.ob;obtain⟨tc,ec,x⟩:=G.pl.ls
 have nly:¬ (ly=gp\/ly=cl):=λz=>by
  rcases z with z|z
  rw[z,ep]at el;injection el with z;injection z with _ _ z;exact absurd (congrArg lb z) (by simp[pf,lf])
  rw[z,ec]at el;cases el
 refine R9 ly gp cl n r c w _ nn _ {rfl,G.site,G.sd.fault G.bo,λfo rows2 H2 hfo F2 P2 D3 pv2 NE=>?_};rw[zwx G.bo]at pv2;refine Dv  {G.tv,G.t4,G.la.sb NE nly,P2,⟨G.sz.1,G.sz.2.1,G.sz.2.2.1,G.sz.2.2.2.1,D3⟩,G.few,G.w1,pv2.good,pv2.rows P2 G.w1 D3 G.bo.mended,G.bo.mended,G.sd.mended G.bo} λX H3 e1 e2 e3 e4 e5 e6 e7 off ht C s3=>?_
 have old:∀ y,H2 y=none->H y=none:=λy e=>by
  cases e':H y with
  |none=>rfl
  |some o =>
   by_cases z:y=gp\/y=cl;rcases z with z|z
   obtain⟨x,ep2⟩:=P2.ob;rw[z,ep2]at e;cases e;obtain⟨x,ec2,x⟩:=P2.ls;rw[z,ec2]at e;cases e;rw[NE _ _ e' z]at e;cases e
 refine q X H3 e1 e2 e3 e4 e5 e6 e7 (λy o e=>?_) (old _ ht) C (NE.trans<|Same.sb s3);by_cases z:y=gp\/y=cl;rcases z with z|z
 obtain⟨x,ep2⟩:=P2.ob;rw[z];exact off gp _ ep2;exact .inl z;exact off y o<|NE _ _ e z
def C6.gnd(I:C6 a H X cs tks M)(tv:TV K a)(t4:CL K a):Gnd K a H X.S.lp X.S.A.gp X.S.A.cl X.n X.r X.c X.w X.rows X.nn (sh M.b X.C M.as):={tv,t4,I.st.ly,I.st.bk.pk,I.st.sz,I.few,I.w1,I.st.gd.1,I.rows,I.inl _,I.snd}
def BV{M:Hs}{kind k:Nat}{x:CV}{nd:ad}:(M.put kind k x nd).f=M.f.put kind k x:=rfl
def CF{kind i k m:Nat}{S:Md}{x:CV}(h:i≠kind):cn kind m (S.put i k x)=cn kind m S:=by
 unfold cn
 congr 1
 funext j;rw[ED h.symm]
def JU{kind k:Nat}{S:Md}{x:CV}:∀ {m:Nat},k<m->cn kind m (S.put kind k x)+(if CQ kind (S kind k)then 0 else 1)=cn kind m S+(if CQ kind x then 0 else 1):=by
 intro m;unfold cn
 induction m with
 |zero=>intro h;lia
 |succ n ih =>
  intro h;rw[bz,ut,ut];simp only[wc,Ms];by_cases e:k=n;subst e
  have:(ο k).countP (λj=> !CQ _ ((S.put kind k x) _ j))=(ο k).countP (λj=> !CQ kind (S kind j)):=yy λj hj=>by
   rw[CK (by have:=ak.mp hj;omega)]
  rw[this,B8];cases CQ _ (S _ k)<;>cases CQ _ x<;>simp;rw[CK (λz=>e z.symm)]
  lia
def bZ{kind m:Nat}{S:Md}:cn kind m S<=m:=ψ List.countP_le_length (by rw[dw];exact υ _)
def b0{M:Hs}{kind m:Nat}:EI M kind m= -1↔cn kind m M.f=m:=by
 have:cn kind m M.f=m↔∀ k<m,CQ kind (M kind k)=false:=by
  unfold cn;rw[show((ο m).countP (λk=> !CQ _ _)=m)=((ο m).countP (λk=> !CQ _ _)=(ο m).length) by rw[dw],List.countP_eq_length];simp
 rw[this];unfold EI EH;constructor;intro h k hk;cases e:(ο m).find? (λk=>CQ _ _)with
 |none=>exact lj.mpr<|ko.mp e k<|ak.mpr hk
 |some j=>rw[e]at h;simp at h
 exact zX
def cA{c d:Nat}:∀ {ps:ad} {M:Hs},ps.Nodup->(∀ p∈ps,p<c/\M 2 p=.mk 1)->cn 2 c (M.unmark d ps).f+ps.length=cn 2 c M.f
 | [],_,_,_=>rfl
 |p::ps,M,hn,h=>by
  obtain⟨h1,h2⟩:=fq.mp hn;obtain⟨hp,e⟩:=h p ai
  have a2:=cA  (d:=d)  (M:=M.put 2 p (.mk 0) [d]) h2 λq hq=>⟨(h q<|ω _ hq).1,by
   rw[Hs.put_at,if_neg<|λ(z:2=2/\q=p)=>h1<|z.2 ▸ hq];exact(h q<|ω _ hq).2⟩
  have a1:=JU (kind:=2) (S:=M.f) (x:=.mk 0) hp;rw[e]at a1
  have a1:cn 2 c (M.put 2 p _ [d]).f+1=cn 2 c _+0:=a1
  show cn 2 c ((M.put 2 p _ _).unmark d ps).f+_=_;rw[dv]
  lia
def R0:∀ {ps:ad} {M:Hs},(M.unmark d ps).as=(ps.map λp=>({2,p,.mk 0,[d]}:AC)).reverse++M.as/\(M.unmark d ps).b=M.b
 | [],_=>⟨rfl,rfl⟩
 |p::ps,M=>by
  have:=R0 (d:=d) (ps:=ps) (M:=M.put 2 p (.mk 0) [d]);refine{?_,this.2};rw[ca,pz,gg];exact this.1
def OK{d i j:Nat}(h:i≠2):∀ {ps:ad} {M:Hs},(M.unmark d ps) i j=M i j
 | [],_=>rfl
 |p::ps,M=>(OK  h  (M:=M.put 2 p _ _)).trans (ED h)
def VX{κ β :Type}{k: κ}{v: β}{l:List (κ × β)}(nd:(l.map (·.1)).Nodup)(h:(k,v)∈l):∃ l1 l2,l=l1++(k,v)::l2/\∀ p∈l1++l2,p.1≠k:=by
 refine u2 ?_<|Gi h;rintro l1 l2 rfl;refine x2 l1 l2 {rfl,λp hp e=>?_};rw[χ]at nd
 have:=sx (f:=Prod.fst) hp;rw[e,χ]at this;exact(fq.mp<|wa.nodup_iff.mp nd).1 this
def Dw{κ β :Type}[DecidableEq κ]{k: κ}{v: β}{l1 l2:List (κ × β)}(h:∀ p∈l1++l2,p.1≠k):(l1++(k,v)::l2).filter (λp=>decide<|p.1≠k)=l1++l2:=by
 rw[jn,List.filter_cons_of_neg (by simp),<-jn];exact List.filter_eq_self.mpr λp hp=>decide_eq_true<|h p hp
def Dx{κ β :Type}{k: κ}{v v': β}{l:List (κ × β)}(nd:(l.map (·.1)).Nodup)(h:(k,v)∈l)(h':(k,v')∈l):v=v':=by
 refine u2 ?_<|VX nd h;rintro l1 l2 ⟨rfl,hn⟩;rcases ao.mp h' with z|z
 exact absurd rfl<|hn _<|cf _ z;rcases ax.mp z with z|z
 cases z;rfl;exact absurd rfl<|hn _<|bh _ z
section
variable{m0 m1 m2:Nat}{S:Md}{L:LD}{R:Sr}{pl:Int->Nat}{fr i:Int}{y z:Str}{rec cell m p:Nat}{ps:ad}{ts us:Xu}{l:Addr}
def Dy{x:CV}{q:Nat}(hc:cell<m0):(∃ k,k<m0/\(S.put 0 cell x) 0 k=.nm z q)↔(∃ k,k<m0/\k≠cell/\S 0 k=.nm z q)\/x=.nm z q:=by
 constructor;rintro ⟨k,hk,e⟩;by_cases h:k=cell;rw[h,B8]at e;exact .inr e;rw[CK h]at e;exact .inl ⟨k,hk,h,e⟩;rintro (⟨k,hk,h,e⟩|e);exact{k,hk,by rw[CK h];exact e};exact{_,hc,by rw[B8];exact e}
def Dz{q:Nat}(hc:cell<m0)(f0:S 0 cell=.no):(∃ k,k<m0/\(S.put 0 cell<|.nm y rec) 0 k=.nm z q)↔(∃ k,k<m0/\S 0 k=.nm z q)\/(z=y/\q=rec):=by
 rw[Dy hc];refine or_congr {(by rintro ⟨k,h,x,e⟩;exact⟨k,h,e⟩),(by rintro ⟨k,h,e⟩;exact{k,h,λw=>(by rw[w,f0]at e;cases e),e})} {λe=>by cases e;exact⟨rfl,rfl⟩,(by rintro ⟨e,e'⟩;rw[e,e'])}
def Eb{q:Nat}(D:Snd m0 S)(hc:cell<m0)(e0:S 0 cell=.nm y rec):(∃ k,k<m0/\(S.put 0 cell .no) 0 k=.nm z q)↔(∃ k,k<m0/\S 0 k=.nm z q)/\z≠y:=by
 rw[Dy hc];constructor;rintro (⟨k,hk,h,e⟩|e);exact{⟨k,hk,e⟩,λw=>h<|D.un k _ z q _ hk hc e<|w ▸ e0};cases e;rintro ⟨⟨k,hk,e⟩,h⟩;exact .inl {k,hk,λw=>h (by rw[w,e0]at e;cases e;rfl),e}
def Mt.of(T:Mt m0 m1 m2 S L R pl)(B:Bk L R fr)(hy:(y,i)∈L):∃ l ts ps,(i,l,ts)∈R/\S 3 (pl i)=.rc (ct L i) ps/\Paired (λp t=>S 4 p=.tx t) ps ts:=by
 obtain⟨⟨i',l,ts⟩,he,rfl⟩:=B.lr _ hy;obtain⟨ps,e3,P⟩:=T.rc _ he;exact x3 l ts ps ⟨he,e3,P⟩
def cB{j:Int}:ct (L++[(z,i)]) j=ct L j+if j=i then 1 else 0:=by
 unfold ct;rw[χ,yz,ca,xg,List.count_singleton];by_cases h:j=i;rw[if_pos h,if_pos (by simpa using h.symm)];rw[if_neg h,if_neg (by simpa using λw=>h w.symm)]
def R3{j:Int}(nd:(L.map (·.1)).Nodup)(h:(y,i)∈L):ct (C8 L y) j+(if j=i then 1 else 0)=ct L j/\(C8 L y).length+1=L.length:=by
 refine u2 ?_<|VX nd h;rintro l1 l2 ⟨rfl,hn⟩;unfold C8 ct;rw[Dw hn];simp only[χ,ca,yz,A_];by_cases e:j=i;simp;lia
 have:(i==j)=false:=by simpa using λw=>e w.symm
 simp[e,this];lia
def M9{p:Str × Int}:p∈C8 L y↔p∈L/\p.1≠y:=by
 unfold C8;rw[cj,decide_eq_true_eq]
def Mt.make(T:Mt m0 m1 m2 S L R pl)(B:Bk L R fr)(D:Snd m0 S)(hr:rec<m1)(hc:cell<m0)(f1:CQ 1 (S 1 rec)=true)(f0:S 0 cell=.no):Mt m0 m1 m2 (((S.put 1 rec<|.mk 1).put 3 rec (.rc 1 [])).put 0 cell (.nm y rec)) (L++[(y,fr)]) (R++[(fr,l,[])]) (λi=>if i=fr then rec else pl i):=by
 have kr:=λe he=>Iz<|B.lt e he
 have kl:∀ p∈L,p.2≠fr:=λp hp e=>by
  obtain⟨e',he,ee⟩:=B.lr p hp;exact kr e' he<|ee.trans e
 have np:∀ e∈R,pl _≠rec:=λe he z=>by
  obtain⟨ps,e3,v⟩:=T.rc e he;rw[<-z,D.mr _ _ _ e3]at f1;cases f1
 refine{λz q=>(Dz  hc f0).trans {λh=>?_,λhzz=>?_},λe he=>?_,λe he e' he' h=>?_,?_,?_,?_};rcases h with h|⟨rfl,rfl⟩
 obtain⟨i,h,e⟩:=(T.ld z q).mp h;exact{i,cf _ h,by rw[if_neg (kl _ h)];exact e};exact{fr,by simp,if_pos rfl};obtain⟨i,h,e⟩:=hzz;rcases ao.mp h with h|h
 rw[if_neg (kl _ h)]at e;exact .inl<|(T.ld z q).mpr ⟨i,h,e⟩;cases ρ.mp h;rw[if_pos rfl]at e;exact .inr ⟨rfl,e.symm⟩;rcases ao.mp he with he|he
 obtain⟨ps,e3,P⟩:=T.rc e he;refine{ps,?_,P};rw[if_neg (kr e he),cB,if_neg<|kr e he,ED (by decide),CK<|np e he];exact e3;cases ρ.mp he
 have:ct L fr=0:=Gn.mpr λh=>by
  obtain⟨p,hp,e⟩:=af.mp h;exact kl p hp e
 refine{[],?_,.nil};rw[if_pos rfl,cB,if_pos rfl,this,ED (by decide),B8];rcases ao.mp he with he|he<;>rcases ao.mp he' with he'|he'
 rw[if_neg (kr e he),if_neg<|kr e' he']at h;exact T.ij e he e' he' h;cases ρ.mp he';rw[if_neg (kr e he),if_pos rfl]at h;exact absurd h<|np e he;cases ρ.mp he;rw[if_neg (kr e' he'),if_pos rfl]at h;exact absurd h.symm<|np e' he';cases ρ.mp he;cases ρ.mp he'
 rfl
 have:=JU (kind:=0) (S:=(S.put 1 rec<|.mk 1).put 3 rec (.rc 1 [])) (x:=.nm y rec) hc;rw[show((S.put 1 _ _).put 3 _ _) 0 _=.no from f0]at this;rw[ae,<-T.c0];exact this
 have:=JU (kind:=1) (S:=S) (x:=.mk 1) hr;rw[f1,T.c1]at this;rw[ae];exact this;rw[CF (by decide),CF (by decide),CF (by decide),T.c2];unfold EV;rw[χ,Nf];rfl
def Mt.link(T:Mt m0 m1 m2 S L R pl)(B:Bk L R fr)(hc:cell<m0)(f0:S 0 cell=.no)(hy:(y,i)∈L)(e3:S 3 (pl i)=.rc m ps):Mt m0 m1 m2 ((S.put 3 (pl i) (.rc (m+1) ps)).put 0 cell (.nm z<|pl i)) (L++[(z,i)]) R pl:=by
 refine u3 ?_<|T.of B hy;rintro l ts ps' ⟨hi,e3',P⟩;rw[e3]at e3';refine{λz' q=>(Dz  hc f0).trans {λh=>?_,λhzz=>?_},λe he=>?_,T.ij,?_,?_,?_}
 ·rcases h with h|⟨rfl,rfl⟩
  obtain⟨j,h,e⟩:=(T.ld z' q).mp h;exact{j,cf _ h,e};exact{i,by simp,rfl}
 ·obtain⟨j,h,e⟩:=hzz;rcases ao.mp h with h|h
  exact .inl<|(T.ld z' q).mpr ⟨j,h,e⟩;cases ρ.mp h;exact .inr ⟨rfl,e.symm⟩
 obtain⟨ps1,e1,P1⟩:=T.rc e he;refine{_,?_,P1};rw[cB,ED (by decide)];by_cases h:e.1=i;rw[if_pos h,h,B8];rw[h,e3]at e1;cases e1;rfl;rw[if_neg h,CK λw=>h<|T.ij e he _ hi w];exact e1
 have:=JU (kind:=0) (S:=S.put 3 (pl i) (.rc (ct L i+1) ps)) (x:=.nm z<|pl i) hc;rw[show(S.put 3 _ _) 0 _=.no from f0]at this;rw[ae,<-T.c0];exact this;rw[CF (by decide),CF (by decide),T.c1];rw[CF (by decide),CF (by decide),T.c2]
def Mt.less(T:Mt m0 m1 m2 S L R pl)(D:Snd m0 S)(B:Bk L R fr)(hc:cell<m0)(hy:(y,i)∈L)(e0:S 0 cell=.nm y (pl i))(e3:S 3 (pl i)=.rc (m+1) ps):Mt m0 m1 m2 ((S.put 0 cell .no).put 3 (pl i) (.rc m ps)) (C8 L y) R pl:=by
 refine u3 ?_<|T.of B hy;rintro l ts ps' ⟨hi,e3',P⟩;rw[e3]at e3';injection e3' with em ep;refine{λz q=>(Eb  D hc e0).trans {λhzz=>?_,λhzz=>?_},λe he=>?_,T.ij,?_,?_,?_}
 obtain⟨h,n⟩:=hzz;obtain⟨j,h,e⟩:=(T.ld z q).mp h;exact{j,M9.mpr ⟨h,n⟩,e};obtain⟨j,h,e⟩:=hzz;obtain⟨h,n⟩:=M9.mp h;exact{(T.ld z q).mpr ⟨j,h,e⟩,n};obtain⟨ps1,e1,P1⟩:=T.rc e he
 have:=(R3 (j:=e.1) B.ln hy).1;refine{_,?_,P1};by_cases h:e.1=i;rw[h,e3]at e1;rw[h,B8];injection e1 with e1 e2
 rw[e2,(by lia:ct _ i=m)];rw[if_neg h]at this;rw[CK λw=>h<|T.ij e he _ hi w,ED (by decide),e1,<-this];rfl
 have:=JU (kind:=0) (S:=S) (x:=.no) hc;rw[e0,T.c0,<-(R3 (j:=i) B.ln hy).2]at this;exact Ds this;rw[CF (by decide),CF (by decide),T.c1];rw[CF (by decide),CF (by decide),T.c2]
def VY{α β :Type}{F G: α -> β ->Prop}:∀ {l:List α} {m:List β},Paired F l m->(∀ x y,x∈l->F x y->G x y)->Paired G l m
 |_,_,.nil,_=>.nil
 |_,_,.cons a t,h=>.cons (h _ _ ai a) (VY t λx y hx=>h x y<|ω _ hx)
def VZ{R1 R2:Sr}:EV (R1++R2)=EV R1+EV R2:=by unfold EV;rw[χ,Nf]
def V0{e:RE}:EV (e::R)=e.2.2.length+EV R:=by unfold EV;rw[ca,Fe]
def zw4(nd:(R.map (·.1)).Nodup)(h:(i,l,ts)∈R):EV (E4 R i us)+ts.length=EV R+us.length:=by
 refine u2 ?_<|VX nd h;rintro l1 l2 ⟨rfl,hn⟩
 have e:∀ {l:Sr},(∀ p∈l,p.1≠i)->E4 l i us=l:=λ{l} h=>(jf λp hp=>if_neg<|h p hp).trans (List.map_id' l)
 have:E4 (l1++(i,l,ts)::l2) i us=l1++(i,l,us)::l2:=by
  unfold E4 at e ⊢;rw[χ,ca,e λp hp=>hn p<|cf _ hp,e λp hp=>hn p<|bh _ hp,if_pos rfl]
 rw[this,VZ,VZ,V0,V0]
 lia
def Mt.drop{S':Md}(T:Mt m0 m1 m2 S L R pl)(D:Snd m0 S)(B:Bk L R fr)(hc:cell<m0)(hy:(y,i)∈L)(e0:S 0 cell=.nm y (pl i))(h1:ct L i<=1)(hi:(i,l,ts)∈R)(a0:∀ k,S' 0 k=(S.put 0 cell .no) 0 k)(a3:∀ k,k≠pl i->S' 3 k=S 3 k)(a4:∀ k,S' 4 k=S 4 k)(b1:cn 1 m1 S'+1=cn 1 m1 S)(b2:cn 2 m2 S'+ts.length=cn 2 m2 S):Mt m0 m1 m2 S' (C8 L y) (EM (C8 L y) R i) pl:=by
 have cg:=R3 (j:=i) B.ln hy
 have no:i∉(C8 L y).map (·.2):=Gn.mp (by have:=cg.1;unfold ct at this h1;lia);refine u2 ?_<|VX B.rn hi;rintro l1 l2 ⟨eR,hn⟩
 have mem:∀ e,e∈EM _ R i->e∈R/\e.1≠i:=λe he=>by
  unfold EM at he;rw[if_neg no,cj,decide_eq_true_eq]at he;exact he
 have eg:EM (C8 L y) R i=l1++l2:=by
  unfold EM;rw[if_neg no,eR,Dw hn]
 refine{λz q=>?_,λe he=>?_,λe he e' he' h=>T.ij e (mem e he).1 e' (mem e' he').1 h,?_,?_,?_};simp only[a0];refine(Eb  D hc e0).trans {λhzz=>?_,λhzz=>?_};obtain⟨h,n⟩:=hzz;obtain⟨j,h,e⟩:=(T.ld z q).mp h;exact{j,M9.mpr ⟨h,n⟩,e};obtain⟨j,h,e⟩:=hzz;obtain⟨h,n⟩:=M9.mp h;exact{(T.ld z q).mpr ⟨j,h,e⟩,n};obtain⟨he,hne⟩:=mem e he
 have:=(R3 (j:=e.1) B.ln hy).1;obtain⟨ps1,e1,P1⟩:=T.rc e he;rw[if_neg hne]at this;refine{_,?_,Paired.mapP P1 λp t x=>by rw[a4];exact x};rw[a3 _ λw=>hne<|T.ij e he _ hi w,e1,<-this];rfl
 have:=JU (kind:=0) (S:=S) (x:=.no) hc;rw[e0,T.c0,<-cg.2]at this;unfold cn at this ⊢;simp only[a0];exact Ds this;rw[T.c1,eR]at b1;rw[eg];simp at b1 ⊢
 lia
 rw[T.c2,eR,VZ,V0]at b2;rw[eg,VZ]
 lia
def Mt.txt{S':Md}{ps':ad}(T:Mt m0 m1 m2 S L R pl)(B:Bk L R fr)(hi:(i,l,ts)∈R)(a0:∀ k,S' 0 k=S 0 k)(a1:cn 1 m1 S'=cn 1 m1 S)(a3:∀ k,k≠pl i->S' 3 k=S 3 k)(e3:S' 3 (pl i)=.rc (ct L i) ps')(P:Paired (λp t=>S' 4 p=.tx t) ps' us)(a4:∀ q m ps,S 3 q=.rc m ps->q≠pl i->∀ p∈ps,S' 4 p=S 4 p)(b2:cn 2 m2 S'+ts.length=cn 2 m2 S+us.length):Mt m0 m1 m2 S' L (E4 R i us) pl:=by
 have mem:∀ e,e∈E4 R i us->∃ e'∈R,e.1=e'.1/\(e'.1=i/\e.2.2=us\/e'.1≠i/\e=e'):=λe he=>by
  obtain⟨e',he',rfl⟩:=af.mp he;by_cases h:e'.1=i;rw[if_pos h];exact{e',he',rfl,.inl ⟨h,rfl⟩};rw[if_neg h];exact{e',he',rfl,.inr ⟨h,rfl⟩}
 refine{λz q=>?_,λe he=>?_,λe he e' he' h=>?_,?_,?_,?_};simp only[a0];exact T.ld z q;obtain⟨e',he',ee,h|h⟩:=mem e he;rw[ee,h.1,h.2];exact⟨_,e3,P⟩;obtain⟨ps1,e1,P1⟩:=T.rc e' he'
 have ne:=λw=>h.1<|T.ij e' he' _ hi w;rw[h.2];exact{_,by rw[a3 _ ne];exact e1,VY P1 λp t hp x=>by rw[a4 _ _ _ e1 ne p hp];exact x};obtain⟨e1,h1,w1,y⟩:=mem e he;obtain⟨e2,h2,w2,y⟩:=mem e' he';rw[w1,w2]at h ⊢;exact T.ij e1 h1 e2 h2 h;unfold cn;simp only[a0];exact T.c0;rw[a1,T.c1];unfold E4;rw[ζ]
 have:=zw4 (us:=us) B.rn hi;rw[T.c2]at b2
 lia
def cC{α :Type}{f: α ->AM × V}{x: α}:∀ {l:List α},(l.map λx=>(f x).1).Nodup->x∈l->BF (l.map f) (f x).1=some (f x).2
 |w::l,nd,h=>by
  obtain⟨n1,n2⟩:=fq.mp nd;rcases ax.mp h with rfl|h
  exact G9 rfl;rw[ca,HA λe=>n1<|af.mpr ⟨x,h,e.symm⟩];exact cC n2 h
def cD{α :Type}{f: α ->AM × V}{l:List α}{k:AM}:(BF (l.map f) k).isSome=true↔∃ x∈l,(f x).1=k:=by
 rw[<-J3,e_];constructor;rintro ⟨p,hp,e⟩;obtain⟨x,hx,rfl⟩:=af.mp hp;exact{x,hx,of_decide_eq_true e};rintro ⟨x,hx,e⟩;exact{_,sx hx,decide_eq_true e}
def zw5(nd:(L.map (·.1)).Nodup):(L.map λp=>((.inr p.1,.int p.2):AM × V).1).Nodup:=gj.mpr<|(gj.mp nd).imp λh e=>h<|Ls e
def zw6(nd:(R.map (·.1)).Nodup):(R.map λe=>((.inl e.1,.ref e.2.1):AM × V).1).Nodup:=gj.mpr<|(gj.mp nd).imp λh e=>h<|Br e
def JV(nd:(L.map (·.1)).Nodup)(h:(z,i)∈L):BF (lK L) (.inr z)=some (.int i):=cC  (zw5 nd) h
def NA(nd:(R.map (·.1)).Nodup)(h:(i,l,ts)∈R):BF (rK R) (.inl i)=some (.ref l):=cC  (zw6 nd) h
def NB:has L z=true↔∃ i,(z,i)∈L:=by
 unfold has lK;rw[cD];constructor;rintro ⟨⟨y,i⟩,h,e⟩;cases e;exact⟨i,h⟩;rintro ⟨i,h⟩;exact⟨_,h,rfl⟩
def R4(h:∀ i,(z,i)∉L):BF (lK L) (.inr z)=none:=by
 cases e:BF (lK L) _ with
 |none=>rfl
 |some v =>
  obtain⟨i,hi⟩:=NB.mp (show has L z=true by unfold has;rw[e];rfl);exact absurd hi<|h i
def Ec(h:∀ e∈R,e.1≠i):BF (rK R) (.inl i)=none:=by
 cases e:BF (rK R) _ with
 |none=>rfl
 |some v =>
  obtain⟨x,hx,w⟩:=cD.mp (show(BF _ _).isSome=true by unfold rK at e;rw[e];rfl);exact absurd (Br w) (h x hx)
def zw7:J2 (lK L) (.inr y)=lK (C8 L y):=by
 unfold J2 lK C8;rw[Au]
 congr 2
 funext p;simp
def zw8:J2 (rK R) (.inl i)=rK (R.filter λe=>decide<|e.1≠i):=by
 unfold J2 rK;rw[Au]
 congr 2
 funext p;simp
def cE{p:Prop}[Decidable p]{a b c:String}(n:a≠c)(h:(if p then a else b)=c):¬ p/\b=c:=by
 split at h;exact absurd h n;exact{‹_›,h}
def zw9{n0 n1 n2 kind nt:Nat}{x:Int}(B:Bk L R fr)(hn:U9 L R y nt)(h:GO n0 n1 n2 L R kind y z x nt=""):∃ g ts,U8 L R kind y z x g ts:=by
 obtain⟨h1,h⟩:=cE (by decide) h;obtain⟨h2,h⟩:=cE (by decide) h
 have nw:=λhk i hi=>h1 {hk,NB.mpr ⟨i,hi⟩};by_cases hy:has L y=true;obtain⟨g,hg⟩:=NB.mp hy;obtain⟨⟨g',l,ts⟩,he,e1,e2⟩:=hn _ hg rfl;cases e1;exact⟨g,ts,nw,λv=>hg,λv=>⟨l,he⟩,λh5=>by
  rw[e2];exact I_.mp λw=>((cE (by decide) h).1) ⟨h5,w⟩⟩
 have hk:=λw=>h2 {w,lj.mpr hy};exact x2 0 [] {nw,λw=>absurd w hk,λw=>absurd w hk,λw=>by lia}
end
def Ed{p:Addr}{i:Int}{l:Zu}{b:Bool}{Q:VK}(h:SqL K H p (l.map V.int)\/SqT K H p (l.map V.int))(q:Q (.bl<|if b=true then !decide (i∈l)else decide (i∈l)) H):PK K b (.int i) (.ref p) H Q:=by
 refine x2 p _ {rfl,h,rfl,?_,?_};rw[iu];intro v hv;obtain⟨z,y,rfl⟩:=af.mp hv
 rfl
 have:NM (.int i) (l.map V.int)=decide (i∈l):=by
  unfold NM;rw[oa,List.any_map,e_,decide_eq_true_eq];refine{λhzz=>?_,λh=>{i,h,by simp[G8]}};obtain⟨x,hx,e⟩:=hzz
  have:x=i:=by simpa [G8]using e
  rw[<-this];exact hx
 rw[this];exact q
def Eg{d:Addr}{kvs:tZ}{is:Zu}{te:TE}{AY:ad}{σ:St}{F:Obj->VK}(e:H d=some (.dK kvs))(hl:kvs.length<=100)(hi:is.length=kvs.length)
  (st:∀ (n:Nat) k i o (P:VK),(kvs.map (·.1))[n]? =some k->is[n]? =some i->P (.int i) (upd H d<|.frz o<|.dK kvs)->te (some (kV k)::C1 AY σ) (upd H d<|.frz o<|.dK kvs) P)
  (q:∀ o p H2,H2 d=some (.frz o<|.dK kvs)->Same H (upd H2 d<|.dK kvs)->upd H2 d (.dK kvs) p=some (.lst<|is.map V.int)->F o (.ref p) H2):∀ o,DU (LE d o kvs) (AF 0) CG te 1 AY σ (upd H d<|.frz o<|.dK kvs) (F o):=by
 refine λo=>zbp (jz (CJ _ (by lia))) (λn ys H'=>H'=upd H d _/\ys=(is.take n).map V.int) ⟨rfl,rfl⟩ (λz z z z h=>by rw[h.1,AE]) (λn k v ys H' ek hn hzz=>?_) (λys H' hn hzz p hp=>?_);obtain⟨rfl,e2⟩:=hzz
 have ei:=θ (by rw[hi];exact(ε.mp ek).1);refine st n k _ o _ (by rw[τ,ek];rfl) ei {rfl,?_};rw[e2,dz,ei,χ];rfl;obtain⟨rfl,e3⟩:=hzz
 have hpd:p≠d:=λe=>by rw[e,AE]at hp;cases hp
 refine q o p _ (by rw[AG hpd.symm,AE]) (λb ob eb=>?_) ?_;by_cases hb:b=d;rw[hb,AE,<-e,<-hb,eb];rw[AG hb,AG (BE eb (by rw[AG hpd]at hp;exact hp)),AG hb];exact eb;rw[AG hpd,AE,e3,<-hi,ce]
example:(zxa,VB,Z4,4,h):=by
 revert h;refine u6 ?_;rintro d rr L R y g ⟨rfl,ed,er,ne,ln,rn,hl,hy,⟨⟨g',l,ts⟩,he,rfl⟩,q⟩;push_cast[Z4,↓sP_,P8];refine{.inl {_,.inl ed},_,ed,_,rfl,.int g',JV ln hy,?_};rw[zw7]
 have e1:upd H d (.dK<|lK<|C8 L y) d=_:=AE
 have r1:upd H d (.dK<|lK<|C8 L y) rr=_:=(AG ne.symm).trans er
 have s1:SameBut (λx=>x=d\/x=rr) H (upd H d<|.dK<|lK<|C8 L y):=λb o e n=>by rw[AG λz=>n<|.inl z];exact e
 revert e1 r1 s1;intro e1 r1 s1;push_cast[↓sR_];refine{_,e1,Eg (is:=(C8 L y).map (·.2)) e1 (by unfold lK;rw[ζ];exact(ψ (fm ..) hl)) (by unfold lK;rw[ζ,ζ]) (λn k i o P ek ei q=>?_) λo p H2 h2 s2 ep=>{h2,?_}};rw[τ,au]at ei;obtain⟨⟨z,j⟩,ez,rfl⟩:=ei;unfold lK at ek;rw[ff,τ,ez]at ek;obtain rfl:=ι ek;exact{_,.inl<|x2 _ _ {.inr ⟨o,AE⟩,rfl,(JV (ln.sublist<|(sy).map _) (η ez)).symm},q};revert s2 ep;generalize upd H2 d _=H2;refine λs2 ep=>Ed (.inl<|SqL.of ep) ?_
 have NE:SameBut (λx=>x=d\/x=rr) H H2:=λb o e n=>s2 _ _<|s1 _ _ e n;unfold EM at q;by_cases hi:g'∈(C8 L y).map (·.2);rw[if_pos hi]at q;exact CI (by simpa using hi) (q H2 (s2 _ _ e1) (s2 _ _ r1) NE);rw[if_neg hi]at q;refine CM (by simpa using hi) ?_;push_cast[↓sQ_,P8];refine{.inl {_,.inl<|s2 _ _ r1},_,s2 _ _ r1,_,rfl,{_,NA rn he},?_};rw[zw8];exact q _ (by rw[AG ne];exact s2 _ _ e1) AE λb o e n=>by rw[AG λz=>n<|.inr z];exact NE _ _ e n
section
variable{st d rr:Addr}{L:LD}{R:Sr}{fr g:Int}{kind:Nat}{y z t:Str}{x:Int}{ts:Xu}
def SAt.same{H':Hp}(S:SAt H st d rr L R fr)(s:Same H H'):SAt H' st d rr L R fr:={s _ _ S.s,s _ _ S.dl,s _ _ S.dr,λe he=>{s _ _ (S.e e he).1,(S.e e he).2},S.ne,S.ap,S.bk}
def SAt.sb{G:Addr->Prop}{H':Hp}(S:SAt H st d rr L R fr)(s:SameBut G H H')(n:∀ x,EL st d rr R x->¬ G x):SAt H' st d rr L R fr:={s _ _ S.s<|n _<|.inl rfl,s _ _ S.dl<|n _<|.inr<|.inl rfl,s _ _ S.dr<|n _<|.inr<|.inr<|.inl rfl,λe he=>{s _ _ (S.e e he).1 (n _<|.inr<|.inr<|.inr ⟨e,he,rfl⟩),(S.e e he).2},S.ne,S.ap,S.bk}
def WA:lK L++[(.inr y,.int g)]=lK (L++[(y,g)]):=by unfold lK;rw[χ];rfl
def R5:(rK R).length=R.length:=ζ _
def OL:(lK L).length=L.length:=ζ _
def SAt.apart(S:SAt H st d rr L R fr){e:RE}(he:e∈R):e.2.1≠d/\e.2.1≠rr/\st≠d/\st≠rr:=by
 have:=(S.e e he).1
 have s:=S.s;exact{λw=>(by rw[w,S.dl]at this;cases this),λw=>(by rw[w,S.dr]at this;cases this),λw=>(by rw[w,S.dl]at s;cases s),λw=>(by rw[w,S.dr]at s;cases s)}
def Eh{us:Xu}:(E4 R g us).map (·.1)=R.map (·.1)/\(E4 R g us).map (·.2.1)=R.map (·.2.1):=by
 unfold E4;rw[ff,ff];exact{jf λe z=>by simp only[o_];split<;>rfl,jf λe z=>by simp only[o_];split<;>rfl}
def WB{us:Xu}{e:RE}:e∈E4 R g us->∃ e'∈R,e.1=e'.1/\e.2.1=e'.2.1/\(e'.1=g/\e.2.2=us\/e'.1≠g/\e=e'):=λhe=>by
 obtain⟨e',he',rfl⟩:=af.mp he;by_cases h:e'.1=g;rw[if_pos h];exact{e',he',rfl,rfl,.inl ⟨h,rfl⟩};rw[if_neg h];exact{e',he',rfl,rfl,.inr ⟨h,rfl⟩}
def Bk.set{us:Xu}(B:Bk L R fr):Bk L (E4 R g us) fr:=by
 refine{B.ln,by rw[Eh.1];exact B.rn,λp hp=>?_,λe he=>?_,B.nk};obtain⟨e,he,ee⟩:=B.lr p hp;exact{_,sx he,by split<;>exact ee};obtain⟨e',he',w,z⟩:=WB he;rw[w];exact B.lt e' he'
def SAt.set{us:Xu}{l:Addr}(S:SAt H st d rr L R fr)(hi:(g,l,ts)∈R)(hu:∀ t∈us,cy t=true):SAt (upd H l<|.lst<|us.map V.str) st d rr L (E4 R g us) fr:=by
 have ap:=S.apart hi
 have nd:∀ e∈R,e.1≠g->e.2.1≠l:=λe he h w=>by
  refine u2 ?_<|Gi hi;rintro l1 l2 rfl
  have a:=S.ap;rw[χ]at a;refine(fq.mp<|wa.nodup_iff.mp a).1 ?_;rw[<-χ];refine af.mpr {e,?_,w};rcases ao.mp he with z|z
  exact cf _ z;rcases ax.mp z with z|z
  subst z;exact absurd rfl h;exact bh _ z
 refine{by rw[AG (S.ne.2 _ hi).symm];exact S.s,by rw[AG ap.1.symm];exact S.dl,?_,λe he=>?_,{S.ne.1,λe he=>?_},by rw[Eh.2];exact S.ap,S.bk.set}
 have:rK (E4 R g us)=rK R:=by
  unfold rK E4;rw[ff];exact jf λe y=>by simp only[o_];split<;>rfl
 rw[AG ap.2.1.symm,this];exact S.dr;obtain⟨e',he',w1,w2,h|h⟩:=WB he
 have:e'=(g,l,ts):=Prod.ext h.1 (Dx S.bk.rn    (by rw[<-h.1];exact he') hi);rw[w2,h.2,this,AE];exact⟨rfl,hu⟩;rw[h.2,AG<|nd e' he' h.1];exact S.e e' he';obtain⟨e',he',w1,w2,y⟩:=WB he;rw[w2];exact S.ne.2 e' he'
def Bk.name(B:Bk L R fr)(hz:∀ i,(z,i)∉L)(kz:cy z=true)(hg:∃ e∈R,e.1=g):Bk (L++[(z,g)]) R fr:=by
 refine{?_,B.rn,λp hp=>?_,B.lt,λp hp=>?_};rw[χ,gi];refine{B.ln,by simp,λp hp q hq e=>?_}
 have:q=z:=by simpa using hq
 obtain⟨⟨p1,p2⟩,h,rfl⟩:=af.mp hp;exact hz p2 (by rw[<-this,<-e];exact h);rcases ao.mp hp with h|h
 exact B.lr p h;cases ρ.mp h;exact hg;rcases ao.mp hp with h|h
 exact B.nk p h;cases ρ.mp h;exact kz
def Bk.gone(B:Bk L R fr):Bk (C8 L y) (EM (C8 L y) R g) fr:=by
 have sub:(EM (C8 L y) R g).Sublist R:=by
  unfold EM;split;exact .refl _;exact sy
 refine{B.ln.sublist<|(sy).map _,B.rn.sublist<|sub.map _,λp hp=>?_,λe he=>B.lt e<|sub.subset he,λp hp=>B.nk p (M9.mp hp).1};obtain⟨e,he,w⟩:=B.lr p (M9.mp hp).1;refine{e,?_,w};unfold EM;split;exact he;rename_i h;exact cj.mpr {he,decide_eq_true λz=>h (af.mpr {p,hp,by rw[<-w];exact z})}
end
section
variable{st d rr:Addr}{L:LD}{R:Sr}{fr g:Int}{y z:Str}
def Ej{α β :Type}{f: α -> β}:∀ {l:List α} {k:Nat},(l.eraseIdx k).map f=(l.map f).eraseIdx k
 | [],_=>rfl
 |_::_,0=>rfl
 |x::l,k+1=>congrArg _<|Ej  
def Ek(S:SAt H st d rr L R fr)(hz:∀ i,(z,i)∉L)(kz:cy z=true)(hg:∃ e∈R,e.1=g):SAt (upd H d<|.dK<|lK<|L++[(z,g)]) st d rr (L++[(z,g)]) R fr:=by
 have s0:=S.s;exact{by rw[AG λw=>by rw[w,S.dl]at s0;cases s0];exact s0,AE,by rw[AG S.ne.1.symm];exact S.dr,λe he=>by rw[AG (S.apart he).1];exact S.e e he,S.ne,S.ap,S.bk.name hz kz hg}
def El{P:VK}(S:SAt H st d rr L R fr)(hl:L.length<=100)(hy:(y,g)∈L)(q:∀ H',SAt H' st d rr (C8 L y) (EM (C8 L y) R g) fr->SameBut (EL st d rr R) H H'->P .non H'):VB K a [.ref d,.ref rr,.str y] H P E:=by
 have s0:=S.s
 have sub:∀ e∈EM (C8 L y) R g,e∈R:=λe he=>by
  unfold EM at he;split at he;exact he;exact(cj.mp he).1
 refine x6 d rr L R y g {rfl,S.dl,S.dr,S.ne.1,S.bk.ln,S.bk.rn,hl,hy,S.bk.lr _ hy,λH' e1 e2 sb=>q H' {sb _ _ s0 λw=>?_,e1,e2,λe he=>?_,{S.ne.1,λe he=>S.ne.2 e<|sub e he},?_,S.bk.gone} λb o e n=>sb _ _ e λw=>n<|w.elim (λw=>.inr<|.inl w) λw=>.inr<|.inr<|.inl w};rcases w with w|w
 rw[w,S.dl]at s0;cases s0;rw[w,S.dr]at s0;cases s0;obtain⟨a1,a2,z⟩:=S.apart<|sub e he;exact{sb _ _ (S.e e<|sub e he).1 λw=>w.elim a1 a2,(S.e e<|sub e he).2};unfold EM;split;exact S.ap;exact S.ap.sublist<|(sy).map _
end
example:(zxb,ZM,vI,9,h):=by
 revert h;refine Gw ?_;rintro st d rr L R fr kind y z t x g ts ⟨rfl,S,⟨f1,f2,f3⟩,hk,⟨oy,oz,ht⟩,M,q⟩
 have B:=S.bk;refine{_,SqL.of S.s,rfl,?_};push_cast[↓vH_];unfold G2 HH p9 at q;by_cases k2:(kind:Int)<2
 have k2':kind<2:=by lia
 simp only[if_pos k2']at q;refine CM k2 ?_
 have hy:=M.nw (.inl (by lia));rw[if_pos k2']at hy;refine{_,pS S.dl (by rw[OL];lia),?_};rw[K2 _ (R4 hy),WA];refine{by decide,λl hl=>?_}
 have nl:l≠d:=λw=>by rw[w,AE]at hl;cases hl
 have hl':H l=none:=by rw[AG nl]at hl;exact hl
 have old:∀ {b:Addr} {o:HO},H b=some o->b≠l:=λe=>BE e hl'
 have s0:=S.s
 have dn:st≠d/\st≠rr:={λw=>(by rw[w,S.dl]at s0;cases s0),λw=>(by rw[w,S.dr]at s0;cases s0)}
 refine{_,pI (by rw[AG (old S.dr),AG S.ne.1.symm];exact S.dr) (by rw[R5];lia),?_};rw[K2 _ (Ec λe he=>Iz<|B.lt e he),show rK R++[(.inl fr,.ref l)]=rK (R++[(fr,l,[])]) by unfold rK;rw[χ];rfl];refine x4 st _ 2 2 {rfl,rfl,by rw[AG dn.2,AG<|old s0,AG dn.1];exact s0,rfl,(q l _ (λv=>hl') {AE,by rw[AG dn.1.symm,AG S.ne.1,AG nl.symm,AE],by rw[AG dn.2.symm,AE],λe he=>?_,{S.ne.1,λe he=>?_},?_,?_} λb o e n=>by rw[AG λw=>n<|.inl w,AG λw=>n<|.inr<|.inr<|.inl w,AG<|old e,AG λw=>n<|.inr<|.inl w];exact e)};rcases ao.mp he with he|he
 obtain⟨a1,a2,v⟩:=S.apart he;rw[AG (S.ne.2 e he),AG a2,AG<|old (S.e e he).1,AG a1];exact S.e e he;cases ρ.mp he;rw[AG (old s0).symm,AG (old S.dr).symm,AE];exact{rfl,by simp};rcases ao.mp he with he|he
 exact S.ne.2 e he;cases ρ.mp he;exact(old s0).symm;rw[χ,gi];refine{S.ap,by simp,λp hp q hq e=>?_}
 have:q=l:=by simpa using hq
 obtain⟨e',he',rfl⟩:=af.mp hp;exact old (S.e e' he').1 (e.trans this)
 have kr:∀ e∈R++[(fr,l,[])],e.1<fr+1:=λe he=>by
  rcases ao.mp he with he|he
  ·have:=B.lt e he;lia
  ·cases ρ.mp he;show fr<fr+1;lia
 refine Bk.name (fr:=fr+1) {B.ln,?_,λp hp=>?_,kr,B.nk} hy oy {_,bh _ ai,rfl};rw[χ,gi];refine{B.rn,by simp,λp hp q hq e=>?_}
 have:q=fr:=by simpa using hq
 obtain⟨e',he',rfl⟩:=af.mp hp;exact Iz (B.lt e' he') (e.trans this);obtain⟨e,he,w⟩:=B.lr p hp;exact{e,cf _ he,w}
 have k2':¬ kind<2:=by lia
 have hy:=M.th (by lia);obtain⟨l,hi⟩:=M.tx (by lia)
 have el:=S.e _ hi
 have tl:=f3 _ hi
 have sb:∀ us,SameBut (EL st d rr R) H (upd H l<|.lst us):=λus b o e n=>by rw[AG λw=>n<|.inr<|.inr<|.inr ⟨_,hi,w⟩];exact e
 simp only[if_neg k2']at q;refine CI k2 ?_;push_cast[↓vG_];by_cases k3:(kind:Int)=2
 have k3':kind=2:=by lia
 simp only[if_pos k3']at q;refine CM k3 ?_
 have hz:=M.nw (.inl (by lia));rw[if_neg k2']at hz;refine{_,LB S.dl<|JV B.ln hy,_,pS S.dl (by rw[OL];lia),?_};rw[K2 _ (R4 hz),WA];exact q d _ (λw=>absurd w k2') (Ek S hz oz ⟨_,hi,rfl⟩) λb o e n=>by rw[AG λw=>n<|.inr<|.inl w];exact e
 have k3':¬ kind=2:=by lia
 simp only[if_neg k3']at q;refine CI k3 ?_;push_cast[↓vF_];by_cases k5:(kind:Int)<5;refine CM k5 ?_;push_cast[↓uY_]
 have n5:kind<5:=by lia
 have n6:kind<6:=by lia
 simp only[if_pos n5,if_pos n6]at q;refine{_,LB S.dl<|JV B.ln hy,_,QK S.dr<|NA B.rn hi,.inl {rfl,_,SqL.of el.1},_,el.1,CJ _ (by rw[ζ];lia),?_}
 have:=S.set (us:=ts++[t]) hi λu hu=>(ao.mp hu).elim (el.2 u) λw=>by rw[ρ.mp w];exact ht
 rw[χ]at this;exact q d _ (λw=>absurd w k2') this (sb _)
 have n5:¬ kind<5:=by lia
 refine CI k5 ?_;push_cast[↓vE_];by_cases k6:(kind:Int)=5
 ·refine CM k6 ?_;push_cast[↓uZ_]
  have n6:kind<6:=by lia
  have k5':kind=5:=by lia
  simp only[if_neg n5,if_pos n6,if_pos k5']at q;obtain⟨x0,x1⟩:=M.at5 (by lia);obtain⟨k,rfl⟩:=zj x0
  have hk':k<ts.length:=by lia
  refine{_,LB S.dl<|JV B.ln hy,_,QK S.dr<|NA B.rn hi,.inl {rfl,_,SqL.of el.1},x5 l _ k k (.str ts[k]) {rfl,rfl,el.1,by lia,by lia,?_,by rw[τ,θ hk'];rfl,?_}}
  ·unfold Jo;rw[ζ];simp
   lia
  have:=S.set (us:=ts.eraseIdx k) hi λu hu=>el.2 u<|List.mem_of_mem_eraseIdx hu;rw[Ej]at this;exact q d _ (λw=>absurd w k2') this (sb _)
 refine CI k6 ?_;push_cast[↓vB_]
 have n6:¬ kind<6:=by lia
 have k5':¬ kind=5:=by lia
 simp only[if_neg n5,if_neg n6,if_neg k5']at q;by_cases k7:(kind:Int)=6
 ·have hz:=M.nw (.inr (by lia));rw[if_neg k2']at hz;refine CM k7 ?_;push_cast[↓vA_];refine{_,LB S.dl<|JV B.ln hy,_,pS S.dl (by rw[OL];lia),?_};rw[K2 _ (R4 hz),WA]
  have k7':kind=6:=by lia
  simp only[if_pos k7']at q;push_cast[↓vC_];refine El (Ek S hz oz ⟨_,hi,rfl⟩) (by rw[ae];show _+1<=_;lia) (cf _ hy) λH' S' s'=>q d H' (λw=>absurd w k2') S' λb o e n=>s' _ _ (by rw[AG λw=>n<|.inr<|.inl w];exact e) n
 ·refine CI k7 ?_
  have k7':¬ kind=6:=by lia
  simp only[if_neg k7']at q;push_cast[↓vC_];exact El S (by lia) hy λH' S' s'=>q d H' (λw=>absurd w k2') S' s'
def WC{ns:Zu}{i:Int}{Q:VK}(q:∀ H',Same H H'->Q (.bl<|decide<|i∈ns) H'):∀ p,H p=none->MH K (.int i) (.ref p) (upd H p<|.tup<|ns.map V.int) Q:=λp hp=>Ed (.inr<|SqT.of AE) (q _<|AL hp)
def cF{p:Addr}{ts:Xu}(e:H p=some (.lst<|ts.map V.str)):O3 K (.ref p) H ts.length:=.inl {_,SqL.of e,(ζ _).symm}
def WD{t:Addr}{xs:Tr}{i p w m:Nat}{P:VK}(et:H t=some (.tup xs))(e1:xs[i]? =some (.int p))(e3:xs[3]? =some (.int w))(hp:p<=3)(hw:w<=6)(q:P (.bl<|decide<|m=p*w) H):BR K (.ref t) (.int i) H λx H1=>BR K (.ref t) (.int 3) H1 λy H2=>DP K x y H2 λy2 H3=>B7 K (.int m) y2 H3 P:=by
 refine BB et  rfl e1 (BB et  rfl e3 ?_);push_cast[];refine{.inl {by lia,by lia},?_};rw[(ud p w).symm,decide_eq_decide.mpr Ov];exact q
def Em:∀ {R:Sr},(R.map λe=>(e.2.2.length:Int)).sum=(EV R:Nat)
 | []=>rfl
 |e::R=>by rw[ca,Fe,Em,V0];lia
def zxc{F:Str->Prop}{c:Prop}[Decidable c]{x y:Str}(h:∀ u,u=(if c then x else y)->F u):if c then F x else F y:=by
 split;exact h _ (if_pos ‹_›).symm;exact h _ (if_neg ‹_›).symm
def WE{c:Prop}[Decidable c]{A B:Prop}(h:c->B->A)(b:B):if c then A else B:=by
 split;exact h ‹_› b;exact b
example:(zxd,ZL,sO,11,h):=by
 revert h;refine OU ?_;rintro st d rr t L R fr n r c w kind y z ⟨x,nt,rfl,S,⟨f1,f2,f3⟩,et,⟨hn,hr,hc,hw⟩,hk,hnt,q⟩
 have B:=S.bk;refine{_,SqL.of S.s,rfl,?_};push_cast[↓sG_];refine{by decide,WC (ns:=[2,6]) λH1 s1=>?_};refine zxc (F:=λu=>sI K a _ _ _ [_,_,_,_,_,_,_,_,_,some _,none] H1) λu hu=>?_
 have k34:(kind:Int)∈[3,4]↔(kind=3\/kind=4):=by simp;lia
 have hu:(kind<3\/kind=6)->u=if kind<2 then y else z:=λh=>by
  rw[hu];by_cases k2:kind<2;rw[if_pos k2,if_neg (by simp;lia)];rw[if_neg k2,if_pos (by simp;lia)]
 have kN:(kind:Int)∈[0,1,2,6]↔(kind<3\/kind=6):=by simp;lia
 unfold GO at q
 have hd:∀ (z:Str) {H':Hp},Same H H'->DGet H' d _ (BF (lK L) (.inr z)):=λz v s=>dS<|s _ _ S.dl;refine{by decide,WC (ns:=[0,1,2,6]) λH2 s2=>?_};replace s2:=s1.trans s2;push_cast[];by_cases c1:(kind<3\/kind=6)/\has L (if kind<2 then y else z)=true;refine CM (kN.mpr c1.1) {_,hd u s2,CM (by rw[hu c1.1];exact c1.2) ?_};simp only[if_pos c1]at q;exact q _ s2;simp only[if_neg c1]at q;refine WE (λh b=>{_,hd u s2,CI (λw=>c1 {kN.mp h,by rw[<-hu (kN.mp h)];exact w}) b}) ?_;push_cast[↓sJ_];by_cases c2:1<kind/\has L y=false;refine CM (by lia) {_,hd y s2,CM c2.2 ?_};simp only[if_pos c2]at q;exact q _ s2;simp only[if_neg c2]at q;refine WE (λh b=>{_,hd y s2,CI (λw=>c2 {by lia,w}) b}) ?_
 have ty:1<kind->∃ g l ts,(y,g)∈L/\(g,l,ts)∈R/\ts.length=nt:=λk=>by
  obtain⟨g,hg⟩:=NB.mp (by cases e:has L y with|true=>rfl|false=>exact absurd ⟨k,e⟩ c2:has L y=true);obtain⟨⟨g',l,ts⟩,he,w,e⟩:=hnt _ hg rfl;cases w;exact x3 g l ts ⟨hg,he,e⟩
 push_cast[↓sK_];by_cases c3:kind=5/\¬ (0<=x/\x<nt);refine u3 ?_ (ty (by lia));rintro g l ts ⟨hg,he,e⟩;simp only[if_pos c3]at q;refine CM (by lia) ?_;by_cases x0:0<=x;exact CM x0 {_,LB (s2 _ _ S.dl) (JV B.ln hg),_,QK (s2 _ _ S.dr) (NA B.rn he),ts.length,cF<|s2 _ _ (S.e _ he).1,CM (by lia) (q _ s2)};exact CI x0<|q _ s2;simp only[if_neg c3]at q;refine WE (λh b=>?_) ?_;refine u3 ?_ (ty (by lia));rintro g l ts ⟨hg,he,e⟩
 have  :=I_.mp λw=>c3 {by lia,w};exact CM this.1 {_,LB (s2 _ _ S.dl) (JV B.ln hg),_,QK (s2 _ _ S.dr) (NA B.rn he),ts.length,cF<|s2 _ _ (S.e _ he).1,CI (by lia) b}
 have et2:=s2 _ _ et
 have tail:∀ b:Bool,b=decide (kind<2/\R.length=r * w)->Z1 K a (λv=>E) (λv=>E) { nx:=AH (Z2 K a (λv=>E) λv=>E) (Z3 K a (λv=>E) λv=>E) (AV Q),rt:=Q,bk:=(AV Q).bk,ct:=(AV Q).ct } [some (.ref st),some<|.ref t,some<|.int kind,some<|.str y,some<|.str z,some<|.int x,some<|.ref d,some<|.ref rr,some<|.int fr,some<|.str u,some<|.bl b] H2:=λb hb=>by
  push_cast[↓Z1_];refine{by decide,WC (ns:=[0,1,2,6]) λH3 s3=>?_};push_cast[]
  have et3:=s3 _ _ et2
  have s3':=s2.trans s3;by_cases c4:(kind<3\/kind=6)/\(kind<2/\R.length=r*w\/L.length=n*w)
  ·simp only[if_pos c4]at q;refine CM (kN.mpr c4.1) ?_;push_cast[↓sM_];by_cases hb':b=true
   ·exact CM hb'<|q _ s3'
   ·refine CI hb'<|YC (s3 _ _<|s2 _ _ S.dl) (WD et3 (i:=0) rfl rfl hn hw (CM ?_<|q _ s3'));rw[OL,decide_eq_true_eq];exact c4.2.resolve_left λw=>hb' (by rw[hb];exact decide_eq_true w)
  simp only[if_neg c4]at q;refine WE (λh b'=>CI (λw=>?_) (YC (s3 _ _<|s2 _ _ S.dl) (WD et3 (i:=0) rfl rfl hn hw (CI ?_ b')))) ?_
  ·rw[hb,decide_eq_true_eq]at w;exact c4 {kN.mp h,.inl w}
  ·rw[OL,decide_eq_true_eq];exact λw=>c4 {kN.mp h,.inr w}
  push_cast[↓Z2_,↓Z3_];refine{by decide,WC (ns:=[3,4]) λH4 s4=>?_};push_cast[]
  have s5:=s3'.trans s4;by_cases k3:kind=3\/kind=4
  ·refine CM (k34.mpr k3) {_,s5 _ _ S.dr,Eg (is:=R.map λe=>(e.2.2.length:Int)) (s5 _ _ S.dr) (by rw[R5];lia) (by rw[R5,ζ]) (λm k i o P ek ei q=>?_) λo p H6 h6 s6 ep=>{h6,x2 p _ {rfl,SqL.of ep,?_}}}
   ·rw[τ,au]at ei;obtain⟨⟨j,l,ts⟩,ez,rfl⟩:=ei;unfold rK at ek;rw[ff,τ,ez]at ek;cases ek
    have he:=η ez
    have nl:l≠rr:=(S.apart he).2.1;push_cast[C1];exact{_,.inl<|x2 _ (.inl j) {.inr ⟨o,AE⟩,rfl,(NA B.rn he).symm},ts.length,cF (by rw[AG nl];exact s5 _ _ (S.e _ he).1),q}
   ·revert s6;generalize upd H6 rr _=H6;intro s6
    have hs:(R.map λe=>(e.2.2.length:Int)).sum=(EV R:Nat):=Em;rw[hs];refine WD ((s4.trans s6) _ _ et3) (i:=2) rfl rfl hc hw ?_;rw[YL];by_cases c5:EV R=c*w
    ·simp only[if_pos (show(kind=3\/kind=4)/\EV R=c*w from⟨k3,c5⟩)]at q;refine CM (decide_eq_true c5) ?_;push_cast[↓sN_];exact q _<|s5.trans s6
    ·simp only[if_neg (show ¬ ((kind=3\/kind=4)/\EV R=c*w)from λw=>c5 w.2)]at q;exact CI (by simpa using c5) (q _<|s5.trans s6)
  ·simp only[if_neg (show ¬ ((kind=3\/kind=4)/\EV R=c*w)from λw=>k3 w.1)]at q;exact CI (λw=>k3<|k34.mp w) (q _ s5)
 push_cast[↓sL_];by_cases k2:(kind:Int)<2;refine CM k2<|YC (s2 _ _ S.dr) (WD et2 (i:=1) rfl rfl hr hw (tail _ ?_));rw[R5];exact decide_eq_decide.mpr {λw=>{by lia,w},λw=>w.2};exact CI k2 (tail false (by simp;lia))
def WF{z:Str}(h:BY z=true):z.length<=8/\cy z=true:=by
 unfold BY at h;simp only[cb,decide_eq_true_eq]at h;refine{h.1.2,?_};unfold cy;rw[<-we,iu];intro c hc
 have:=iu.mp h.2 c hc;unfold Q3 at this
 lia
def Ep{z:Str}(h:HG z=true):z.length<=40/\cy z=true:=by
 unfold HG at h;simp only[cb,decide_eq_true_eq]at h;refine{h.1.2,?_};unfold cy;rw[<-we,iu];intro c hc
 have:=iu.mp h.2 c hc;unfold LP at this
 lia
def Ev{α β :Type}{P: α -> β ->Prop}:∀ {l:List α} {m:List β} {k:Nat},Paired P l m->Paired P (l.eraseIdx k) (m.eraseIdx k)
 |_,_,_,.nil=>.nil
 |_,_,0,.cons y r=>r
 |_,_,k+1,.cons y r=>.cons y<|Ev r
def cG{L:LD}{kind:Nat}{y z:Str}{b:Bool}(k:kind<2)(h:has L y=b):(kind<3\/kind=6)/\has L (if kind<2 then y else z)=true↔b=true:=by rw[if_pos k,h];exact{λw=>w.2,λw=>{.inl (by lia),w}}
def R6{L:LD}{kind:Nat}{y z:Str}{b:Bool}(k1:¬ kind<2)(k:kind=2\/kind=6)(h:has L z=b):(kind<3\/kind=6)/\has L (if kind<2 then y else z)=true↔b=true:=by rw[if_neg k1,h];exact{λw=>w.2,λw=>{k.imp (λw=>by lia) id,w}}
def IT{L:LD}{kind:Nat}{y:Str}{b:Bool}(k1:¬ kind<2)(h:has L y=b):1<kind/\has L y=false↔b=false:=by rw[h];exact{λw=>w.2,λw=>{by lia,w}}
example:(zxe,ZN,aY,7,h):=by
 revert h;refine OU ?_;rintro X cs tks M L R fr pl kind y z t x nt ⟨rfl,T4,TX,I,hcs,hk,ny,nz,pt,B,T,hnt,q⟩;push_cast[aY,↓yP_];obtain⟨dx,ho⟩:=I.st.ob;obtain⟨o,hi⟩:=I.hi
 have len:=I.st.la.len;push_cast[↓zB_]
 have sd:=I.now
 have few:=I.few
 have ly:=WF ny
 have lz:=WF nz
 have lt:=Ep pt
 have no:∀ {z:Str},cellOf M X.m0 z=none->has L z=false:=λ{z} h=>lj.mpr λw=>by
  obtain⟨i,hi⟩:=NB.mp w;obtain⟨k,hk,e⟩:=(T.ld z _).mpr ⟨i,hi,rfl⟩;exact RZ h k _ hk e
 have yes:∀ {z:Str} {k:Nat},cellOf M X.m0 z=some k->has L z=true:=λ{z k} h=>by
  obtain⟨hk,r,e⟩:=Ak h;obtain⟨i,hi,n⟩:=(T.ld z r).mp ⟨k,hk,e⟩;exact NB.mpr ⟨i,hi⟩
 have r0:EI M 0 X.m0= -1↔L.length=X.m0:=by rw[b0,T.c0]
 have r1:EI M 1 (X.r*X.w)= -1↔R.length=X.r*X.w:=by rw[b0,T.c1]
 have r2:EI M 2 (X.c*X.w)= -1↔EV R=X.c*X.w:=by rw[b0,T.c2]
 have pg:∀ {cell rec:Nat} {g:Int},cell<X.m0->M 0 cell=.nm y rec->(y,g)∈L->pl g=rec:=λ{cell rec g} hc e0 hg=>by
  obtain⟨k,hk,e⟩:=(T.ld y<|pl g).mpr ⟨g,hg,rfl⟩
  have:=sd.un k cell y (pl g) rec hk hc e e0;subst this;rw[show M.f 0 k=M 0 k from rfl,e0]at e;cases e;rfl
 have bad:∀ {c s:String},(c="NoName"/\s="name"\/c="Twice"/\s="twice"\/c="NoPiece"/\s="piece"\/c="NoRoom"/\s="room")->IK X L R kind y z x nt=s->∀ H',Same H H'->J6 (λcls=>fk K cls<|.ref<|a "NoName") (aX K a (λn=>E) λn=>E) (J6 (λcls=>fk K cls<|.ref<|a "Twice") (aW K a (λn=>E) λn=>E) (J6 (λcls=>fk K cls<|.ref<|a "NoPiece") (aV K a (λn=>E) λn=>E) (J6 (λcls=>fk K cls<|.ref<|a "NoRoom") (aU K a (λn=>E) λn=>E) XO))) (.ref<|a c) { nx:=VH K a (λn=>E) (λn=>E) (AV Q),rt:=Q,bk:=(AV Q).bk,ct:=(AV Q).ct } [some (.ref X.S.st),some<|.int kind,some<|.str y,some<|.str z,some<|.str t,some<|.int x,some<|.str<|bw ""] H':=λ{c s} hc hd H' s'=>by
  have fin:=q cs tks M H' (I.same s') (by lia) (λn=>T) (λw=>absurd (hd.symm.trans w) (by rcases hc with⟨_,rfl⟩|⟨_,rfl⟩|⟨_,rfl⟩|⟨_,rfl⟩<;>decide)) (Same.sb s');rw[hd]at fin;rcases hc with⟨rfl,rfl⟩|⟨rfl,rfl⟩|⟨rfl,rfl⟩|⟨rfl,rfl⟩
  ·refine .inl {TX.n1,?_};push_cast[↓aX_,↓VH_];exact fin
  ·refine .inr {TX.t1,.inl {TX.t2,?_}};push_cast[↓aW_,↓VH_];exact fin
  ·refine .inr {TX.p1,.inr {TX.p2,.inl {TX.p3,?_}}};push_cast[↓aV_,↓VH_];exact fin
  ·refine .inr {TX.r1,.inr {TX.r2,.inr {TX.r3,.inl {TX.r4,?_}}}};push_cast[↓aU_,↓VH_];exact fin
 have good:∀ {ex:Rr} {tks':tZ} {M':Hs} {H':Hp} {d:Nat},ex.length=d->d+cn 2 (X.c*X.w) M'<=cn 2 (X.c*X.w) M+4->X.at a H' (cs++ex) tks' M'->(∃ o,Hist X.m0 M'.b M'.as (LV tks') o)->M'.b=M.b->(∃ es,M'.as=es++M.as/\∀ x∈es,DL x.kind x.x)->IK X L R kind y z x nt=""->(∀ g ts l,U8 L R kind y z x g ts->∃ pl',MX X M' (HH L fr g kind y z) (G2 L R fr g kind y z t x l ts) pl')->SameBut (λx=>X.S.A.F x\/x=X.S.tk) H H'->VH K a (λn=>E) (λn=>E) (AV Q) [some (.ref X.S.st),some<|.int kind,some<|.str y,some<|.str z,some<|.str t,some<|.int x,some<|.str<|bw ""] H':=λhl hd I' h3 h4 h5 h6 h7 sb=>by
  have fin:=q _ _ _ _ (I.more I' sb h3 h4 h5) (by rw[ae,hl];lia) (λw=>absurd h6 w) (λn=>h7) sb;rw[h6]at fin;push_cast[↓VH_];exact fin
 push_cast[↓zA_];by_cases k1:(kind:Int)<2
 ·have k1':kind<2:=by lia
  refine CM k1 ?_;push_cast[↓yQ_];refine x2 _ _ {ho,B3,x5 X cs tks M y {rfl,T4,I.st,by lia,by lia,λn hc rec cell er ec hr BC ex v H' hl n n I' sb=>?_,λw=>absurd (ny.symm.trans w) (by decide),λn ⟨k,hc⟩ H' s=>bad (.inr<|.inl ⟨rfl,rfl⟩) (if_pos<|(cG k1'<|yes hc).mpr rfl) H' s,λn hc h H' s=>bad (.inr<|.inr<|.inr ⟨rfl,rfl⟩) ?_ H' s}}
  ·have f0:=bV (OD ec)
   have f1:=OD er;refine good hl ?_ I' ?_ rfl {[_,_,_],rfl,by simp[DL]} ?_ (λg ts l n=>?_) sb
   ·rw[BV,BV,BV,CF (by decide),CF (by decide),CF (by decide)];lia
   ·have:=hi.make (z:=y) (nd:=(cs.length+1)::E8 tks y) BC f0 (RZ hc) (Cy (kind:=1) f1) (by rw[len];simp) λj h=>ω _<|bU h;rw[<-len]at this;exact⟨_,this⟩
   ·refine(if_neg λw=>by cases (cG k1'<|no hc).mp w).trans ((if_neg (by lia)).trans ((if_neg (by lia)).trans ((if_neg ?_).trans (if_neg (by lia)))));rintro ⟨n,⟨n,w⟩|w⟩
    ·have:=r1.mpr w;lia
    ·have:=r0.mpr w;lia
   ·simp only[HH,G2,if_pos k1'];exact{_,T.make B sd hr BC f1 f0}
  ·refine(if_neg λw=>by cases (cG k1'<|no hc).mp w).trans ((if_neg (by lia)).trans ((if_neg (by lia)).trans (if_pos {.inl (by lia),h.imp (λw=>{k1',r1.mp w}) r0.mp})))
 have k1':¬ kind<2:=by lia
 refine CI k1 ?_;push_cast[↓yZ_]
 have nw:(kind=2\/kind=6)->cellOf M X.m0 z=none->cellOf M X.m0 y=none->IK X L R kind y z x nt="name":=λk h1 h2=>(if_neg λw=>by cases (R6 k1' k<|no h1).mp w).trans (if_pos<|(IT k1'<|no h2).mpr rfl)
 have rm:∀ {e:Nat},(kind=2\/kind=6)->cellOf M X.m0 z=none->cellOf M X.m0 y=some e->EI M 0 X.m0= -1->IK X L R kind y z x nt="room":=λk h1 h2 h=>(if_neg λw=>by cases (R6 k1' k<|no h1).mp w).trans ((if_neg λw=>by cases (IT k1'<|yes h2).mp w).trans ((if_neg (by lia)).trans (if_pos {k.imp (λw=>by lia) id,.inr<|r0.mp h})))
 have ok:∀ {e c:Nat},(kind=2\/kind=6)->cellOf M X.m0 z=none->cellOf M X.m0 y=some e->EI M 0 X.m0=c->IK X L R kind y z x nt="":=λ{e c} k h1 h2 h=>(if_neg λw=>by cases (R6 k1' k<|no h1).mp w).trans ((if_neg λw=>by cases (IT k1'<|yes h2).mp w).trans ((if_neg (by lia)).trans ((if_neg λ⟨_,w⟩=>by
  have:=r0.mpr<|w.resolve_left λw=>k1' w.1
  lia).trans (if_neg (by lia)))))
 by_cases k2:(kind:Int)=2
 ·have k2':kind=2:=by lia
  refine CM k2 ?_;push_cast[↓yR_];refine x2 _ _ {ho,B3,x6 X cs tks M y z {rfl,T4,I.st,by lia,by lia,by lia,λn n hc old rec cell eo hol e0=>?_,λw=>absurd w (by rw[ny,nz];decide),λn n ⟨k,hc⟩ H' s=>bad (.inr<|.inl ⟨rfl,rfl⟩) (if_pos<|(R6 k1' (.inl k2') (yes hc)).mpr rfl) H' s,λn n h1 h2 H' s=>bad (.inl ⟨rfl,rfl⟩) (nw (.inl k2') h1 h2) H' s,λn n h1 ⟨_,h2⟩ h H' s=>bad (.inr<|.inr<|.inr ⟨rfl,rfl⟩) (rm (.inl k2') h1 h2 h) H' s}};refine u2 ?_<|I.rl hol e0;rintro m ps ⟨hr,e3⟩;refine{hr,x2 m ps {e3,by have:=(I.ps e3).2;lia,λec BC ex v H' hl n n I' sb=>?_}}
  have f0:=bV<|OD ec;refine good hl ?_ I' {_,hi.link (z:=z) (nd:=cs.length::E8 tks z) BC f0 (RZ hc) e3 (by rw[len];simp) λj h=>ω _<|bU h} rfl {[_,_],rfl,by simp[DL]} (ok (.inl k2') hc eo ec) (λg ts l Y=>?_) sb
  ·rw[BV,BV,CF (by decide),CF (by decide)];lia
  ·have hg:=Y.th (by lia);obtain rfl:=pg hol e0 hg;simp only[HH,G2,if_neg k1',if_pos k2'];exact{pl,T.link B BC f0 hg e3}
 have k2':¬ kind=2:=by lia
 refine CI k2 ?_;push_cast[↓yY_]
 have c1:kind<6\/kind=7->¬ ((kind<3\/kind=6)/\has L (if kind<2 then y else z)=true):=λh w=>by lia
 by_cases k3:(kind:Int)<5
 ·have k5':kind<5:=by lia
  refine CM k3 ?_;push_cast[↓yS_];refine x2 _ _ {ho,B3,x6 X cs tks M y t {rfl,T4,I.st,by lia,lt.2,by lia,λcell rec ec BC e0 n p ep hp=>?_,λhc H' s=>bad (.inl ⟨rfl,rfl⟩) ((if_neg (c1 (by lia))).trans (if_pos<|(IT k1'<|no hc).mpr rfl)) H' s,λn w=>absurd (pt.symm.trans w) (by decide),λ⟨_,hc⟩ n h H' s=>bad (.inr<|.inr<|.inr ⟨rfl,rfl⟩) ((if_neg (c1 (by lia))).trans ((if_neg λw=>by cases (IT k1'<|yes hc).mp w).trans ((if_neg (by lia)).trans ((if_neg (by lia)).trans (if_pos {by lia,r2.mp h}))))) H' s}};refine u2 ?_<|I.rl BC e0;rintro m ps ⟨hr,e3⟩
  have p2:=(I.ps e3).2
  have f2:=OD ep;refine{hr,x2 m ps {e3,by lia,λex v H' hl n n I' sb=>good hl ?_ I' ?_ rfl {[_,_,_],rfl,by simp[DL]} ((if_neg (c1 (by lia))).trans ((if_neg λw=>by cases (IT k1'<|yes ec).mp w).trans ((if_neg (by lia)).trans ((if_neg (by lia)).trans (if_neg λw=>by have:=r2.mpr w.2;lia))))) (λg ts l Y=>?_) sb}}
  ·have:=JU (kind:=2) (S:=M.f) (x:=.mk 1) hp;rw[BV,BV,BV,CF (by decide),CF (by decide)]
   have:(if CQ 2 (.mk 1)=true then 0 else 1)=1:=rfl
   lia
  ·have:=hi.put (x:=t) (Cy (kind:=2) f2) e3;rw[<-len]at this;exact⟨_,this⟩
  ·have hg:=Y.th (by lia);obtain⟨l',hR⟩:=Y.tx (by lia);obtain rfl:=pg BC e0 hg;obtain⟨ps',e3',P⟩:=T.rc _ hR;rw[show M.f 3 (pl g)=M 3 (pl g)from rfl,e3]at e3';cases e3'
   have k6':kind<6:=by lia
   simp only[HH,G2,if_neg k1',if_neg k2',if_pos k5',if_pos k6']
   have nu:∀ q m ps,M 3 q=.rc m ps->∀ p'∈ps,p'≠p:=λq m ps e p' hp' w=>by
    have:=(sd.pm q m ps e p' hp').1;rw[w]at this;rw[show M.f 2 p=M 2 p from rfl]at this;rw[this]at f2;cases f2
   refine{pl,T.txt B hR (λk=>rfl) ?_ (λk hk=>?_) B8 (LZ (VY P λp' u hp' e=>?_) (.cons ?_ .nil)) (λq m ps e n p' hp'=>?_) ?_}
   ·rw[BV,BV,BV,CF (by decide),CF (by decide),CF (by decide)]
   ·rw[BV,CK hk];rfl
   ·rw[BV,ED (by decide),BV,CK<|nu _ _ _ e3 p' hp'];exact e
   ·rw[BV,ED (by decide),BV,B8]
   ·rw[BV,ED (by decide),BV,CK<|nu q m ps e p' hp'];rfl
   ·have:=JU (kind:=2) (S:=M.f) (x:=.mk 1) hp;rw[f2]at this;rw[BV,BV,BV,CF (by decide),CF (by decide),ae]
    have:(if CQ 2 (.mk 1)=true then 0 else 1)=1:=rfl
    show _+ts.length=_+(ts.length+1);simp only[if_true]at *
    lia
 have k5':¬ kind<5:=by lia
 refine CI k3 ?_;push_cast[↓yX_];by_cases k4:(kind:Int)=5
 ·have k4':kind=5:=by lia
  refine CM k4 ?_;push_cast[↓yT_];refine x2 _ _ {ho,B3,x6 X cs tks M y x {rfl,T4,I.st,by lia,λcell rec ec BC e0=>?_,λhc H' s=>bad (.inl ⟨rfl,rfl⟩) ((if_neg (c1 (by lia))).trans (if_pos<|(IT k1'<|no hc).mpr rfl)) H' s}};refine u2 ?_<|I.rl BC e0;rintro m ps ⟨hr,e3⟩;obtain⟨p1,p2⟩:=I.ps e3
  have pl0:ps.length=nt:=by
   obtain⟨g,hg,w⟩:=(T.ld y rec).mp ⟨cell,BC,e0⟩;obtain⟨e,he,w1,w2⟩:=hnt _ hg rfl;obtain⟨ps',e3',P⟩:=T.rc e he;rw[w1,w,show M.f 3 rec=M 3 rec from rfl,e3]at e3';cases e3';rw[<-w2];exact P.length
  refine{hr,x2 m ps {e3,by lia,λhx H' s=>bad (.inr<|.inr<|.inl ⟨rfl,rfl⟩) ((if_neg (c1 (by lia))).trans ((if_neg λw=>by cases (IT k1'<|yes ec).mp w).trans (if_pos {k4',by lia}))) H' s,λk p ek ep=>{p1 p<|η ep,λex v H' hl n n I' sb=>?_}}}
  have OO:=(ε.mp ep).1
  have pm:=(sd.pm rec m ps e3 p<|η ep).1
  have cp:=JU (kind:=2) (S:=M.f.put 3 rec<|.rc m<|ps.eraseIdx k) (x:=.mk 0) (p1 p<|η ep);rw[ED (by decide),pm,show cn 2 (X.c*X.w) (M.f.put 3 rec<|.rc m<|ps.eraseIdx k)=cn 2 (X.c*X.w) M.f from CF (by decide)]at cp
  have cp:cn 2 (X.c*X.w) ((M.f.put 3 rec<|.rc m<|ps.eraseIdx k).put 2 p (.mk 0))+1=cn 2 (X.c*X.w) M.f:=cp;refine good hl ?_ I' ?_ rfl {[_,_],rfl,by simp[DL]} ((if_neg (c1 (by lia))).trans ((if_neg λw=>by cases (IT k1'<|yes ec).mp w).trans ((if_neg λw=>w.2 (by lia)).trans ((if_neg (by lia)).trans (if_neg (by lia)))))) (λg ts l Y=>?_) sb
  ·rw[BV,BV];lia
  ·have:=hi.take e3 ep;rw[<-len]at this;exact⟨_,this⟩
  ·have hg:=Y.th (by lia);obtain⟨l',hR⟩:=Y.tx (by lia);obtain rfl:=pg BC e0 hg;obtain⟨ps',e3',P⟩:=T.rc _ hR;rw[show M.f 3 (pl g)=M 3 (pl g)from rfl,e3]at e3';replace e3':CV.rc m ps=.rc (ct L g) ps':=e3';cases e3'
   have k6':kind<6:=by lia
   simp only[HH,G2,if_neg k1',if_neg k2',if_neg k5',if_pos k6',if_pos k4'];rw[ek,az]
   have hts:ts.length=ps.length:=P.length.symm;refine{pl,T.txt B hR (λk=>rfl) ?_ (λk hk=>?_) ?_ (Ev P) (λq m ps e n p' hp'=>rfl) ?_}
   ·rw[BV,BV,CF (by decide),CF (by decide)]
   ·rw[BV,ED (by decide),BV,CK hk]
   ·rw[BV,ED (by decide),BV,B8]
   ·rw[BV,BV,Do,if_pos (by lia),<-cp]
    lia
 have k4':¬ kind=5:=by lia
 have k6':¬ kind<6:=by lia
 refine CI k4 ?_;push_cast[↓yW_];by_cases k6:(kind:Int)=6
 ·have k7':kind=6:=by lia
  refine CM k6 ?_;push_cast[↓yU_];refine x2 _ _ {ho,B3,x6 X cs tks M y z {rfl,T4,I.st,by lia,by lia,by lia,λn n hc old rec cell eo hol e0=>?_,λw=>absurd w (by rw[ny,nz];decide),λn n ⟨k,hc⟩ H' s=>bad (.inr<|.inl ⟨rfl,rfl⟩) (if_pos<|(R6 k1' (.inr k7') (yes hc)).mpr rfl) H' s,λn n h1 h2 H' s=>bad (.inl ⟨rfl,rfl⟩) (nw (.inr k7') h1 h2) H' s,λn n h1 ⟨_,h2⟩ h H' s=>bad (.inr<|.inr<|.inr ⟨rfl,rfl⟩) (rm (.inr k7') h1 h2 h) H' s}};refine u2 ?_<|I.rl hol e0;rintro m ps ⟨hr,e3⟩;refine{hr,x2 m ps {e3,by have:=(I.ps e3).2;lia,λec BC ex v H' hl n n I' sb=>?_}}
  have f0:=bV<|OD ec
  have noc:old≠cell:=λe=>by rw[e,f0]at e0;cases e0
  have l1:=hi.link (z:=z) (nd:=cs.length::E8 tks z) BC f0 (RZ hc) e3 (by rw[len];simp) λj h=>ω _<|bU h
  have a0:((M.f.put 3 rec<|.rc (m+1) ps).put 0 cell (.nm z rec)) 0 old=.nm y rec:=by rw[CK noc];exact e0
  have a3:((M.f.put 3 rec<|.rc (m+1) ps).put 0 cell (.nm z rec)) 3 rec=.rc (m+1) ps:=by rw[ED (by decide),B8]
  refine good hl ?_ I' ?_ rfl {[_,_,_,_],rfl,by simp[DL]} (ok (.inr k7') hc eo ec) (λg ts l Y=>?_) sb
  ·rw[BV,BV,BV,BV,CF (by decide),CF (by decide),CF (by decide),CF (by decide)];lia
  ·have l2:=l1.unlead (z:=y) (nd:=[cs.length+1]) (m:=m) (ps:=ps) hol a0 a3
   have l3:({0,cell,.nm z rec,cs.length::E8 tks z}::{3,rec,.rc (m+1) ps,[]}::M.as:List AC).length=cs.length+2:=by rw[len];rfl
   rw[l3]at l2;rw[bT];exact⟨_,l2⟩
  ·have hg:=Y.th (by lia)
   have hz:=Y.nw<|.inr k7';rw[if_neg k1']at hz;obtain⟨l',hR⟩:=Y.tx (by lia);obtain rfl:=pg hol e0 hg
   have zy:z≠y:=λw=>hz g<|w ▸ hg;simp only[HH,G2,if_neg k1',if_neg k2',if_neg k5',if_neg k6',if_neg k4',if_pos k7']
   have:g∈(C8 (L++[(z,g)]) y).map (·.2):=af.mpr {(z,g),M9.mpr {by simp,zy},rfl};unfold EM;rw[if_pos this];exact{pl,(T.link B BC f0 hg e3).less l1.now (B.name hz lz.2 ⟨_,hR,rfl⟩) hol (cf _ hg) a0 a3}
 have k7':¬ kind=6:=by lia
 refine CI k6 ?_;push_cast[↓yV_];refine x2 _ _ {ho,B3,x5 X cs tks M y {rfl,T4,I.st,by lia,λcell rec ec BC e0=>?_,λhc H' s=>bad (.inl ⟨rfl,rfl⟩) ((if_neg (c1 (by lia))).trans (if_pos<|(IT k1'<|no hc).mpr rfl)) H' s}};refine u2 ?_<|I.rl BC e0;rintro m ps ⟨hr,e3⟩;obtain⟨p1,p2⟩:=I.ps e3
 have du:IK X L R kind y z x nt="":=(if_neg (c1 (by lia))).trans ((if_neg λw=>by cases (IT k1'<|yes ec).mp w).trans ((if_neg (by lia)).trans ((if_neg (by lia)).trans (if_neg (by lia)))))
 have dL:∀ {g:Int},HH L fr g kind y z=C8 L y:=by
  intro g;simp only[HH,if_neg k1',if_neg k2',if_neg k6',if_neg k7']
 have dR:∀ {g:Int} {ts:Xu} {l:Addr},G2 L R fr g kind y z t x l ts=EM (C8 L y) R g:=by
  intro g ts l;simp only[G2,dL,if_neg k1',if_neg k2',if_neg k5',if_neg k4']
 refine{hr,x2 m ps {e3,p1,by lia,λhm ex v H' hl n n I' sb=>good hl ?_ I' ?_ rfl {[_,_],rfl,by simp[DL]} du (λg ts l Y=>?_) sb,λhm ex v H' hl n n I' sb=>good hl ?_ I' ?_ ?_ ?_ du (λg ts l Y=>?_) sb}}
 ·rw[BV,BV,CF (by decide),CF (by decide)];lia
 ·obtain⟨m',rfl⟩:∃ m',m=m'+1:={m-1,by lia}
  have:=hi.unlead (nd:=[]) BC e0 e3;rw[<-len]at this;rw[bT];exact⟨_,this⟩
 ·have hg:=Y.th (by lia);obtain rfl:=pg BC e0 hg;refine u3 ?_<|T.of B hg;rintro l' ts' ps' ⟨hR,e3',P⟩;rw[show M.f 3 (pl g)=M 3 (pl g)from rfl,e3]at e3';injection e3' with em ep
  obtain⟨m',rfl⟩:∃ m',m=m'+1:={m-1,by lia}
  rw[dL,dR]
  have cg:=(R3 (j:=g) B.ln hg).1;rw[if_pos rfl]at cg;unfold EM;rw[if_pos (kq.mp (show 0<ct (C8 L y) g by lia))];exact{pl,T.less sd B BC hg e0 e3}
 ·rw[BV,CF (by decide)]
  have:=cA (c:=X.c*X.w) (d:=cs.length+1) (ps:=ps) (M:=(M.put 0 cell .no []).put 3 rec .no [cs.length]) (sd.nd rec m ps e3) λp hp=>{p1 p hp,(sd.pm rec m ps e3 p hp).1}
  rw[BV,BV,CF (by decide),CF (by decide)]at this
  lia
 ·have:=hi.dropped (nd:=[]) BC e0 e3 hm;rw[<-len]at this;rw[bT];refine{ES o y cs.length,?_}
  show Hist X.m0 (Hs.unmark _ _ _).b ({1,rec,.mk 0,[cs.length+1]}::(Hs.unmark _ _ _).as) _ _;rw[R0.1,R0.2];exact this
 ·exact R0.2
 ·refine{{1,rec,.mk 0,[cs.length+1]}::((ps.map λp=>({2,p,.mk 0,[cs.length+1]}:AC)).reverse++[{3,rec,.no,[cs.length]},{0,cell,.no,[]}]),?_,λx hx=>?_}
  ·show{1,rec,.mk 0,[cs.length+1]}::(Hs.unmark _ _ _).as=_;rw[R0.1];simp[Hs.put]
  ·simp only[ax,ao,La,af,b_,or_false]at hx;rcases hx with rfl|⟨p,_,rfl⟩|rfl|rfl<;>simp[DL]
 ·have hg:=Y.th (by lia);obtain rfl:=pg BC e0 hg;obtain⟨l',hR⟩:=Y.tx (by lia);obtain⟨ps',e3',P⟩:=T.rc _ hR;rw[show M.f 3 (pl g)=M 3 (pl g)from rfl,e3]at e3';injection e3' with em ep
  subst ep;rw[dL,dR]
  have mr:M 1 (pl g)=.mk 1:=sd.mr _ _ _ e3
  have hts:ps.length=ts.length:=P.length;refine{pl,T.drop sd B BC hg e0 (em ▸ hm) hR (λk=>?_) (λk hk=>?_) (λk=>?_) ?_ ?_}
  ·rw[BV,ED (by decide)];exact OK (by decide)
  ·rw[BV,ED (by decide)];refine(OK (by decide)).trans ?_;rw[BV,CK hk];rfl
  ·rw[BV,ED (by decide)];exact OK (by decide)
  ·have c1:=JU (kind:=1) (S:=(Hs.unmark ((M.put 0 cell .no []).put 3 (pl g) .no [cs.length]) (cs.length+1) ps).f) (x:=.mk 0) hr
   have u1:cn 1 (X.r*X.w) (Hs.unmark ((M.put 0 cell .no []).put 3 (pl g) .no [cs.length]) (cs.length+1) ps).f=cn 1 (X.r*X.w) M.f:=by
    unfold cn
    congr 1
    funext k;rw[show(Hs.unmark ((M.put 0 cell .no []).put 3 (pl g) .no [cs.length]) (cs.length+1) ps).f 1 k=M.f 1 k from OK (by decide)]
   rw[show(Hs.unmark ((M.put 0 cell .no []).put 3 (pl g) .no [cs.length]) (cs.length+1) ps).f 1 (pl g)=.mk 1 from(OK (by decide)).trans mr,u1]at c1;exact c1
  ·rw[BV,CF (by decide)]
   have:=cA (c:=X.c*X.w) (d:=cs.length+1) (ps:=ps) (M:=(M.put 0 cell .no []).put 3 (pl g) .no [cs.length]) (sd.nd _ _ _ e3) λp hp=>{p1 p hp,(sd.pm _ _ _ e3 p hp).1}
   rw[BV,BV,CF (by decide),CF (by decide),hts]at this;exact this
example:(zxf,U7,ZZ,2):=by
 apply u3;rintro s ns k ⟨rfl,hs,hl,q⟩;push_cast[ZZ,↓r8_];refine{_,(.inl {_,hs,(ζ _).symm}),?_};split;rename_i hk;refine CW hs rfl  ?_ q;unfold U6;simp[(d_.mp hk)]
 have:U6 ns k=0:=by
  unfold U6;rw[xr,bq (by lia)];rfl
 rw[this]at q;exact q
def zxg:∀ i:Fin 26,(bw "abcdefghijklmnopqrstuvwxyz").cps.toList[i.val]? =some (97+i.val):=by decide
def zxh{i:Int}{n:Nat}{Q:VK}(hi:i=n)(hn:n<26)(q:Q (.str {#[97+n]}) H):BR K (.str<|bw "abcdefghijklmnopqrstuvwxyz") (.int i) H Q:=Ac hi (by decide) (zxg ⟨n,hn⟩) q
def WG:Str:=bw " !\"#$&'()*+,-./0123456789:;<=>?@ABCDEFGHIJKLMNOPQRSTUVWXYZ[\\]^_`"++bw "abcdefghijklmnopqrstuvwxyz{|}~"
def zxi:∀ i:Fin 94,∃ c,WG.cps.toList[i.val]? =some c/\LP c=true:=by
 have h:∀ i:Fin 94,WG.cps.toList[i.val]? =some (WG.cps.toList[i.val]!)/\LP (WG.cps.toList[i.val]!)=true:=by decide
 exact λi=>{_,(h i).1,(h i).2}
def Ew:∀ l:Xu,(∀ x∈l,x.length=1)->(l.map (·.length)).sum=l.length
 | [],_=>rfl
 |x::r,h=>by
  rw[ca,Fe,Ew r λy hy=>h y<|ω _ hy,h x ai];exact vb _ _
def Ex{p:Wu}:∀ (l:Xu) (BO:Array Nat),BO.all p=true->(∀ z∈l,z.cps.all p=true)->(l.foldl (λBO q=>BO++(bw "").cps++q.cps) BO).all p=true
 | [],BO,h,_=>h
 |z::l,BO,h,hz=>by
  refine Ex l _ ?_ λy hy=>hz y<|ω _ hy;rw[Ln,Ln,h,hz z ai,show(bw "").cps= #[] by decide +kernel];simp
def zxj{l:Xu}(h1:1<=l.length)(h2:l.length<=40)(h:∀ z∈l,z.length=1/\z.cps.all LP=true):HG (Txt.join (bw "") l)=true:=by
 unfold HG;rw[W.KT.join_ones l λz hz=>(h z hz).1,decide_eq_true h2,we];cases l with
 |nil=>simp at h1
 |cons z l=>exact Ex l _ (h z ai).2 λy hy=>(h y<|ω _ hy).2
def FW{p:Addr}{xs:Zu}{k:Nat}{Q:VK}(h:H p=some (.lst<|xs.map V.int))(hk:k<xs.length)(q:∀ x∈xs,Q (.int x) H):BR K (.ref p) (.int k) H Q :=
 CW (SqL.of h)  rfl (by rw[τ,θ hk];rfl) (q _<|r_ hk)
example:(zxk,OB,Z0,6):=by
 apply u2;rintro c m ⟨rfl,hm,q⟩;push_cast[Z0,↓sA_,↓sB_,↓sC_];refine{{by decide,by decide},by decide,λl hl=>?_}
 have a2:0<=c/920419823%899809363+3/\c/920419823%899809363+3<1000000000:=by lia
 have a1:0<=c%920419823+5/\c%920419823+5<1000000000:=by lia
 generalize c%920419823+5=here at a1 ⊢;generalize c/920419823%899809363+3=there at a2 ⊢;obtain⟨H1,zz0,s1,e1⟩:=D0  hl;rw[zz0];refine{i0,by lia,QC (λi σ H'=>∃ (xs:List _) (here there:Int),Same H H'/\H' l=some (.lst<|xs.map V.int)/\xs.length=i/\(∀ x∈xs,0<=x/\x<2000000000)/\(0<=here/\here<1000000000)/\(0<=there/\there<1000000000)/\∃ y,σ=[some _,some _,some<|.int here,some<|.int there,some _,y]) (x3 [] _ _ {s1,e1,rfl,by simp,a1,a2,_,rfl}) (λi σ H' hi hzz=>?_) (λσ H' hzz=>?_)};revert hzz;refine u3 ?_;rintro xs he th ⟨s,e,FO,hx,b1,b2,y,eσ⟩;subst eσ
 have c1:0<=(he*70001+th)%920419823/\(he*70001+th)%920419823<920419823:=by lia
 push_cast[↓sD_,↓sE_,↓sF_];generalize (he*70001+th)%920419823=h2 at c1 ⊢;generalize h2*h2=sq;refine{.inl {by lia,by lia},.inl {by lia,by lia},.inl {by lia,by lia},.inl {rfl,_,SqL.of e},_,e,aa (show(xs.map _).length<1000 by rw[ζ];lia) (by decide),λy o e=>by rw[AG (BE e hl)];exact s _ _ e,xs++[h2+(th*60013+sq+(0+i))%899809363],by rw[AE,χ];rfl,by simp[FO],λx hxm=>?_,h2,by lia,by lia,_,(by lia),(by lia),rfl,rfl};rcases ao.mp hxm with h|h
 exact hx x h;rw[ρ.mp h];lia;revert hzz;refine u3 ?_;rintro xs he th ⟨s,e,FO,hx,b1,b2,y,eσ⟩;subst eσ;exact q l xs H' hl s e FO hx
example:(zxl,ZI,uW,4,h):=by
 obtain⟨x,rfl,q⟩:=h;refine{by decide,x2 x 3 {rfl,by lia,λl xs H1 hl s1 el FO hx=>?_}}
 have tail:∀ m:Nat,1<=m->m<=40->aC K a (λy=>E) (λy=>E) (AV Q) [some (.int x),some _,some _,some<|.int m] H1:=λm hm1 hm=>by
  push_cast[↓aC_];refine{rfl,by lia,by lia,(LA (CJ _ (by lia)) (λi ys H'=>H'=H1/\∃ zs:List _,ys=zs.map V.str/\∀ z∈zs,z.length=1/\z.cps.all LP=true) {rfl,[],rfl,by simp} (λi ys H' hi hl hzz=>?_) (λys H' hl' hzz p hp=>?_))};obtain⟨rfl,zs,e2,e3⟩:=hzz;refine FW  el (by lia) λy1 y=>FW  el (by lia) λy3 y=>?_;push_cast[];refine{{by lia,by lia},FW  el (by lia) λy2 hy2=>?_}
  have b2:=hx y2 hy2;push_cast[];obtain⟨b,eb,hb⟩:=RN _ (n:=94) (by lia);obtain⟨c,hc,hco⟩:=zxi ⟨b,hb⟩;refine{.inr {by lia,by lia},?_};rw[show((94:Nat):Int)=94 from rfl]at eb;rw[eb];refine Ac rfl (by decide) hc {rfl,zs++[⟨_⟩],by rw[e2,χ];rfl,λz hz=>?_};rcases ao.mp hz with hz|hz
  exact e3 z hz;rw[ρ.mp hz];exact{rfl,by simpa using hco};obtain⟨rfl,zs,e2,e3⟩:=hzz
  have D3:zs.length=m:=by rw[<-hl',e2,ζ]
  exact x3 _ p zs {rfl,rfl,by rw[<-e2];exact SqL.of AE,by decide,by rw[Ew zs λz hz=>(e3 z hz).1];lia,q _ _ (zxj (by lia) (by lia) e3) (s1.trans<|AL hp)}
 refine FW  el (by lia) λy1 hy1=>?_;push_cast[↓uV_];refine FW  el (by lia) λy2 hy2=>?_;push_cast[];refine{{by decide,by decide},?_};split;exact tail 40 (by lia) (by lia);obtain⟨m,em⟩:∃ m:Nat,1+y1%6=m:={(1+y1%6).toNat,by lia}
 rw[em];exact tail m (by lia) (by lia)
example:(zxm,ZJ,uX,2,h):=by
 obtain⟨x,rfl,q⟩:=h;refine{{by decide,by decide},x2 _ 3 {rfl,by decide,λl xs H1 hl s1 el FO hx=>?_}}
 have md:∀ y:Int,∃ n:Nat,1+y%3=n/\1<=n/\n<=3:=λy=>{(1+y%3).toNat,by lia,by lia,by lia}
 refine FW  el (FO ▸ by decide) λy1 z=>?_;push_cast[];refine FW  el (FO ▸ by decide) λy2 z=>?_;push_cast[];refine FW  el (FO ▸ by decide) λy3 z=>?_;push_cast[];refine{by decide,λt ht=>?_};obtain⟨n,en,n1,n2⟩:=md y1;obtain⟨r,er,r1,r2⟩:=md y2;obtain⟨c,ec,c1,c2⟩:=md y3;obtain⟨w,ew,w1,w2⟩:∃ n:Nat,1+x%6=n/\1<=n/\n<=6:={(1+x%6).toNat,by lia,by lia,by lia}
 rw[en,er,ec,ew];exact q t n r c w _ (s1.trans<|AL ht) AE n1 n2 r1 r2 c1 c2 w1 w2
def Ey{p:Addr}{xs:Zu}{k:Nat}{Q:VK}(h:H p=some (.lst<|xs.map V.int))(hk:k<xs.length)(q:Q (.int<|xs.getD k 0) H):BR K (.ref p) (.int k) H Q :=
 CW (SqL.of h)  rfl (by simp[hk]) q
def NC(x:Int):Nat:=97+(x%26).toNat
def Ez{x:Int}{Q:VK}(q:Q (.str {#[NC x]}) H):BR K (.str<|bw "abcdefghijklmnopqrstuvwxyz") (.int<|x%26) H Q:=by
 obtain⟨b,eb,hb⟩:=RN x (n:=26) (by decide);rw[show((26:Nat):Int)=26 from rfl]at eb
 have:NC x=97+b:=by unfold NC;rw[eb];simp
 rw[this]at q;rw[eb];exact zxh rfl hb q
def zxn{c:Nat}{k:Nat}(h1:1<=k)(h8:k<=8):(NO {#[c]} (k:Int)).cps.toList=bg k c:=by
 rcases(by lia:k=1\/k=2\/k=3\/k=4\/k=5\/k=6\/k=7\/k=8)with h|h|h|h|h|h|h|h<;>subst h<;>rfl
def cH(x:Int)(k:Nat):Str:=NO {#[NC (x+(k:Int)/8)]} (1+(k:Int)%8)
def Fb(fi se:Int)(k j:Nat):Int:=(k:Int)*(if(j:Int)=fi then 1 else 0)+(k:Int)/26*(if(j:Int)=se then 1 else 0)
def L5(xs:Zu)(fi se:Int)(k sz:Nat):ad:=(ο sz).map λj=>NC<|xs.getD (3+j) 0+Fb fi se k j
def zxo{x y:Str}(h:x.cps.toList=y.cps.toList):x=y:=by
 cases x;congr 1;exact Ko.mp h
def Fd{l:Zu}{z:Str}(h:z.cps.toList=l.map NC)(h1:1<=l.length)(h8:l.length<=8):BY z=true:=by
 have hl:z.length=l.length:=by rw[show z.length=z.cps.toList.length by simp[Fs],h,ζ]
 unfold BY;rw[hl,decide_eq_true h1,decide_eq_true h8,h,Ff,Ff,iu];intro c hc;obtain⟨x,y,rfl⟩:=af.mp hc;unfold Q3 NC
 lia
example:(zxp,ZK,uU,12,h):=by
 revert h;refine u2 ?_;rintro x m ⟨rfl,hm,q⟩;refine{{by decide,by decide},x2 _ 12 {rfl,by lia,λl xs H1 hl s1 el FO hx=>?_}};push_cast[↓uN_];by_cases h1:x%2=1;refine CM h1 ?_;push_cast[↓uM_];refine{by lia,by lia,(LA (CJ _ (by lia)) (λi ys H'=>H'=H1/\ys=((ο i).map (cH<|xs.getD 0 0)).map V.str) ⟨rfl,rfl⟩ (λi ys H' hi hl hzz=>?_) (λys H' hl' hzz p hp=>?_))};obtain⟨rfl,e2⟩:=hzz;push_cast[C1,vh];refine Ey (k:=0) el (by lia) ?_;push_cast[];refine{{by decide,by decide},Ez ?_};push_cast[];refine{by lia,by lia,(show(1:Nat)<=1000 by lia),?_};rw[e2,bz,χ,χ]
 rfl;obtain⟨rfl,e2⟩:=hzz;refine q p ((ο m).map (cH<|xs.getD 0 0)) _ (s1.free hp) (s1.trans<|AL hp) (by rw[AE,e2]) (by simp) λz hz=>?_;obtain⟨k,hk,rfl⟩:=af.mp hz;obtain⟨j,ej,j1,j8⟩:∃ j:Nat,1+(k:Int)%8=j/\1<=j/\j<=8:={(1+(k:Int)%8).toNat,by lia,by lia,by lia}
 unfold cH;rw[ej];exact Fd (l:=bg j<|xs.getD 0 0+(k:Int)/8) (by rw[zxn j1 j8,F5]) (by simpa using j1) (by simpa using j8);refine CI h1 ?_;refine FW (k:=0) el (by lia) λy1 hy1=>?_;push_cast[];obtain⟨sz,esz,hsz⟩:∃ sz:Nat,2+y1%7=sz/\2<=sz/\sz<=8:={(2+y1%7).toNat,by lia,by lia,by lia}
 rw[esz];refine FW (k:=1) el (by lia) λy2 hy2=>?_;push_cast[];refine{by lia,?_}
 have f1:=uk y2 (show(0:Int)<sz by lia)
 have f0:=wt y2 (show(sz:Int)≠0 by lia);generalize y2%(sz:Int)=first at f0 f1 ⊢;refine FW (k:=2) el (by lia) λy3 hy3=>?_;push_cast[];refine{by lia,by lia,?_}
 have g1:=uk (first+1+y3%((sz:Int)-1)) (show(0:Int)<sz by lia)
 have g0:=wt (first+1+y3%((sz:Int)-1)) (show(sz:Int)≠0 by lia);generalize (first+1+y3%((sz:Int)-1))%(sz:Int)=second at g0 g1 ⊢;refine{by decide,λp hp=>?_};obtain⟨H2,zz0,s2,e2⟩:=D0 (o:=.lst []) hp;rw[zz0];push_cast[↓uT_];refine{by lia,by lia,QC (λi σ H'=>(Same H1 H'/\H' p=some (.lst (((ο i).map λk=>({(L5 xs first second k sz).toArray}:Str)).map V.str)))/\∃ y8 y9 y10 y11,σ=[some (.int x),some<|.int m,some<|.str<|bw "abcdefghijklmnopqrstuvwxyz",some<|.ref l,some<|.int sz,some (.int first),some<|.int second,some<|.ref p,y8,y9,y10,y11]) {⟨s2,e2⟩,x4 _ _ _ _ rfl} (λi σ H' hi hzz=>?_) (λσ H' hzz=>?_)};obtain⟨⟨s,e⟩,y8,y9,y10,y11,eσ⟩:=hzz;subst eσ;push_cast[↓uO_,↓uR_,vh];refine{by lia,by lia,QC (λj σ H2=>(∃ wd:Str,H2=H'/\wd.cps.toList=L5 xs first second i j/\∃ y10 y11,σ=[some (.int x),some<|.int m,some<|.str<|bw "abcdefghijklmnopqrstuvwxyz",some<|.ref l,some<|.int sz,some (.int first),some<|.int second,some<|.ref p,some<|.int (i:Int),some<|.str wd,y10,y11])) {bw "",rfl,rfl,x2 _ _ rfl} (λj σ H2 hj hzz=>?_) (λσ H2 hzz=>?_)};obtain⟨wd,rfl,hw,y10,y11,eσ⟩:=hzz;subst eσ;push_cast[↓uP_,↓uQ_,vh];refine{.inl {by lia,by lia},{by decide,by decide},.inl {by lia,by lia},?_};refine Ey (k:=3+j) (s _ _ el) (by lia) ?_;push_cast[];refine Ez ?_
 have hwl:wd.length=j:=by
  have:wd.cps.toList.length=j:=by rw[hw];unfold L5;simp
  simpa [Fs]using this
 push_cast[];refine{CJ _ (by rw[hwl];show j+1<=_;lia),_,?_,rfl}
 show(wd.cps++_).toList=_;rw[Array.toList_append,hw];unfold L5;rw[bz,χ]
 rfl;obtain⟨wd,rfl,hw,y10,y11,eσ⟩:=hzz;subst eσ;push_cast[↓uS_];refine{.inl {rfl,_,SqL.of e},_,e,aa (show(((ο i).map λk=>({(L5 xs first second k sz).toArray}:Str)).map V.str).length<1000 by simp;lia) (by decide),λy o e=>by rw[AG (BE e hp)];exact s _ _ e,?_};rw[AE,bz,χ,χ]
 have:wd=({(L5 xs first second i sz).toArray}:Str):=zxo hw;rw[this]
 rfl;obtain⟨⟨s,e⟩,y8,y9,y10,y11,eσ⟩:=hzz;subst eσ;refine q p _ H' (s1.free hp) (s1.trans s) e (by simp) λz hz=>?_;obtain⟨k,hk,rfl⟩:=af.mp hz;exact Fd (l:=(ο sz).map λj=>xs.getD (3+j) 0+Fb first second k j) (by show L5 xs first second k sz=_;unfold L5;rw[ff];rfl) (by simp;lia) (by simp;lia)
def Fg{nl:Addr}{zs:Xu}{x:Int}{Q:VK}(h:VC H nl zs)(q:∀ z∈zs,Q (.str z) H):BR K (.ref nl) (.int<|x%5) H Q:=by
 obtain⟨e,l,y⟩:=h;obtain⟨b,eb,hb⟩:=RN x (n:=5) (by decide);rw[show((5:Nat):Int)=5 from rfl]at eb;rw[eb];exact CW (SqL.of e)  rfl (by rw[τ,(θ (show b<zs.length by lia))];rfl) (q _<|r_ _)
def zxq:z∈KH M m↔∃ k rec,k<m/\M 0 k=.nm z rec:=by
 unfold KH;rw[jj];constructor;rintro ⟨k,hk,e⟩;obtain⟨p,ep,rfl⟩:=au.mp e;unfold D7 at ep;cases e0:M 0 k with
 |nm y r=>rw[e0]at ep;cases ep;exact x2 k r {ak.mp hk,e0}
 |no=>rw[e0]at ep;cases ep
 |mk i=>rw[e0]at ep;cases ep
 |rc m ps=>rw[e0]at ep;cases ep
 |tx t=>rw[e0]at ep;cases ep
 rintro ⟨k,rec,hk,e⟩;exact{k,ak.mpr hk,by unfold D7;rw[e];rfl}
section
variable{X:SX}{cs:Rr}{tks:tZ}{M:Hs}{st d rr:Addr}{L:LD}{R:Sr}{fr:Int}{pl:Int->Nat}
def zxr(I:C6 a H X cs tks M)(T:MX X M L R pl)(B:Bk L R fr):(KH M X.m0).Perm (L.map (·.1)):=by
 refine(x_ ?_ B.ln).mpr λz=>?_;refine Po (R:=λk k'=>k≠k'/\k<X.m0/\k'<X.m0) _ (λk k' hzz y hy y' hy' e=>?_) (l_ (λ{x y} hx hy h=>{h,ak.mp hx,ak.mp hy}) (Lo ));obtain⟨hn,hk,hk'⟩:=hzz;obtain⟨p,ep,e1⟩:=au.mp hy;subst e
 have key:∀ {k:Nat} {p:Str × Nat},D7 M k=some p->M 0 k=.nm p.1 p.2:=λ{k p} h=>by
  unfold D7 at h;cases e0:M 0 k with
  |nm y r=>rw[e0]at h;cases h;rfl
  |_=>rw[e0]at h;cases h
 obtain⟨p',ep',e1'⟩:=au.mp hy';exact hn (I.now.un k k' y _ _ hk hk' (by rw[<-e1];exact key ep) (by rw[<-e1'];exact key ep'));rw[zxq,af];constructor;rintro ⟨k,rec,hk,e⟩;obtain⟨i,hi,v⟩:=(T.ld z _).mp ⟨k,hk,e⟩;exact⟨_,hi,rfl⟩;rintro ⟨⟨y,i⟩,hi,rfl⟩;obtain⟨k,hk,e⟩:=(T.ld y _).mpr ⟨i,hi,rfl⟩;exact x2 k _ ⟨hk,e⟩
def Fh(I:C6 a H X cs tks M)(T:MX X M L R pl)(sz:X.n<=3/\X.r<=3/\X.c<=3/\X.w<=6):few L R:=by
 have f:∀ {p:Nat},p<=3->p*X.w<=18:=λh=>ii h sz.2.2.2;refine{?_,?_,λe he=>?_};rw[<-T.c0];exact ψ bZ (ψ (f sz.1) (by decide));rw[<-T.c1];exact ψ bZ (ψ (f sz.2.1) (by decide));obtain⟨ps,e3,P⟩:=T.rc e he
 have:=(I.ps e3).2;rw[<-P.length];lia
def zxs(B:Bk L R fr)(y:Str):∃ nt,U9 L R y nt:=by
 by_cases h:∃ i,(y,i)∈L;obtain⟨i,hi⟩:=h;obtain⟨e,he,w⟩:=B.lr _ hi;refine{_,λ⟨p1,p2⟩ hp hpy=>{e,he,?_,rfl}};subst hpy;exact w.trans<|Dx B.ln hi hp;exact{0,λ⟨p1,p2⟩ hp hpy=>absurd {p2,by subst hpy;exact hp} h}
def Fj{F:V->V->Hp->Prop}(T4:CL K a)(I:C6 a H X cs tks M)(T:MX X M L R pl)(S:SAt H st d rr L R fr)(sz:X.n<=3/\X.r<=3/\X.c<=3/\X.w<=6)
  (q:∀ l l' (ks:Xu) H',Same H H'->SqL K H' l (ks.map V.str)->SqL K H' l' (ks.map V.str)->(∀ v∈ks.map V.str,GoodV 4 H' v)->F (.ref l) (.ref l') H'):N1 K a [.ref X.S.st] H (λv H1=>BR K (.ref st) (.int 0) H1 λw H2=>TU K [w] H2 λu H3=>F v u H3) E:=by
 refine x4 X cs _ M {rfl,T4,I.st,λl ks H1 hl s1 el pk hk=>CW (SqL.of<|s1 _ _ S.s)  rfl rfl (x3 d _ _ {rfl,s1 _ _ S.dl,by unfold lK;rw[ff,ff];rfl,by have:=(Fh I T sz).1;rw[ζ];lia,λD ks' hD pk' hk'=>?_})};obtain rfl:ks=ks':=zbl hk hk'<|pk.trans<|(zxr I T S.bk).trans pk'.symm;refine q l D ks _ (s1.trans<|AL hD) (SqL.of<|(AL hD) _ _ el) (SqL.of AE) λv hv=>?_;obtain⟨y,hy,rfl⟩:=af.mp hv;obtain⟨p,hp,rfl⟩:=af.mp<|pk'.mem_iff.mp hy;exact S.bk.nk p hp
def zxt{y:Str}{i:Int}{l:Addr}{ts:Xu}{F:V->Hp->Prop}(T4:CL K a)(I:C6 a H X cs tks M)(T:MX X M L R pl)(hy:(y,i)∈L)(hi:(i,l,ts)∈R)
  (q:∀ l H',Same H H'->H' l=some (.lst<|ts.map V.str)->F (.ref l) H'):MV K a [.ref X.S.st,.str y] H F E:=by
 obtain⟨ps,e3,P⟩:=T.rc _ hi;obtain⟨k,hk,e0⟩:=(T.ld y _).mpr ⟨i,hy,rfl⟩;refine x5 X cs _ M y {rfl,T4,I.st,λcell rec ec hc e=>?_,λhc=>absurd e0<|RZ hc k _ hk}
 have:=I.now.un k _ y _ _ hk hc e0 e;subst this;rw[e]at e0;injection e0 with _ er
 subst er;refine u2 ?_<|I.rl hc e;rintro z z ⟨hr,z⟩
 have:=I.ps e3;exact{hr,x2 _ ps {e3,by lia,ts,VY P λp t hp x=>{this.1 p hp,x},λl H' z s e=>q l H' s e}}
end
def cI{st d rr:Addr}{L:LD}{R:Sr}{fr:Int}(S:SAt H st d rr L R fr){x:Addr}(h:EL st d rr R x):ER (H x):=by
 rcases h with rfl|rfl|rfl|⟨e,he,rfl⟩
 exact MN S.s;exact MO S.dl;exact MO S.dr;exact MN (S.e e he).1
def Fk{X:SX}{cs:Rr}{tks:tZ}{M:Hs}{st d rr l:Addr}{L:LD}{R:Sr}{fr i:Int}{pl:Int->Nat}{y:Str}{ts:Xu}{G:V->V->Hp->Prop}(T4:CL K a)(I:C6 a H X cs tks M)(T:MX X M L R pl)(es:H st=some (.lst [.ref d,.ref rr,.int fr]))(hd:∀ H',Same H H'->DGet H' d (.str y) (some<|.int i))(er:H rr=some (.dK<|rK R))(rn:(R.map (·.1)).Nodup)(hy:(y,i)∈L)(hi:(i,l,ts)∈R)(el:H l=some (.lst<|ts.map V.str)/\∀ t∈ts,cy t=true)
  (q:∀ p H',Same H H'->SqL K H' p (ts.map V.str)->SqL K H' l (ts.map V.str)->(∀ v∈ts.map V.str,GoodV 4 H' v)->G (.ref p) (.ref l) H'):MV K a [.ref X.S.st,.str y] H (λx H1=>BR K (.ref st) (.int 1) H1 λx1 H2=>BR K (.ref st) (.int 0) H2 λx2 H3=>CD x2 λa=>∃ v,DGet H3 a (.str y) (some v)/\CD x1 λa=>∃ v1,DGet H3 a v (some v1)/\G x v1 H3) E:=by
 refine zxt T4 I T hy hi λp H' s ep=>CW (SqL.of<|s _ _ es)  rfl rfl (CW (SqL.of<|s _ _ es)  rfl rfl {_,hd H' s,_,QK (s _ _ er) (NA rn hi),q p H' s (SqL.of ep) (SqL.of<|s _ _ el.1) λv hv=>?_});obtain⟨u,hu,rfl⟩:=af.mp hv;exact el.2 u hu
def zxu{m0 m1 m2 kind nt:Nat}{L:LD}{R:Sr}{y z:Str}{x:Int}:GO m0 m1 m2 L R kind y z x nt="twice"\/GO m0 m1 m2 L R kind y z x nt="name"\/GO m0 m1 m2 L R kind y z x nt="piece"\/GO m0 m1 m2 L R kind y z x nt="room"\/GO m0 m1 m2 L R kind y z x nt="":=by
 unfold GO
 repeat' split
 all_goals simp
def Fl{st d rr l:Addr}{L:LD}{R:Sr}{fr g x:Int}{kind:Nat}{y z t:Str}{ts:Xu}{w:Addr}(h:EL st d rr (G2 L R fr g kind y z t x l ts) w):(∃ _:kind<2,w=l)\/EL st d rr R w:=by
 rcases h with h|h|h|⟨e,he,rfl⟩
 exact .inr<|.inl h;exact .inr<|.inr<|.inl h;exact .inr<|.inr<|.inr<|.inl h
 have set:∀ {us:List _},e∈E4 R g us->EL st d rr R _:=λhe=>by
  obtain⟨e',h',v,w2,v⟩:=WB he;exact .inr<|.inr<|.inr ⟨e',h',w2⟩
 unfold G2 at he;split at he;rcases ao.mp he with he|he
 exact .inr<|.inr<|.inr<|.inr ⟨e,he,rfl⟩;cases ρ.mp he;exact .inl {‹_›,rfl};refine .inr ?_;split at he;exact .inr<|.inr<|.inr ⟨e,he,rfl⟩;split at he;exact set he;split at he;exact set he;unfold EM at he;split at he;exact .inr<|.inr<|.inr ⟨e,he,rfl⟩;exact .inr<|.inr<|.inr {e,(cj.mp he).1,rfl}
example:(zxv,VD,zG,12,h):=by
 revert h;refine OU ?_;rintro X cs tks M st d rr t nl L R fr pl zs ⟨x,rfl,T4,TX,I0,hcs,S0,T,off,hn0,fnl,FQ,sz,q⟩;refine{{by decide,by decide},x2 _ 4 {rfl,by lia,λl xs H1 hl s1 el FO hx=>?_}};obtain⟨kind,ek,hk⟩:=RN x (n:=8) (by lia)
 have hn:VC H1 nl zs:={s1 _ _ hn0.1,hn0.2}
 rw[show((8:Nat):Int)=8 from rfl]at ek;push_cast[↓zC_];rw[ek];refine FW  el (by lia) λy0 v=>?_;push_cast[];refine Fg hn λy hy=>?_;refine FW  el (by lia) λy1 v=>?_;push_cast[];refine Fg hn λz hz=>?_;push_cast[↓zD_];refine FW  el (by lia) λy2 v=>{y2,rfl,λu H2 pu s2=>?_}
 refine FW  (s2 _ _ el) (by lia) λy3 v=>?_;push_cast[];generalize y3%4-1=at';replace s2:=s1.trans s2
 have S:=S0.same s2
 have fw:=Fh (I0.same s2) T sz;obtain⟨nt,hnt⟩:=zxs S.bk y
 have ny:=hn0.2.2 y hy
 have nz:=hn0.2.2 z hz;refine OS st d rr t L R fr _ _ _ _ kind y z {at',nt,rfl,S,fw,s2 _ _ FQ,sz,hk,hnt,λH3 s3=>?_};push_cast[↓zE_];replace s3:=s2.trans s3
 have tail:∀ (cs':Rr) (tks':tZ) (M':Hs) (L':LD) (R':Sr) (fr':Int) (pl':Int->Nat) (H4:Hp),C6 a H4 X cs' tks' M'->cs'.length+cn 2 (X.c*X.w) M'<=cs.length+cn 2 (X.c*X.w) M+4->SAt H4 st d rr L' R' fr'->MX X M' L' R' pl'->OC X st d rr R'->(∀ x,EL st d rr R' x->H x=none\/EL st d rr R x)->SameBut (λx=>X.S.A.F x\/x=X.S.tk\/EL st d rr R x) H H4->aZ K a (λv=>E) (λv=>E) { nx:=bA K a (λv=>E) (λv=>E) (AV Q),rt:=Q,bk:=(AV Q).bk,ct:=(AV Q).ct } [some (.ref X.S.st),some<|.ref st,some<|.ref t,some<|.int x,some<|.ref nl,some<|.ref l,some<|.int kind,some<|.str y,some<|.str z,some<|.str u,some<|.int at',some<|.str<|bw<|IK X L R kind y z at' nt] H4:=λcs' tks' M' L' R' fr' pl' H4 I4 hb S4 T4' off4 nw4 sb=>by
  obtain⟨dx,ho⟩:=I4.st.ob;push_cast[↓aZ_];refine x2 _ _ {ho,B3,Fj T4 I4 T4' S4 sz λl1 l2 ks H5 s5 e1 e2 hg=>nC<|VL e1 e2 hg ?_};simp only[YL,o9]
  have fin:∀ H6,Same H5 H6->Q (.bl true) H6:=λH6 s6=>q cs' tks' M' L' R' fr' pl' H6 (I4.same<|s5.trans s6) hb (S4.same<|s5.trans s6) T4' off4 nw4 (sb.trans<|Same.sb<|s5.trans s6)
  have I5:=I4.same s5
  have S5:=S4.same s5;obtain⟨dx5,ho5⟩:=I5.st.ob;push_cast[↓bA_];refine CW (SqL.of S5.s) (n:=0) rfl rfl {_,dS S5.dl,?_};by_cases hy5:has L' y=true
  ·refine CI (λw=>absurd (hy5.symm.trans w) (by decide)) (x2 _ _ {ho5,B3,?_});obtain⟨i,hi⟩:=NB.mp hy5;obtain⟨⟨i',l5,ts⟩,he,w⟩:=S5.bk.lr _ hi;cases w;exact Fk T4 I5 T4' S5.s (λH6 s6=>LB (s6 _ _ S5.dl) (JV S5.bk.ln hi)) S5.dr S5.bk.rn hi he (S5.e _ he) λp H6 s6 e1 e2 hg=>eC (za6 (n:=5) (by decide) (Dat.lst e1 (bD hg).choose_spec) (Dat.lst e2 (bD hg).choose_spec) (fin H6 s6))
  ·exact CM (lj.mpr hy5) (fin H5<|Same.refl _)
 refine OS X cs tks M L R fr pl kind y z u at' nt {rfl,T4,TX,I0.same s3,hcs,hk,ny,nz,pu,S.bk,T,hnt,λcs' tks' M' H4 I4 hb h1 h2 sb4=>?_}
 have S4:=(S0.same s3).sb sb4 λw hw hx=>hx.elim (off w hw).1 (off w hw).2
 have sb:SameBut (λx=>X.S.A.F x\/x=X.S.tk\/EL st d rr R x) H H4:=λb o e n=>sb4 _ _ (s3 _ _ e) λw=>n<|w.imp id .inl
 have fl:∀ {w:Addr},H4 w=none->¬ X.S.A.F w/\w≠X.S.tk:=λh=>{I4.st.bk.off h,λz=>by rw[z,I4.st.tk]at h;cases h}
 push_cast[↓zF_];by_cases due:IK X L R kind y z at' nt="";refine CM (congrArg bw due) ?_;refine u2 ?_<|zw9 S.bk hnt due;rintro g ts Y;refine Gv st d rr L R fr kind y z u at' g ts {rfl,S4,fw,hk,{(WF ny).2,(WF nz).2,(Ep pu).2},Y,λl5 H5 hl5 S5 G6=>?_};obtain⟨pl',T5⟩:=h2 due g ts l5 Y;refine tail cs' tks' M' _ _ _ pl' H5 (I4.sbG G6 (λw hw=>cI S4 hw) off) hb S5 T5 (λw hw=>?_) (λw hw=>?_) λb o e n=>G6 _ _ (sb _ _ e n) λw=>n<|.inr<|.inr w;rcases Fl hw with⟨k,rfl⟩|h
 exact fl<|hl5 k;exact off w h;refine(Fl hw).imp (λhzz=>?_) id;obtain⟨k,rfl⟩:=hzz;cases e:H w with
 |none=>rfl
 |some o =>
  have:=hl5 k;rw[sb4 _ _ (s3 _ _ e) λz=>z.elim (fl this).1 (fl this).2]at this;cases this
 refine CI (λw=>due ?_) ?_;rcases zxu (m0:=X.m0) (m1:=X.r*X.w) (m2:=X.c*X.w) (L:=L) (R:=R) (kind:=kind) (y:=y) (z:=z) (x:=at') (nt:=nt)with h|h|h|h|h
 rw[show GO (X.n*X.w) (X.r*X.w) (X.c*X.w) L R kind y z at' nt=_ from h]at w;exact absurd w (by decide +kernel);rw[show GO (X.n*X.w) (X.r*X.w) (X.c*X.w) L R kind y z at' nt=_ from h]at w;exact absurd w (by decide +kernel);rw[show GO (X.n*X.w) (X.r*X.w) (X.c*X.w) L R kind y z at' nt=_ from h]at w;exact absurd w (by decide +kernel);rw[show GO (X.n*X.w) (X.r*X.w) (X.c*X.w) L R kind y z at' nt=_ from h]at w;exact absurd w (by decide +kernel);exact h;exact tail cs' tks' M' L R fr pl H4 I4 hb S4 (h1 due) off (λv h=>.inr h) sb
example:(zxw,RG,yO,5,h):=by
 revert h;refine OU ?_;rintro X cs tks M ly gp st d rr L R fr pl vw ⟨rfl,T4,I,sz,S,T,off,G,hv,q⟩;refine x3 ly gp vw {rfl,G,λl H1 hl s1 F1=>{by decide,λp hp=>?_}};rw[hv]at F1;obtain⟨ps,e1,P⟩:=F1;cases P;refine nC (VL  (SqL.of<|(AL hp) _ _ e1) (SqL.of AE) (λv hv=>by cases hv) ?_);replace s1:=s1.trans<|AL (o:=.lst []) hp;revert s1;intro s1
 have I1:=I.same s1;obtain⟨dx,ho⟩:=I1.st.ob
 have S1:=S.same s1;push_cast[↓yL_];refine x2 _ _ {ho,B3,Fj T4 I1 T S1 sz λl1 l2 ks H2 s2 e1 e2 hg=>nC<|VL e1 e2 hg ?_}
 have I2:=I1.same s2
 have S2:=S1.same s2;replace s2:=s1.trans s2;push_cast[↓yN_];refine CW (SqL.of S2.s)  rfl rfl {d,rfl,_,S2.dl,λo=>?_}
 have s3:SameBut _ H2 (upd H2 d<|.frz o<|.dK<|lK L):=λy o' e n=>by rw[AG n];exact e
 have e3:upd H2 d _ d=some (.frz o<|.dK<|lK L):=AE;revert s3 e3;refine λs3 e3=>zck (λi σ H'=>(SameBut _ H2 H'/\H' d=some _)/\∃ y4,σ=[some _,some _,some _,some _,y4]) {⟨s3,e3⟩,_,rfl} (by rintro i σ H' z ⟨⟨z,e⟩,z⟩;exact e) (λi k v σ H' ekv hzz=>?_) (λσ H' hzz=>?_);obtain⟨⟨s,e⟩,y4,rfl⟩:=hzz;unfold lK at ekv;rw[τ,au]at ekv;obtain⟨⟨y,j⟩,ey,w⟩:=ekv
 have hy:=η ey;cases w;obtain⟨⟨j',l,ts⟩,he,rfl⟩:=S2.bk.lr _ hy;obtain⟨a1,a2,a3,a4⟩:=S2.apart he
 have C:=I2.sbG s (λw hw=>by rw[hw];exact MO S2.dl) λw hw=>by rw[hw];exact off d<|.inr<|.inl rfl
 obtain⟨dx,ho⟩:=C.st.ob;push_cast[↓yM_];refine x2 _ _ {ho,B3,Fk T4 C T (s _ _ S2.s a3) (λH4 s4=>.inl<|x2 _ _ {.inr {o,s4 _ _ e},rfl,(JV S2.bk.ln hy).symm}) (s _ _ S2.dr S2.ne.1.symm) S2.bk.rn hy he {s _ _ (S2.e _ he).1 a1,(S2.e _ he).2} λp H4 s4 e1 e2 hg=>nC<|VL e1 e2 hg ?_};exact{λy o' e' n=>s4 _ _<|s _ _ e' n,s4 _ _ e};obtain⟨⟨s,e⟩,y4,rfl⟩:=hzz;refine{e,?_};refine q _ λy o' e'=>?_;by_cases n:y=d;rw[n,AE,<-S2.dl,<-n];exact s2 _ _ e';rw[AG n];exact s _ _ (s2 _ _ e') n
def cJ{n:Nat}{p:Wu}{f:Ru}(h:CZ n p f=[]){k:Nat}(hk:k<n):p k=false:=lj.mpr λw=>(vj.mp (wz.mp h) k (ak.mpr hk)) w
def zxx{R:Sr}{q:Int}{l:Addr}{ts:Xu}(rn:(R.map (·.1)).Nodup)(ap:(R.map (·.2.1)).Nodup)(hl:∀ e∈R,e.2.1≠l):∃ R',rK R'=B0 (rK R) (.inl q) (.ref l)/\(R'.map (·.1)).Nodup/\(R'.map (·.2.1)).Nodup/\(q,l,ts)∈R'/\(∀ e∈R',e=(q,l,ts)\/e∈R)/\∀ e∈R,∃ e'∈R',e'.1=e.1:=by
 by_cases h:∃ e∈R,e.1=q;refine{R.map λe=>if e.1=q then(q,l,ts)else e,?_,?_,?_,?_,λe he=>?_,λe he=>{_,sx he,by split<;>first|exact Eq.symm ‹_› | rfl}};unfold B0;rw[if_pos (by rw[J3];exact cD.mpr (by obtain⟨e,he,w⟩:=h;exact{e,he,by rw[w]}))];unfold rK;rw[ff,ff];refine jf λe y=>?_;simp only[o_];by_cases w:e.1=q;rw[if_pos w,if_pos (by rw[w]),w];rw[if_neg w,if_neg λz=>w<|Br z];rw[ff,show((·.1) ∘ λe:RE=>if e.1=q then(q,l,ts)else e)=(·.1)from funext λe=>by simp only[o_];split<;>first|exact Eq.symm ‹_› | rfl];exact rn;rw[ff];refine gj.mpr<|l_ (λ{e e'} he he' ⟨h1,h2⟩=>?_) ((gj.mp rn).and (gj.mp ap));simp only[o_];by_cases w:e.1=q;rw[if_pos w,if_neg λw'=>h1<|w.trans w'.symm];exact λz=>hl e' he' z.symm;rw[if_neg w];split;exact hl e he;exact h2;obtain⟨e,he,w⟩:=h;exact af.mpr {e,he,if_pos w};obtain⟨e',he',rfl⟩:=af.mp he;split;exact .inl rfl;exact .inr he'
 have no:=λe he w=>h ⟨e,he,w⟩;refine{R++[(q,l,ts)],?_,?_,?_,by simp,λe he=>?_,λe he=>{e,cf _ he,rfl}};rw[K2 _ (Ec no)];unfold rK;rw[χ];rfl;rw[χ,gi];refine{rn,by simp,λp hp p' hp' e=>?_};obtain⟨e',he',rfl⟩:=af.mp hp;exact no e' he' (e.trans (by simpa using hp'));rw[χ,gi];refine{ap,by simp,λp hp p' hp' e=>?_};obtain⟨e',he',rfl⟩:=af.mp hp;exact hl e' he' (e.trans (by simpa using hp'));rcases ao.mp he with he|he
 exact .inr he;exact .inl<|ρ.mp he
def zxy{p q:Addr}{xs ys:Tr}{Q:VK}(h1:H p=some (.lst xs))(h2:H q=some (.lst ys))(hl:xs.length+ys.length<=1000)(k:∀ r,H r=none->Q (.ref r) (upd H r<|.lst<|xs++ys)):BH K (.ref p) (.ref q) H Q:=.inl (x4 p q xs ys {rfl,rfl,h1,h2,ψ hl (by decide),k})
def Fm{α β :Type}{F: α -> β ->Prop}:∀ {l:List α},(∀ x∈l,∃ y,F x y)->∃ m,Paired F l m
 | [],_=>{[],.nil}
 |x::l,h=>by
  obtain⟨m,hm⟩:=Fm  λz hz=>h z<|ω _ hz;obtain⟨y,hy⟩:=h x ai;exact{_,.cons hy hm}
def G5(vw:Vw)(i:Nat):LD:=(vw.nm.take i).filterMap λc=>c.map λp=>(p.1,(p.2:Int))
structure RI(H1:Hp)(vw:Vw)(d rr:Addr)(L:LD)(R:Sr)(H':Hp):Prop where
 s:SameBut (λx=>x=d\/x=rr) H1 H'
 dl:H' d=some (.dK<|lK L)
 dr:H' rr=some (.dK<|rK R)
 e:∀ e∈R,H' e.2.1=some (.lst<|e.2.2.map V.str)/\∀ t∈e.2.2,cy t=true
 fr:∀ e∈R,H1 e.2.1=none
 ap:(R.map (·.2.1)).Nodup
 ln:(L.map (·.1)).Nodup
 rd:ZO vw L R
def RdI(H1:Hp)(vw:Vw)(gp t f:Addr)(y3:Option V)(w:Nat)(rp pp d rr:Addr)(i:Nat)(σ:St)(H':Hp):Prop:=∃ R,RI H1 vw d rr (G5 vw i) R H'/\∃ y9,σ=[some (.ref gp),some<|.ref t,some<|.ref f,y3,some<|.int w,some<|.ref rp,some<|.ref pp,some<|.ref d,some<|.ref rr,y9]
example:(zx0,RH,wF,10,h):=by
 revert h;refine OT ?_;rintro gp cl t n r c w rows m vw ⟨rfl,TP,P0,rl,⟨⟨v1,v2,v3,v4,v5,ef,P1,P2,P3,_,_⟩,ln,lr,lp,ok⟩,et,⟨hn,hr,hc,hw⟩,hf,q⟩
 have l2:=P2.length.trans lr
 have l1:=P1.length.trans ln
 have b2:=ii hr hw
 have b1:=ii hn hw
 have fl:(rows.take<|n+r+c).flatten=v1++v2++v3:=by
  have e:=congrArg List.flatten (ku (n+r+c) rows).symm;rw[En,ef,gg<|v1++v2++v3]at e;refine(List.append_inj e ?_).1.symm;rw[OJ λx hx=>P0.wd x<|wp hx,de,rl,ui (by lia),ae,ae,l1,l2,(P3.length.trans lp),dq,dq]
 have fb:∀ i,(rows.take i).flatten.length<=100:=λi=>by
  rw[OJ λx hx=>P0.wd x<|wp hx,de];refine ψ (ii (ψ (zt ..) (by rw[rl];lia:rows.length<=15)) hw) (by decide)
 refine{by decide,λf0 hf0=>nO hf0 λH1 s1 e1=>?_};push_cast[↓v6_];refine BB (s1 _ _ et) (n:=0) rfl rfl (BB (s1 _ _ et) (n:=1) rfl rfl ?_);refine BB (s1 _ _ et) (n:=2) rfl rfl ?_;push_cast[];rw[show((n:Int)+r+c)=((n+r+c:Nat):Int)from rfl,az];refine{by lia,by lia,QC (λi σ H'=>∃ f,(Same H H'/\H' f=some (.lst (rows.take i).flatten))/\∃ y3,σ=[some (.ref gp),some<|.ref t,some<|.ref f,y3,none,none,none,none,none,none]) {f0,⟨s1,e1⟩,_,rfl} (λi σ H' hi hzz=>?_) (λσ H' hzz=>?_)};obtain⟨f,⟨s,ef⟩,y3,rfl⟩:=hzz
 have P:=P0.same s;obtain⟨dp,ep⟩:=P.ob;push_cast[↓v0_,vh];refine x2 _ _ {ep,LI _ _ _ (by decide +kernel) (by decide +kernel) (by decide +kernel),x6 gp cl w rows m i {rfl,TP,P,λj row ej er l hl=>?_,λz=>by lia}};obtain⟨H2,zz,s2,e2⟩:=D0 (o:=.lst row) hl;rw[zz];cases Ov.mp ej;refine zxy (s2 _ _ ef) e2 (by have:=fb i;have:=P0.wd row<|η er;lia) λf2 hf2=>{(s.trans s2).trans (AL hf2),f2,?_,rfl}
 rw[AE,dz,er,En];simp;obtain⟨f,⟨s,ef⟩,y3,rfl⟩:=hzz;rw[fl]at ef
 have et1:=s _ _ et
 have mu:∀ {p:Nat},p<=6->CMul (p:Int) (w:Int):=λhp=>.inl {by lia,by lia};refine BB et1 (n:=3) rfl rfl ?_;refine BB et1 (n:=0) rfl rfl ?_;refine{mu (by lia),T6 (SqL.of ef) λrp hrp=>?_};rw[<-ud,YN _ (by lia),az,gg,<-l1,Dr];refine nO hrp λH2 s2 e2=>?_
 have ef2:=s2 _ _ ef;replace s2:=s.trans s2;refine BB (s2 _ _ et) (n:=0) rfl rfl (BB (s2 _ _ et) (n:=1) rfl rfl ?_);refine{mu (p:=n+r) (by lia),T6 (SqL.of ef2) λpp hpp=>?_};rw[show((n:Int)+r)*w=((n*w+r*w:Nat):Int) by rw[<-dq];exact(ud _ _).symm,YN _ (by lia),az,show n*w+r*w=(v1++v2).length by rw[ae,l1,l2],Dr];refine nO hpp λH3 s3 e3=>?_
 have ef3:=s3 _ _ ef2
 have er3:=s3 _ _ e2;replace s3:=s2.trans s3;clear s2 s et1 ef ef2 e2;push_cast[↓v7_];refine λd hd=>nO hd λH4 s4 e4=>?_;push_cast[↓v8_];refine λrr hrr=>nO hrr λH5 s5 e5=>?_
 have ed5:=s5 _ _ e4
 have ndr:d≠rr:=BE e4 hrr
 have s35:=s4.trans s5
 have hd0:=s3.free hd
 have hr0:=(s3.trans s4).free hrr;push_cast[↓wD_];refine BB ((s3.trans s35) _ _ et) (n:=0) rfl rfl ?_;push_cast[];refine{mu (by lia),T6 (SqL.of<|s35 _ _ ef3) λcp hcp=>?_};rw[<-ud,pG _ (by lia),az,gg,<-l1,Oo];obtain⟨H6,zz,s6,e6⟩:=D0 (o:=.lst v1) hcp;rw[zz]
 have S6:Same H H6:=(s3.trans s35).trans s6
 have er6:=(s35.trans s6) _ _ er3
 have ep6:=(s35.trans s6) _ _ e3
 have nd:∀ {b:Addr} {xs:Tr},H6 b=some (.lst xs)->¬ (b=d\/b=rr):=λ{b xs} e z=>by
  rcases z with z|z
  ·rw[z,s6 _ _ ed5]at e;cases e
  ·rw[z,s6 _ _ e5]at e;cases e
 have fN:CZ vw.nm.length (GK vw) (λk=>[.str "lost",.int k])=[]/\CZ vw.nm.length (G1 vw) (λk=>[.str "twice",.int k])=[]:=by
  unfold faults N5 at hf;simp only[ka]at hf;exact hf.1.1
 have fE:CZ vw.pc.length (λp=>decide (0<EJ vw p)&&(AS vw.pc p).isNone) (λp=>[.str "empty",.int p])=[]:=by
  unfold faults N6 at hf;simp only[ka]at hf;exact hf.1.2.1.2
 refine .inl {{_,SqL.of e6},IC (xs:=v1) (RdI H6 vw gp t f y3 w rp pp d rr) {[],{Same.sb<|Same.refl _,s6 _ _ ed5,s6 _ _ e5,λ_ h=>(by cases h),λ_ h=>(by cases h),.nil,.nil,.nil,λ_ h=>(by cases h),λ_ h=>(by cases h)},_,rfl} (λi σ H' _ ⟨R,J,_⟩=>SqL.of<|J.s _ _ e6<|nd e6) (λi v σ H' ev hzz=>?_) (λσ H' hzz=>?_)}
 ·obtain⟨R,J,y9,es⟩:=hzz;subst es;obtain⟨cv,ec,hv⟩:=RK P1 ev
  have hi:=(ε.mp ec).1
  have e1:G5 vw (i+1)=G5 vw i++[cv].filterMap λc=>c.map λp=>(p.1,(p.2:Int)):=by
   unfold G5;rw[dz,ec,Bn];rfl
  push_cast[↓wC_];cases cv with
  |none =>
   obtain rfl:v=.non:=hv;push_cast[];exact{R,by rw[e1];simpa using J,_,rfl}
  | some zq =>
   obtain⟨z,k⟩:=zq;obtain⟨p,rfl,ep⟩:=hv
   have ea:AS vw.nm i=some (z,k):=by unfold AS;rw[ec];rfl
   have tw:=cJ fN.2 hi
   have lo:=cJ fN.1 hi;unfold G1 at tw;unfold GK at lo;rw[ea]at tw lo
   have lo:(AS vw.rc k).isNone=false:=lo;obtain⟨⟨m',ps⟩,e3⟩:∃ x,AS vw.rc k=some x:=by
    cases e:AS vw.rc k with
    |none=>rw[e]at lo;cases lo
    |some x=>exact⟨x,rfl⟩
   have ek:vw.rc[k]? =some (some (m',ps)):=mw.mp e3
   have no:∀ j,(z,j)∉G5 vw i:=λj hj=>by
    obtain⟨c,hc,ej⟩:=jj.mp hj;obtain⟨x,rfl,w⟩:=au.mp ej;obtain⟨b,hb⟩:=vo.mp hc;rw[Gf]at hb;split at hb
    ·have:=uy.mp tw b<|ak.mpr ‹_›;rw[show AS vw.nm b=some x by unfold AS;rw[hb];rfl]at this;cases w;simp at this
    ·cases hb
   have S7:∀ {b:Addr} {o:HO},H b=some o->H' b=some o:=λ{b o} e=>J.s _ _ (S6 _ _ e) λz=>by
    rcases z with z|z
    ·rw[z,hd0]at e;cases e
    ·rw[z,hr0]at e;cases e
   obtain⟨v2k,e2k,WI⟩:=GS P2 ek;revert WI;refine u2 ?_;rintro pr u ⟨rfl,epr,eu⟩
   have er7:=J.s _ _ er6<|nd er6
   have ep7:=J.s _ _ ep6<|nd ep6
   have ixr:∀ {G:VK},G (.ref pr) H'->BR K (.ref rp) (.int k) H' G:=λg=>CW (SqL.of er7) (n:=k) rfl (by rw[ba (ε.mp e2k).1];exact e2k) g;push_cast[];push_cast[↓v9_];refine BB (S7 ep) (n:=0) rfl rfl {_,dS J.dl,?_};rw[R4 no];refine CI (by simp) (BB (S7 ep) (n:=1) rfl rfl (ixr (CI (by simp) ?_)));push_cast[↓wA_];refine BB (S7 ep) (n:=1) rfl rfl (BB (S7 ep) (n:=0) rfl rfl {_,pS J.dl (by rw[OL];exact cr (ψ (ik ..) (Eo ..)) (by lia)),?_});rw[K2 _ (R4 no),WA]
   have s8:SameBut (· =d) H' (upd H' d<|.dK<|lK<|G5 vw i++[(z,(k:Int))]):=λb o e n=>by rw[AG n];exact e
   have e8:upd H' d (.dK<|lK<|G5 vw i++[(z,(k:Int))]) d=_:=AE;revert s8 e8;generalize upd H' d (.dK<|lK<|G5 vw i++[(z,(k:Int))])=H8;intro s8 e8
   have S8:∀ {b:Addr} {o:HO},H b=some o->H8 b=some o:=λ{b o} e=>s8 _ _ (S7 e) λz=>by rw[z,hd0]at e;cases e
   have er8:=s8 _ _ er7 λz=>nd er6<|.inl z
   have ep8:=s8 _ _ ep7 λz=>nd ep6<|.inl z
   have rd8:=s8 _ _ J.dr ndr.symm;obtain⟨ts,Pt⟩:∃ ts,Paired (λp t=>AS vw.pc p=some t) ps ts:=Fm λp' hp'=>by
    have hp:=(ok.n2 _<|η ek).1 p' hp'
    have:=cJ fE hp;rw[decide_eq_true (show 0<EJ vw p' from kq.mpr<|jo.mpr {_,η ek,hp'}),Ff]at this;cases e:AS vw.pc p' with
    |none=>rw[e]at this;cases this
    |some x=>exact⟨x,rfl⟩
   have hps:ps.length<=20:=(ok.n2 _<|η ek).2;push_cast[↓wB_];refine BB (S8 ep) (n:=1) rfl rfl (CW (SqL.of er8) (n:=k) rfl (by rw[ba (ε.mp e2k).1];exact e2k) (BB (S8 epr) (n:=1) rfl rfl (.inr {{_,SqT.of<|S8 eu},bI (xs:=AX ps) (CJ _ (by simp[AX];lia)) (λj ys H'=>H'=H8/\ys=(ts.take j).map V.str) ⟨rfl,rfl⟩ (λj ys H' _ ⟨e,_⟩=>by rw[e];exact SqT.of<|S8 eu) (λj x ys Hx hx hyl ⟨e,ey⟩=>?_) (λys Hx hyl ⟨e,ey⟩ l hl=>?_)})))
   ·cases e.symm;unfold AX at hx;rw[τ,au]at hx;obtain⟨p',ep',rfl⟩:=hx;obtain⟨t',et',at'⟩:=RK Pt ep';obtain⟨vp,evp,hvp⟩:=GS P3<|mw.mp at';obtain rfl:vp=.str t':=hvp;push_cast[C1];refine CW (SqL.of ep8) (n:=p') rfl evp {rfl,?_};rw[ey,dz,et',χ];rfl
   ·cases e.symm
    have lts:(AX ps).length=ts.length:=by rw[<-Pt.length];simp[AX]
    rw[lts,ce]at ey;subst ey;obtain⟨H9,zz,s9,e9⟩:=D0 (o:=.lst<|ts.map V.str) hl;rw[zz]
    have a7:∀ {b:Addr} {o:HO},H' b=some o->b≠d->b≠l:=λe n=>BE (s8 _ _ e n) hl
    have ne:∀ e∈R,e.2.1≠d/\e.2.1≠rr/\e.2.1≠l:=λe he=>by
     have:=(J.e e he).1
     have n1:e.2.1≠d:=λw=>by rw[w,J.dl]at this;cases this
     exact{n1,λw=>(by rw[w,J.dr]at this;cases this),a7 this n1}
    obtain⟨R',k1,k2,k3,k4,k5,k6⟩:=zxx (q:=k) (l:=l) (ts:=ts) J.rd.rn J.ap λe he=>(ne e he).2.2;refine BB (s9 _ _<|S8 ep) (n:=1) rfl rfl {_,pI (s9 _ _ rd8) ?_,R',?_}
    ·rw[R5]
     have:=mv J.rd.rn (l₂:=(G5 vw i).map (·.2)) λx hx=>by
      obtain⟨e,he,rfl⟩:=af.mp hx;refine u4 ?_<|J.rd.el e he;rintro y _ _ _ ⟨_,c2,_⟩;exact af.mpr ⟨_,c2,rfl⟩
     rw[ζ,ζ]at this;exact cr (ψ this<|ψ (ik ..) (Eo ..)) (by lia)
    rw[<-k1]
    have l9:l≠rr:=(a7 J.dr ndr.symm).symm
    have l0:l≠d:=λw=>by rw[w,e8]at hl;cases hl
    refine{?_,_,rfl}
    have e1':G5 vw (i+1)=G5 vw i++[(z,(k:Int))]:=e1;rw[e1'];refine{λb o e n=>?_,by rw[AG ndr];exact s9 _ _ e8,AE,λe he=>?_,λe he=>?_,k3,?_,k2,λe he=>?_,λp hp=>?_}
    ·rw[AG λw=>n<|.inr w];exact s9 _ _<|s8 _ _ (J.s _ _ e n) λw=>n<|.inl w
    ·rcases k5 e he with rfl|he
     ·rw[AG l9];refine{e9,λt ht=>?_};obtain⟨b,hb⟩:=vo.mp ht;obtain⟨p',_,h2⟩:=GS Pt hb;exact ok.n3 t<|η<|mw.mp h2
     ·obtain⟨n1,n2,n3⟩:=ne e he;rw[AG n2];exact{s9 _ _<|s8 _ _ (J.e e he).1 n1,(J.e e he).2}
    ·rcases k5 e he with rfl | he
     ·show H6 l=none;cases e:H6 l with
      |none=>rfl
      |some o =>
       exact absurd rfl<|a7 (J.s _ _ e λw=>w.elim l0 l9) l0
     ·exact J.fr e he
    ·rw[χ,gi];refine{J.ln,by simp,λp hp q hq e=>?_};obtain⟨⟨p1,p2⟩,h,rfl⟩:=af.mp hp
     have:q=z:=by simpa using hq
     exact no p2 (by rw[<-this,<-e];exact h)
    ·rcases k5 e he with rfl|he
     ·exact x4 z k m' ps {rfl,by simp,e3,Pt}
     ·refine u4 ?_<|J.rd.el e he;rintro y b m1 ps1 ⟨c1,c2,c3,c4⟩;exact x4 y b m1 ps1 {c1,cf _ c2,c3,c4}
    ·rcases ao.mp hp with hp|hp
     ·obtain⟨e,he,w⟩:=J.rd.lr p hp;obtain⟨e',he',w'⟩:=k6 e he;exact{e',he',w'.trans w}
     ·cases ρ.mp hp;exact⟨_,k4,rfl⟩
 ·obtain⟨R,J,y9,es⟩:=hzz;subst es;push_cast[↓wE_];refine{by decide,λst hst=>?_}
  have eL:G5 vw v1.length=IL vw:=by
   unfold G5 IL;rw[l1,<-ln,ce]
  rw[eL]at J
  have s7:Same H H':=λb o e=>J.s _ _ (S6 _ _ e) λz=>by
   rcases z with z|z
   ·rw[z,hd0]at e;cases e
   ·rw[z,hr0]at e;cases e
  have sst:=AL (o:=.lst [.ref d,.ref rr,.int 1000]) hst;refine q st d rr R _ (s7.free hst) hd0 hr0 (λe he=>S6.free<|J.fr e he) (s7.trans sst) {AE,sst _ _ J.dl,sst _ _ J.dr,λe he=>{sst _ _ (J.e e he).1,(J.e e he).2},{ndr,λe he=>BE (J.e e he).1 hst},J.ap,J.ln,J.rd.rn,J.rd.lr,λe he=>?_,λp hp=>?_} J.rd
  ·refine u4 ?_<|J.rd.el e he;rintro z b m1 ps1 ⟨c1,c2,c3,c4⟩
   have:=(ε.mp<|mw.mp c3).1;rw[c1];lia
  ·obtain⟨cv,hc,e⟩:=jj.mp hp;obtain⟨x,rfl,rfl⟩:=au.mp e;exact(ok.n1 x hc).2
section
variable{n r c w:Nat}{S:Md}
def Fp{q:Nat}(h:BZ n r c w S 1 q=.mk 1):∃ m ps,BZ n r c w S 3 q=.rc m ps:=by
 unfold BZ at h;simp only[if_true]at h;cases e:S 3 q with
 |rc m ps =>
  rw[e]at h;simp only at h;split at h;cases h;exact x2 _ _ (bX e (by lia))
 |_ =>
  rw[e]at h;cases e1:S 1 q with
  |mk i =>
   rw[e1]at h;simp only at h;split at h;cases h;cases h;exact absurd rfl ‹_›
  |_=>rw[e1]at h;cases h
def Fq(b:InL n r c w S){p:Nat}(h:BZ n r c w S 2 p=.mk 1):∃ q m ps,BZ n r c w S 3 q=.rc m ps/\p∈ps:=by
 unfold BZ at h;simp only[kg,if_false,if_true]at h;cases e:S 2 p with
 |mk i =>
  rw[e]at h;simp only at h;split at h;cases h;rename_i hn;cases h;obtain⟨d,hd,hp⟩:=jo.mp<|kq.mp<|nq λz=>hn ⟨rfl,z⟩;obtain⟨q,hq,rfl⟩:=af.mp hd
  have hl:=of_decide_eq_true (cj.mp hq).2;rw[M8]at hl;rw[b.rc]at hp;cases e3:S 3 q with
  |rc m ps =>
   rw[e3]at hp;exact x3 q _ ps {bX e3 hl,hp}
  |_=>rw[e3]at hp;cases hp
 |_=>rw[e]at h;cases h
def Fv{x:CV}(h:FA x=some 1):x=.mk 1:=by
 cases x with
 |mk i =>
  have  :=ι h;rw[show i=1 by lia]
 |_=>cases h
def zx1(b:InL n r c w S):IJ (BK n r c w<|BZ n r c w S)=[]:=by
 have B:=b.mended
 have l0:∀ q,led (BK n r c w<|BZ n r c w S) q=ld _ S q:=λq=>M8 q;unfold IJ N7 N8 N9;rw[IR λk y=>?_,IR λk y=>?_,IR λp y=>?_,IR λk y=>?_]
 rfl;rw[B.rm,B.rc];by_cases h:FA (BZ n r c w S 1 k)=some 1;refine u2 ?_<|Fp<|Fv h;rintro m ps e3;rw[e3];simp[KK];rw[decide_eq_false h,Op];rw[B.pm];by_cases h:FA (BZ n r c w S 2 p)=some 1;refine u3 ?_<|Fq b<|Fv h;rintro q m ps ⟨e3,hp⟩;obtain⟨y,y,hl,y⟩:=IS e3
 have:0<G0 _ p:=kq.mpr (jo.mpr {_,af.mpr {q,cj.mpr {ak.mpr ?_,decide_eq_true (by rw[l0];exact hl)},rfl},by rw[B.rc,e3];exact hp});rw[decide_eq_false (by lia:¬ G0 _ p=0),xy];rw[IQ];rcases fe q _ with z|z
 exact z;rw[B.no 3 q (λhk=>by simp[BN]at hk;lia)]at e3;cases e3;rw[decide_eq_false h,Op];rw[B.rc,l0];cases e:BZ n r c w S 3 k with
 |rc m ps =>
  obtain⟨y,y,h,y⟩:=IS e;rw[decide_eq_false (by lia),xy]
 |_=>rfl
 unfold GL;rw[B.rc,l0];cases e:BZ n r c w S 3 k with
 |rc m ps =>
  obtain⟨y,y,y,rfl⟩:=IS e
  show(_&&decide _)=false;simp
 |_=>rfl
end
def Fw{kind:Nat}{x:CV}(hk:kind=1\/kind=2)(ok:DL kind x):(!CQ kind x)=true↔x=.mk 1:=by
 rcases hk with rfl|rfl
 all_goals
  cases x with
  |mk i =>
   have:i<=1:=ok;simp[CQ]
   lia
  |no=>simp[CQ]
  |_=>exact ok.elim
def Fx{kind m:Nat}{S:Md}{l:ad}(nd:l.Nodup)(h:∀ k,k∈l↔k<m/\(!CQ kind (S kind k))=true):cn kind m S=l.length:=by
 unfold cn;rw[ww];refine((x_ (Lo.filter _) nd).mpr λk=>?_).length_eq;rw[cj,ak,h]
section
variable{n r c w:Nat}{S:Md}
def cK{z:Str}{i:Int}:(z,i)∈IL (BK n r c w S)↔∃ k q,k<n*w/\S 0 k=.nm z q/\i=(q:Nat):=by
 unfold IL BK;rw[jj];constructor;rintro ⟨cv,hc,e⟩;obtain⟨k,hk,rfl⟩:=af.mp hc;obtain⟨⟨z',q⟩,ex,w⟩:=au.mp e;cases w;exact x2 k q {ak.mp hk,Dk ex,rfl};rintro ⟨k,q,hk,e,rfl⟩;exact{_,af.mpr {k,ak.mpr hk,rfl},by rw[e];rfl}
def zx2(q:Nat):ct (IL<|BK n r c w S) (q:Int)=ld (n * w) S q:=by
 unfold ct IL ld BK;generalize ο _=l
 induction l with
 |nil=>rfl
 |cons k l ih =>
  rw[ca,wc];cases e:S 0 k with
  |nm z q' =>
   show On _ ((q':Int)::_)=_;rw[A_,ih];by_cases h:q'=q;subst h;simp[FL]
   have:¬ ((q':Int)=q):=by lia
   simp[FL,h,this]
  |_=>exact ih
def zx3{R:Sr}(s:Snd (n*w) S)(b:InL n r c w S)(J:ZO (BK n r c w<|BZ n r c w S) (IL<|BK n r c w<|BZ n r c w S) R):Mt (n*w) (r*w) (c*w) (BZ n r c w S) (IL<|BK n r c w<|BZ n r c w S) R Pn:=by
 have D:=s.mended b
 have B:=b.mended
 have rc:∀ e∈R,∃ q ps,e.1=(q:Nat)/\BZ n r c w S 3 q=.rc _ ps/\Paired (λp t=>BZ n r c w S 4 p=.tx t) ps _:=λe he=>by
  refine u4 ?_<|J.el e he;rintro z q m ps ⟨e1,hz,e3,P⟩;rw[B.rc]at e3;obtain⟨m',e3',v⟩:=Dl e3;obtain⟨v,v,v,rfl⟩:=IS e3';exact x2 q ps {e1,e3',Paired.mapP P λp t h=>Dm (by rw[<-B.pc];exact h)}
 have led:∀ q m ps,BZ n r c w S 3 q=.rc m ps->q<r*w/\∃ e∈R,e.1=q:=λq m ps e3=>by
  obtain⟨v,v,hl,v⟩:=IS e3;refine u2 ?_<|bW hl;rintro k z ⟨hk,e0⟩;obtain⟨e,he,w⟩:=J.lr _<|cK.mpr<|x2 k q ⟨hk,e0,rfl⟩;refine u2 ?_<|s.rl b hk e0;rintro v v ⟨hq,v⟩;exact⟨hq,e,he,w⟩
 have nk:(R.map λe=>e.1.toNat).Nodup:=gj.mpr (l_ (λ{e e'} he he' h w=>by
  refine u2 ?_<|rc e he;rintro q v ⟨e1,v⟩;refine u2 ?_<|rc e' he';rintro q' v ⟨e1',v⟩;rw[e1,e1',az,az]at w;exact h (by rw[e1,e1',w])) (gj.mp J.rn))
 refine{λz q=>?_,λe he=>?_,λe he e' he' h=>?_,?_,?_,?_};constructor;rintro ⟨k,hk,e⟩;exact{q,cK.mpr<|x2 k q ⟨hk,e,rfl⟩,az _};rintro ⟨i,hi,rfl⟩;refine u2 ?_<|cK.mp hi;rintro k q ⟨hk,e,rfl⟩;exact⟨k,hk,e⟩;refine u2 ?_<|rc e he;rintro q ps ⟨e1,e3,P⟩;refine{ps,?_,P};rw[e1,zx2];exact e3;refine u2 ?_<|rc e he;rintro q v ⟨e1,v⟩;refine u2 ?_<|rc e' he';rintro q' v ⟨e1',v⟩;rw[e1,e1',az,az]at h;rw[e1,e1',h];unfold cn IL BK;rw[List.length_filterMap_eq_countP,Mr];refine yy λk hk=>?_
 have ok:=B.ok 0 k;simp only[o_];cases e:BZ n r c w S 0 k with
 |no=>simp[CQ,LW]
 |nm z q=>simp[CQ,LW]
 |_=>rw[e]at ok;exact ok.elim
 rw[Fx nk λk=>?_,ζ];rw[Fw (.inl rfl) (B.ok 1 k),af];constructor;rintro ⟨e,he,rfl⟩;refine u2 ?_<|rc e he;rintro q ps ⟨e1,e3,v⟩;rw[e1];exact{(led _ _ _ e3).1,D.mr _ _ _ e3};rintro ⟨v,h⟩;refine u2 ?_<|Fp h;rintro m ps e3;obtain⟨v,e,he,w⟩:=led _ _ _ e3;exact{e,he,by rw[w];exact az _}
 have ps0:∀ e∈R,∃ q ps,e.1.toNat=q/\BZ n r c w S 3 q=.rc _ ps/\JL (KK<|BZ n r c w S 3 e.1.toNat)=ps/\ps.length=e.2.2.length:=λe he=>by
  refine u2 ?_<|rc e he;rintro q ps ⟨e1,e3,P⟩;refine x2 q ps {by rw[e1];exact az _,e3,?_,P.length};rw[e1,az,e3];rfl
 rw[Fx (l:=R.flatMap λe=>JL _) ?_ λp=>?_,List.length_flatMap]
 congr 1
 exact jf λe he=>by
  refine u2 ?_<|ps0 e he;rintro v ps ⟨v,v,e1,e2⟩;rw[e1];exact e2
 refine Bo.mpr {λe he=>?_,l_ (λ{e e'} he he' h x hx y hy w=>?_) (gj.mp nk)};refine u2 ?_<|ps0 e he;rintro q ps ⟨v,e3,e1,v⟩;rw[e1];exact D.nd _ _ _ e3;refine u2 ?_<|ps0 e' he';rintro q' ps' ⟨rfl,e3',e1',v⟩;refine u2 ?_<|ps0 e he;rintro q ps ⟨rfl,e3,e1,v⟩;rw[e1]at hx;rw[e1']at hy;exact D.dj _ _ _ _ _ _ h e3 e3' x hx<|w ▸ hy;rw[Fw (.inr rfl) (B.ok 2 p),jo];constructor;rintro ⟨e,he,hp⟩;refine u2 ?_<|ps0 e he;rintro q ps ⟨v,e3,e1,v⟩;rw[e1]at hp;exact{(D.few B e3).1 p hp,(D.pm _ _ _ e3 p hp).1};rintro ⟨v,h⟩;refine u3 ?_<|Fq b h;rintro q m ps ⟨e3,hp⟩;obtain⟨v,e,he,w⟩:=led _ _ _ e3;exact{e,he,by rw[w,az,e3];exact hp}
end
def zx4(ns:Zu):∃ ms:Zu,FU (ns.map V.int) (some 2) none=ms.map V.int/\ms.length<=ns.length - 2:=by
 refine{(ns.drop<|HT.sIx ns.length 0<|some 2).take (HT.sIx ns.length ns.length none-HT.sIx ns.length 0 (some 2)),?_,?_}
 ·unfold FU;rw[ζ,<-Fa,<-E_]
 ·rw[de,ke]
  have:HT.sIx ns.length 0 (some 2)=min 2 ns.length:=by
   unfold HT.sIx
   try lia
  rw[this];refine ψ (zt _ _) ?_;rcases Nat.le_total 2 ns.length with h|h
  ·rw[ui h];exact υ _
  ·rw[Ku h,xj];exact bu _
structure B63(ly gp cl:Addr)(n r c w:Nat)(nl rl t:Addr)(zs:Xu)(ms:Zu)(X:SX)(H:Hp):Prop where
 e:X.S.lp=ly/\X.S.A.gp=gp/\X.S.A.cl=cl/\X.n=n/\X.r=r/\X.c=c/\X.w=w
 sz:n<=3/\r<=3/\c<=3/\w<=6
 nm:VC H nl zs
 er:H rl=some (.lst<|ms.map V.int)
 et:H t=some (.tup [.int n,.int r,.int c,.int w])
 fn:¬ X.S.A.F nl
 fr:¬ X.S.A.F rl
structure L63(a:Ad)(ly gp cl:Addr)(n r c w:Nat)(nl rl t:Addr)(zs:Xu)(ms:Zu)(i:Nat)(X:SX)(st:Addr)(H:Hp):Prop where
 b:B63 ly gp cl n r c w nl rl t zs ms X H
 st:∃ cs tks M d rr L R fr pl,C6 a H X cs tks M/\cs.length+cn 2 (X.c*X.w) M.f<=18+4*i/\SAt H st d rr L R fr/\MX X M L R pl/\OC X st d rr R/\∀ x,EL st d rr R x->x≠nl/\x≠rl
structure U63(a:Ad)(ly gp cl:Addr)(n r c w:Nat)(nl rl t:Addr)(zs:Xu)(ms:Zu)(X:SX)(S:Md)(H:Hp):Prop where
 b:B63 ly gp cl n r c w nl rl t zs ms X H
 s:Snd (n*w) S
 i:InL n r c w S
 c:C6 a H X [] [] {BZ n r c w S,[]}
section
variable{ly gp cl:Addr}{n r c w:Nat}{nl rl t st:Addr}{zs:Xu}{ms:Zu}{i:Nat}{X:SX}{S:Md}{P:VK}
def B63.sb{G:Addr->Prop}{H':Hp}{cs:Rr}{tks:tZ}{M:Hs}(B:B63 ly gp cl n r c w nl rl t zs ms X H)(C:C6 a H X cs tks M)(s:SameBut G H H')(g:∀ x,G x->X.S.A.F x\/x=X.S.tk\/x=X.S.A.gp\/x≠nl/\x≠rl/\ER (H x)):B63 ly gp cl n r c w nl rl t zs ms X H':=by
 obtain⟨y,ep⟩:=C.st.bk.pk.ob
 have ls:∀ {l:Addr} {xs:Tr},¬ X.S.A.F l->(l=nl\/l=rl)->H l=some _->H' l=some (.lst xs):=λ{l xs} nF hl e=>s _ _ e λz=>by
  rcases g l z with z|z|z|z
  exact nF z;rw[z,C.st.tk]at e;cases e;rw[z,ep]at e;cases e;exact hl.elim z.1 z.2.1
 have e:=B.et;refine{B.e,B.sz,{ls B.fn (.inl rfl) B.nm.1,B.nm.2},ls B.fr (.inr rfl) B.er,s _ _ B.et λz=>?_,B.fn,B.fr};rcases g t z with z|z|z|z
 exact(C.st.bk.loose z).1 _ e;rw[z,C.st.tk]at e;cases e;rw[z,ep]at e;cases e;exact z.2.2.1 _ e
def L63.same{H':Hp}(J:L63 a ly gp cl n r c w nl rl t zs ms i X st H)(s:Same H H'):L63 a ly gp cl n r c w nl rl t zs ms i X st H':=by
 obtain⟨B,cs,tks,M,d,rr,L,R,fr,pl,C,hb,S,T⟩:=J;exact{B.sb C (Same.sb  s) λy z=>jk z,x9 cs _ M d rr L R fr pl {C.same s,hb,S.same s,T}}
def L63.deed{x:Int}(T4:CL K a)(TX:TD K a)(J:L63 a ly gp cl n r c w nl rl t zs ms i X st H)(hi:i<=61)(q:∀ H',L63 a ly gp cl n r c w nl rl t zs ms (i+1) X st H'->P (.bl true) H'):VD K a [.ref X.S.st,.ref st,.ref t,.int x,.ref nl] H P E:=by
 obtain⟨B,cs,tks,M,d,rr,L,R,fr,pl,C,hb,S,T,off,nw⟩:=J
 have B':=B;obtain⟨⟨a1,a2,a3,rfl,rfl,rfl,rfl⟩,sz,nm,er,et,fn,fr'⟩:=B;refine OS X cs _ M st d rr t nl L R fr pl zs {x,rfl,T4,TX,C,by lia,S,T,off,nm,fn,et,sz,λcs' tks' M' L' R' fr2 pl' H' C' hb' S' T' off' nw' sb=>q H' {B'.sb C sb λy hy=>?_,x9 _ _ M' d rr L' R' _ _ {C',by lia,S',T',off',λy hy=>?_}}};rcases hy with h|h|h
 exact .inl h;exact .inr<|.inl h;exact .inr<|.inr<|.inr {(nw y h).1,(nw y h).2,cI S h};rcases nw' y hy with h|h
 exact{λz=>(by rw[z,nm.1]at h;cases h),λz=>(by rw[z,er]at h;cases h)};exact nw y h
def L63.write{b:Nat}(T4:CL K a)(J:L63 a ly gp cl n r c w nl rl t zs ms i X st H)(hb:b<n+r+c+r+c)(q:∀ t' X' H',X'.S.st=X.S.st->L63 a ly gp cl n r c w nl rl t zs ms (i+1) X' st H'->P (.ref t') H'):U5 K a [.ref X.S.st,.int (b:Nat)] H P E:=by
 obtain⟨B,cs,tks,M,d,rr,L,R,fr,pl,C,h1,S,T,off,nw⟩:=J;obtain⟨a1,a2,a3,rfl,rfl,rfl,rfl⟩:=B.e
 have hr:b<X.rows.length:=by rw[C.st.sz.2.2.2.2];exact hb
 obtain⟨v,ep⟩:=C.st.bk.pk.ob
 have er:=θ hr;refine x6 X cs _ M b _ {rfl,T4,C.st,er,λt' H' I' sb=>q t' (X.wr cs b _) H' rfl {?_,x9 cs _ M d rr L R fr pl {C.write er I' sb,by show cs.length+cn 2 (X.c*X.w) _<=_;lia,S.sb sb λx hx z=>?_,T,off,nw}}}
 have:=B.sb C sb λy hy=>hy.elim .inl λz=>.inr<|.inr<|.inl z;exact⟨this.e,this.sz,this.nm,this.er,this.et,this.fn,this.fr⟩;rcases z with z|z
 exact(off x hx).1 z
 have:=cI S hx;rw[z]at this;exact this.2 _ _ _ ep
def L63.stop(tv:TV K a)(T4:CL K a)(J:L63 a ly gp cl n r c w nl rl t zs ms i X st H)(q:∀ X' S H',U63 a ly gp cl n r c w nl rl t zs ms X' S H'->P (.ref X'.S.st) H'):RF K a [.ref ly,.ref gp] H P E:=by
 obtain⟨⟨⟨rfl,rfl,rfl,rfl,rfl,rfl,rfl⟩,sz,nm,er,et,fn,fr'⟩,cs,tks,M,d,rr,L,R,fr,pl,C,h1,y,y,y,y⟩:=J;refine R9 _ _ _ _ _ _ X.w _ _ _ {rfl,C.gnd tv T4,λX' H' b1 b2 b3 b4 b5 b6 b7 off ht C' sb=>?_};obtain⟨y,ep⟩:=C.st.bk.pk.ob;obtain⟨tc,ec,y⟩:=C.st.bk.pk.ls
 have Fc:X.S.A.F _:=.inr<|.inr<|.inr<|.inr<|.inr rfl
 have ls:∀ {l xs},¬ X.S.A.F l->H l=some (.lst xs)->H' l=some _/\¬ X'.S.A.F l:=λ{l xs} nF e=>{sb _ _ e λz=>z.elim (λz=>by rw[z,ep]at e;cases e) λz=>nF<|z ▸ Fc,(off l _ e).elim (λz=>absurd (z ▸ Fc) nF) id}
 exact q X' _ H' {{⟨b1,b2,b3,b4,b5,b6,b7⟩,sz,{(ls fn nm.1).1,nm.2},(ls fr' er).1,sb _ _ et λz=>z.elim (λz=>by rw[z,ep]at et;cases et) λz=>(by rw[z,ec]at et;cases et),(ls fn nm.1).2,(ls fr' er).2},C.snd,C.inl _,C'}
def U63.read(tv:TV K a)(T4:CL K a)(U:U63 a ly gp cl n r c w nl rl t zs ms X S H)(q:∀ st H',L63 a ly gp cl n r c w nl rl t zs ms i X st H'->(∀ P:VK,(∀ H2,Same H' H2->P (.bl true) H2)->RG K a [.ref X.S.st,.ref ly,.ref gp,.ref st] H' P E)->P (.ref st) H'):RH K a [.ref gp,.ref t] H P E:=by
 obtain⟨B,s,b,C⟩:=U
 have B':=B;obtain⟨⟨rfl,rfl,rfl,rfl,rfl,rfl,rfl⟩,sz,nm,er,et,fn,fr'⟩:=B
 have G:=C.gnd tv T4
 have D:=G.site
 have hf:=G.sd.fault G.bo;refine R9 _ _ t _ _ _ _ _ _ _ {rfl,D.tp,D.pl,D.rl,D.pv,et,sz,hf,λst d rr R H' h1 h2 h3 h4 s' A J=>?_}
 have T:=zx3 s b J
 have C':=C.same s'
 have fr0:∀ x,EL st d rr R x->H x=none:=λx hx=>by
  rcases hx with rfl|rfl|rfl|⟨e,he,rfl⟩
  exact h1;exact h2;exact h3;exact h4 e he
 have off:OC X st d rr R:=λx hx=>{C.st.bk.off<|fr0 x hx,λz=>by have:=fr0 x hx;rw[z,C.st.tk]at this;cases this}
 have D':=(C'.gnd tv T4).site;refine q st H' {B'.sb C (Same.sb  s') λy z=>jk z,x9 [] [] _ d rr _ R _ _ {C',?_,A,T,off,λx hx=>{λz=>(by have:=fr0 x hx;rw[z,nm.1]at this;cases this),λz=>(by have:=fr0 x hx;rw[z,er]at this;cases this)}}} λP p=>OS X [] [] _ _ _ st d rr _ R _ _ _ {rfl,T4,C',sz,A,T,off,x7 _ _ _ _ _ _ _ ⟨D'.tv,D'.tl,D'.tp,D'.la,D'.pl,D'.rl,D'.pv⟩,?_,p}
 have:=ψ (bZ (kind:=2)  (S:=({BZ X.n X.r X.c X.w S,[]}:Hs).f)) C'.few;simp only[uh]
 lia
 show faults (BK _ _ _ _<|BZ _ _ _ _ S)++IJ (BK _ _ _ _<|BZ _ _ _ _ S)=[];rw[show faults (BK _ _ _ _<|BZ _ _ _ _ S)=[]from hf,zx1 b];rfl
end
def LJ(a:Ad)(ly gp cl:Addr)(n r c w:Nat)(nl rl t:Addr)(zs:Xu)(ms:Zu)(s:Addr)(i:Nat)(σ:St)(H':Hp):Prop:=∃ X st,L63 a ly gp cl n r c w nl rl t zs ms i X st H'/\∃ y7,σ=[some (.ref s),some<|.ref t,some<|.ref nl,some<|.ref ly,some<|.ref gp,some<|.ref X.S.st,some<|.ref st,y7]
example:(zx5,qB,zT,8,h):=by
 revert h;refine u2 ?_;rintro s ns ⟨rfl,tv,T4,TX,hs,hl,q⟩
 have T4':=T4;obtain⟨T,TP,TL,TS⟩:=T4;refine x3 s ns 0 {rfl,hs,by lia,_,rfl,λt n r c w H1 s1 et n1 n3 r1 r3 c1 c3 w1 w6=>?_};refine x3 s ns 1 {rfl,s1.seq hs,by lia,x2 _ 5 {rfl,by lia,λnl zs H2 hnl s2 WL hzl hz=>?_}}
 have hs2:=(s1.trans s2).seq hs
 have et2:=s2 _ _ et;clear s1 hs et;push_cast[↓zH_];refine BB et2  rfl rfl (BB et2  rfl rfl (BB et2  rfl rfl (BB et2  rfl rfl ?_)));intro lp dl hlp hdl ndl
 have s0:Same H2 (upd (upd H2 dl<|.own lp) lp (.ins (a "Layout") dl [])):=(AL hdl).trans (AL (by rw[AG ndl.symm];exact hlp));refine x6 lp dl n r c w {rfl,TL,AE,by lia,by lia,by lia,w1,by lia,λH3 L3 NF=>{rfl,?_}}
 have s3:Same H2 H3:=λy o e=>NF _ _ (s0 _ _ e) (BE e hlp);obtain⟨dl2,el⟩:=L3.ob;refine x2 _ _ {el,B1,x5 lp n r c w {rfl,TL,TP,L3,λgp cl H4 hgp BC P4 s4=>?_}}
 have fw:c*w<=18:=ψ (ii c3 w6) (by decide)
 have hN:∀ r'∈bg (n+r+c+r+c) (bg w V.non),∀ v∈r',v=.non:=λr' hr' v hv=>by
  rw[tq hr']at hv;exact tq hv
 refine Dv  {tv,T4',L3.same s4,P4,{by lia,by lia,by lia,by lia,by simp},fw,w1,(λr' hr' v hv=>by rw[hN r' hr' v hv];trivial),(λkind k v u u hv=>?_),{λu u u=>rfl,λkind u=>by cases kind<;>trivial},{λu u u u e=>(by cases e),λu u u e=>(by cases e),λu u u e=>(by cases e),λu u u e=>(by cases e),λu u u e=>(by cases e),λu u u u u u u e=>(by cases e),λu u u u u u u e=>(by cases e)}} λX H5 a1 a2 a3 a4 a5 a6 a7 off htk C5 s5=>?_;obtain⟨r',er',ev⟩:=zo.mp hv;exact hN r' (η er') _ (η ev);push_cast[↓zI_];refine λd hd rr hrr=>{by decide,λst hst=>?_}
 obtain⟨H6,z6,s6,e6⟩:=D0 (o:=.dK []) hd;rw[z6]at hrr hst ⊢;obtain⟨H7,z7,s7,e7⟩:=D0 (o:=.dK []) hrr;rw[z7]at hst ⊢;obtain⟨H8,z8,s8,e8⟩:=D0 (o:=.lst [.ref d,.ref rr,.int 1000]) hst;rw[z8];obtain⟨ms,ems,hms⟩:=zx4 ns
 have s68:=(s6.trans s7).trans s8
 have s28:=((s3.trans s4).trans s5).trans s68;push_cast[↓zQ_];refine T6 (s28.seq hs2) λrl FZ=>?_;rw[ems];obtain⟨H9,z9,s9,e9⟩:=D0 (o:=.lst<|ms.map V.int) FZ;rw[z9]
 have c0:∀ kind m,cn kind m (λu u=>.no)=0:=λkind m=>Ei.mpr λk u=>by simp[CQ]
 have fr0:∀ x,EL st d rr [] x->H5 x=none:=λx hx=>by
  rcases hx with rfl|rfl|rfl|⟨e,he,_⟩
  ·exact(s6.trans s7).free hst
  ·exact hd
  ·exact s6.free hrr
  ·cases he
 have ow:∀ x,EL st d rr [] x->x≠rl:=λx hx=>by
  rcases hx with rfl|rfl|rfl|⟨e,he,_⟩
  ·exact BE e8 FZ
  ·exact BE ((s7.trans s8) _ _ e6) FZ
  ·exact BE (s8 _ _ e7) FZ
  ·cases he
 refine .inl {{_,SqL.of e9},IC (xs:=ms.map V.int) (LJ a lp gp cl n r c w nl rl t zs ms s) (x2 X st {({{⟨a1,a2,a3,a4,a5,a6,a7⟩,⟨n3,r3,c3,w6⟩,{((s28.trans s9) _ _ WL),hzl,hz},e9,(s28.trans s9) _ _ et2,((off nl _<|(s3.trans s4) _ _ WL).elim (λz=>by have:=s3 _ _ WL;rw[z,BC]at this;cases this) id),C5.st.bk.off<|s68.free FZ},x9 [] [] _ d rr [] [] 1000 Pn {C5.same<|s68.trans s9,by rw[show({λu u=>.no,[]}:Hs).f=λu u=>.no from rfl,c0];simp,{s9 _ _ e8,(s8.trans s9) _ _ (s7 _ _ e6),(s8.trans s9) _ _ e7,λu h=>(by cases h),{BE e6 hrr,λu h=>(by cases h)},.nil,.nil,.nil,λu h=>(by cases h),λu h=>(by cases h),λu h=>(by cases h)},{λz k=>{λ⟨_,_,e⟩=>(by cases e),λ⟨_,h,_⟩=>(by cases h)},λu h=>(by cases h),λu h=>(by cases h),c0 _ _,c0 _ _,c0 _ _},λx hx=>{C5.st.bk.off<|fr0 x hx,λz=>by have:=fr0 x hx;rw[z,C5.st.tk]at this;cases this},λx hx=>{λz=>(by have:=fr0 x hx;rw[z,((s3.trans s4).trans s5) _ _ WL]at this;cases this),ow x hx}}}),_,rfl}) (λi σ H' u ⟨X,st,J,_⟩=>SqL.of J.b.er) (λi v σ H' ev hzz=>?_) (λσ H' hzz=>?_)};revert hzz;refine u2 ?_;rintro X st ⟨J,y7,rfl⟩;rw[τ,au]at ev;obtain⟨y,ey,rfl⟩:=ev
 have hi:=(ε.mp ey).1;push_cast[↓zP_];by_cases k4:y%8<4;refine CM k4 ?_;push_cast[↓zJ_];refine{{by decide,by decide},J.deed T4' TX (by lia) λH' J'=>?_};exact x2 X st ⟨J',_,rfl⟩;refine CI k4 ?_;push_cast[↓zO_];by_cases k7:y%8<7;refine CM k7 ?_
 have JJ:=J;obtain⟨⟨⟨rfl,rfl,rfl,rfl,rfl,rfl,rfl⟩,u⟩,cs,tks,M,u,u,u,u,u,u,C,u⟩:=J;push_cast[↓zK_];obtain⟨dp,ep⟩:=C.st.bk.pk.ob
 have rl:=C.st.sz.2.2.2.2;obtain⟨b,eb,hb⟩:=RN (y/8) (n:=X.rows.length) (by lia);obtain⟨dx,ho⟩:=C.st.ob;refine x2 _ _ {ho,B3,{by decide,by decide},x2 _ _ {ep,LI _ _ _ (by decide +kernel) (by decide +kernel) (by decide +kernel),x5 X.S.A.gp X.S.A.cl X.w X.rows X.nn {rfl,TP,C.st.bk.pk,?_}}};push_cast[];refine{by lia,?_};rw[eb];exact JJ.write T4' (by rw[<-rl];exact hb) λt' X' H8 e8 J8=>x2 X' st {J8,_,by rw[<-e8]};refine CI k7 ?_;push_cast[↓zL_];refine J.stop tv T4' λX' S' H' U=>?_;push_cast[↓zM_];refine U.read (i:=i+1) tv T4' λst' H'' J' up=>?_;push_cast[↓zN_];refine up _ λH3 s3=>?_;exact x2 X' st' {J'.same s3,_,rfl};revert hzz;refine u2 ?_;rintro X st ⟨J,y7,rfl⟩;push_cast[↓zR_];refine J.stop tv T4' λX' S' H' U=>?_;push_cast[↓zS_];exact U.read (i:=0) tv T4' λst' H'' J' up=>up _ λH3 u=>q H3
end
def FX:Expr->Xu
 |.Name x _=>[x]
 |.Tuple [.Name x _,.Name y _] _ _=>[x,y]
 |_=>[]
def Fy(N:Xu)(AY:ad):Xu:=AY.filterMap λi=>N[i]?
def FnScope.cq{X:Cx}{scope outer:Scope}{N P tn:Xu}{AY:ad}(_:FnScope N P outer)(h:SU scope outer N (Fy N AY) AY=true:=by decide +kernel)(h1:X.env.scope=outer:=by exact rfl)(h2:X.N=N:=by exact rfl):IA X scope tn (Fy N AY) AY:=mW h1 h2 h
section
variable{X:Cx}{tg iter DX:Expr}{DY:Vu}{scope:Scope}{pos:Pos}{wi:TI}{td:TE}{g:TG}{tt:TT}{te:TE}{cn:Xu}{AY:ad}
def pcm(S:IA X scope (FX tg) cn AY)(hc:X.calm=true)(hi:PI X tg iter wi)(hg:∀ AA s H cl C fp,PG (X.block AA s H (FX tg++cn) scope cl C fp) tg g)(ht:∀ AA s H cl C fp,JA (X.block AA s H (FX tg++cn) scope cl C fp) DY tt)(he:∀ AA s H cl C fp,PE (X.block AA s H (FX tg++cn) scope cl C fp) DX te)
  (hs:∀ x,iz iter X.env x=pure x:=by intro _;rfl):PE X (.ListComp DX [{tg,iter,DY,0}] scope pos) (BX wi g tt te (FX tg).length AY):=Tp S hc hi hg ht he hs
def pcd(S:IA X scope (FX tg) cn AY)(hc:X.calm=true)(hi:PE X iter td)(hg:∀ AA s H cl C fp,PG (X.block AA s H (FX tg++cn) scope cl C fp) tg g)(ht:∀ AA s H cl C fp,JA (X.block AA s H (FX tg++cn) scope cl C fp) DY tt)(he:∀ AA s H cl C fp,PE (X.block AA s H (FX tg++cn) scope cl C fp) DX te)
  (hs:∀ x,iz iter X.env x=pure x:=by intro _;rfl):PE X (.ListComp DX [{tg,iter,DY,0}] scope pos) (QM td g tt te (FX tg).length AY):=zbn S hc hi hg ht he hs
def pcs{i:Nat}{x:Str}{px spos:Pos}(S:IA X scope (FX tg) cn AY)(hc:X.calm=true)(hN:X.N.Nodup)(hi':X.N[i]? =some x)(hx:X.env.scope.names.lookup x=some .local)(hi:PI X tg iter wi)(hg:∀ AA s H cl C fp,PG (X.block AA s H (FX tg++cn) scope cl C fp) tg g)(ht:∀ AA s H cl C fp,JA (X.block AA s H (FX tg++cn) scope cl C fp) DY tt)(he:∀ AA s H cl C fp,PE (X.block AA s H (FX tg++cn) scope cl C fp) DX te)
  (hsw:xl (.ListComp DX [{tg,iter,DY,0}] scope pos) (some<|.Name x px) spos.line X.env=pure true:=by rfl)
  (hs:∀ x,iz iter X.env x=pure x:=by intro _;rfl):PS X (.Assign [.Name x px] (.ListComp DX [{tg,iter,DY,0}] scope pos) spos) (AQ (BX wi g tt te (FX tg).length AY) (AF i)):=Tq S hc hN hi' hx hi hg ht he hsw hs
end
def A5(i:Nat):Stmt:=PySem.Challenge.pw_holdback_k63_whole_come_up_and_go_on.main.body.getD i<|.Pass {0,0,0,0}
structure Txt(K:μ)(mg:Str->Option Value)(a:Ad):Prop where
 z04:Cls K (a "Change")
 Gc:Cls K (a "Hold")
 Gd:Cls K (a "Layout")
 Gg:Cls K (a "Plank")
 Gh:Cls K (a "Store")
 Gj:Cls K (a "View")
 z05:GV mg "MOST_LETTERS" (.int 8)
 z06:GV mg "MOST_PIECE_SIGNS" (.int 40)
 z08:mg "NoBlock"=some (.ref<|a "NoBlock")
 z35:GV mg "NoBlock" (.ref<|a "NoBlock")
 z1b:Exc K (a "NoBlock")
 z09:mg "NoChange"=some (.ref<|a "NoChange")
 z36:GV mg "NoChange" (.ref<|a "NoChange")
 z1c:Exc K (a "NoChange")
 Gk:mg "NoName"=some (.ref<|a "NoName")
 z37:GV mg "NoName" (.ref<|a "NoName")
 z1d:Exc K (a "NoName")
 Gm:mg "NoPiece"=some (.ref<|a "NoPiece")
 z38:GV mg "NoPiece" (.ref<|a "NoPiece")
 z1e:Exc K (a "NoPiece")
 Gp:mg "NoRoom"=some (.ref<|a "NoRoom")
 z39:GV mg "NoRoom" (.ref<|a "NoRoom")
 z1f:Exc K (a "NoRoom")
 z1a:mg "NotSound"=some (.ref<|a "NotSound")
 z4a:GV mg "NotSound" (.ref<|a "NotSound")
 z1g:Exc K (a "NotSound")
 z07:GV mg "PERCENT" (.int 37)
 Gq:mg "Twice"=some (.ref<|a "Twice")
 z4b:GV mg "Twice" (.ref<|a "Twice")
 z1h:Exc K (a "Twice")
 z0u:mg "all"=none
 z0v:mg "dict"=none
 z0w:mg "enumerate"=none
 z0x:mg "int"=none
 Gb:mg "len"=none
 z0y:mg "list"=none
 z0z:mg "ord"=none
 z00:mg "range"=none
 z01:mg "set"=none
 kE:mg "sorted"=none
 z02:mg "sum"=none
 z03:mg "tuple"=none
section
variable(P:bv)(w:World){K:μ}{mg:Str->Option Value}(base:Heap){a:Ad}{f:Addr}{fd:h_}
seal wpAny
seal L7 J1 QL YJ HS MB NJ E7 GH BW E6 MI IG IB FE GA QF AF CN J0 PY CY tB oM EA AD SG BS A6 DQ P9 L9 PZ C2 EX AH O9 LF O0 L8 GD QE SJ AT GW PR DG GU BH EB BJ EO NL JD IH TF P7 AQ AW LH X6 tC IF DF D9 DP JE FJ QJ FH D8 C7 CO FI FD NU PU KC LG BG S9 HZ CC AN DJ BL O6 NQ IX OX YE O5 B7 YA PE PT FC PS PA PI PG JA HU PW BT IxR
def dvT:Nat->List String->Array Lean.Term->Lean.MacroM (Lean.Term × List String)
 |0,_,_=>Lean.Macro.throwUnsupported
 |n+1,l,a=>match l with
  |"("::r=>do
   let x<-dvT n r #[]
   dvT n x.2 (a.push x.1)
  |")"::r=>pure (Lean.Syntax.mkApp a[0]! (a.extract 1 a.size),r)
  |[]=>pure (Lean.Syntax.mkApp a[0]! (a.extract 1 a.size),[])
  |s::r=>do
   let x:Lean.Term<-match s with
    |"?"=>`(?_)
    |"_"=>`(_)
    |"1"=>`(by assumption)
    |"2"=>`(by rfl)
    |"3"=>`(by with_unfolding_all rfl)
    |"4"=>`(show List.Nodup (_++_) by decide +kernel)
    |"5"=>`(fun _ _=>rfl)
    |"6"=>`(fun _ _ _ _ _ _=>?_)
    |"7"=>`(⟨rfl,rfl,rfl,rfl⟩)
    |"8"=>let h:=Lean.mkIdent `hx1;let e:=Lean.mkIdent `E1;`(fun $e _ _ $h=>?_)
    |"9"=>`(by simp)
    |"10"=>`(fun _=>rfl)
    |"11"=>`(fun _=>?_)
    |_=>pure<|Lean.mkIdent s.toName
   dvT n r (a.push x)
def dvF:List String->Lean.MacroM (Lean.TSyntax `tactic)
 |[]=>`(tactic|fail)
 |s::l=>do
  let x<-dvT 99 (s.splitOn " ") #[]
  let t<-dvF l
  `(tactic|first|refine $(x.1)|$t:tactic)
def dvG(t:Lean.TSyntax `tactic):List String->Lean.MacroM (Lean.TSyntax `tactic)
 |[]=>pure t
 |s::l=>do
  let u<-dvG t l
  match s.splitOn "|" with
  |g::r=>
   let x<-dvT 99 (g.splitOn " ") #[]
   let y<-dvF r
   `(tactic|first|(show $(x.1);$y:tactic)|$u:tactic)
  |_=>pure u
local macro_rules
 |`(tactic|ac_rfl)=>do
  let t<-dvG (<-dvF ("T.Gd|T.Gh|T.Gc|T.Gg|T.Gj|MA ? ?|zge rfl ?|Sx ? ? 7|Jw ? ? ?|zbb rfl|zcb ( K6 hr )|Jd ? 3|Jv ? ?|pOv ?|Tk|Tl ?|pDn ( Sc ( K6 hr ) ? ? )|pDi ( Sb ( K6 hr ) ? ? )|pPt ( Px ? )|Pw|Sl ? ? ?|Sk|Uc ? 11 ?|Ty|SS rfl T.Gk|SS rfl T.Gq|SS rfl T.Gm|SS rfl T.Gp".splitOn "|")) ("PE _ _ _|Yq _|kJ|pFl ( Nm ? rfl )|TN ( pmx ? ? 1 hr hx ? )|pei ?|pA ( pcx 1 hr hx ? )|O1 Uk ? ?|Jb|lH mR ? ? 5|Nz ?|Ny ?|O1 zd3 ? ?|Hz|TN ( pmz ? ? 1 hr hx )|pcm sc.cq rfl ? 6 6 6|O1 Vc ? ?|pDg ( Rz ( K6 hr ) ? ? 5 )|TN ( XM ? ? 1 hr.m mK ? )|PL PySem.F.plainAttrs_list PySem.F.slot_list_append PySem.F.type_list_append zf9 ? ?|KZ zey rfl T.Gb 2 ?|Hy|O1 zd4 ? ?|Sh|pMk ( Tx 1 hr.m hx.passes rfl ? )|Py Vj ? ? ?|TN ( XM ? ? 1 hr.m hx1.passes ? )|Jp ?|WT ( pD hr.units ) ? ? ( JY _ )|pCh ( Ml XU XU ? ? ? )|pAv ( Jq ? ? )|zcf ( K6 hr ) ? rfl rfl 9 9|O8 ze4 rfl T.z03 2 ?|O8 ze1 rfl T.z0y 2 ?|KZ ( Zd rfl ) rfl T.z0u 2 ?|zaw rfl rfl T.kE rfl T.z01 ?|KZ zbq rfl T.Gb 2 ?|pcd sc.cq rfl ? 6 6 6|Sj|pA ( mM 1 hr.m mK rfl ? )|O1 zd2 ? ?|O8 Mx rfl T.z0x 2 ?|Lj zd5 ?|KZ ( zgc rfl ) rfl T.kE 2 ?|PL PySem.F.plainAttrs_list PySem.F.slot_list_extend PySem.F.type_list_extend zb3 ? ?|KZ Zc rfl T.z0z 2 ?|XN T.z07 rfl|WT ( pE hr.units ) ? ? ( JY _ )|XN T.z05 rfl|WT XT ? ? ( JY _ )|KZ ? rfl T.z02 2 ?|O8 zax rfl T.z0v 2 ?|XN T.z06 rfl|PL PySem.F.plainAttrs_str PySem.F.slot_str_join PySem.F.type_str_join zba ? ?|PL PySem.F.plainAttrs_list PySem.F.slot_list_pop PySem.F.type_list_pop Rg ? ?|Sw ( K6 hr ) ? ? ? 7|pD1 ( Sv ( K6 hr ) ? ? 7 )|KZ ( zbk rfl ) rfl T.kE 2 ?|PL PySem.F.plainAttrs_dict PySem.F.slot_dict_update PySem.F.type_dict_update ? ? ?/FC _ _ _|Jz ? ?|Kb ?|Jy/PA _ _ _|o0 ?|o3 ? ?|o5 ? ? ?|SK|zbt ? ? ? ?/PS _ _ _|Kd ?|psl _ nd ?|Kg ? ? ?|Kc ?|pSf ( Np ? ? rfl )|Lb hx.po rfl ? ? ?|pcs sc.cq rfl nd rfl rfl ? 6 6 6|pDp ( Sd ( K6 hr ) ? ? ? rfl )|kO nd rfl ( Cn rfl ) ?|Km ? ?|MG hx T.z1b rfl T.z08 ?|MG hx T.z1d rfl T.Gk ?|MG hx T.z1e rfl T.Gm ?|zb1 ? ? ? kX|MG hx T.z1c rfl T.z09 ?|Nq ? ? kX|MG hx T.z1f rfl T.Gp ?|MG hx T.z1g rfl T.z1a ?|MG hx T.z1h rfl T.Gq ?|zcm hx.po rfl ? ? ?|Ud rfl rfl rfl rfl 8 ?/PG _ _ _|oZ _ 4|oZ _ nd|Kk rfl ?|pTp ?|Kl ? ? mT|kM nd rfl ( Cn rfl )/HU _ _ _|Kj ? ?|Kh|pGc ?|pGn ?/PI _ _ _ _|pSq ( Vp ? )|pR1 ( Ky rfl T.z00 ? )|pEn ( zbi rfl T.z0w ? )|Zb ?/PT _ _ _|KB ( JZ ( pD hr.units ) ? ? ( JY _ ) )|Jm ?|KB ( JZ zeu ? ? ( JY _ ) )|KB ( JZ ( pE hr.units ) ? ? ( JY _ ) )|KB ( JZ zev ? ? ( JY _ ) )|KB ( JZ XT ? ? ( JY _ ) )|KB ( JZ Vd ? ? ( JY _ ) )|pCt ( Mm XU XT ? ? ? )|pTr ( Mv ? 10 )|KB ( JZ ( oO hr.units ) ? ? 3 )|KB ( JZ ( za5 hr.units ) ? ? 3 )|KB ( JZ ( zbj hr.units ) ? ? 3 )|pTb ( Jg ? 3 )|PW.pt ?/PW _ _ _|Jh ?|Jk ? ?|Jj ?|Jl ? ?".splitOn "/")
  `(tactic|repeat' $t:tactic)
local macro_rules
 |`(command|example:($v:str,$x,*):=$t:term)=>do
  let a:=x.getElems
  let i:=fun (n:Lean.Name)=>Lean.mkIdent n
  let j:=fun (k:Nat)=>i (a[k]!).raw.getId
  let f<-`(fun _ _ _ _ _ $(i `E) $(i `hr) $(i `hx)=>by have $(i `sc):ident:=$(j 2);have $(i `nd):ident:=$(i `sc.nd);ac_rfl)
  let u:Array Lean.Term:=#[i `P,i `w,i `mg,i `base,a[4]!,<-`($(a[3]!) $(i `K) $(i `a)),j 2,a[7]!]
  let e<-if a.size=9 then `($(i `F.oK) $u* ($(i `len):ident:=$(a[8]!)) $f) else `($(i `F.oK) $u* $f)
  return Lean.mkNullNode #[<-`(command|abbrev $(j 1):ident:Stmt:=$t),<-`(command|def $(j 2):ident:A4 $(a[6]!) $(a[5]!) (AU $(j 1)):=.go),<-`(command|def $(j 0):ident ($(i `T):ident:Txt $(i `K) $(i `mg) $(i `a)) ($(i `F):ident:Fun $(i `K) $(Lean.Syntax.mkStrLit ((v.getString.splitOn ".").getLast!)) $v $(j 1) $(i `f) $(i `fd)):=$e)]
example:("View.records_led_to",zx9,cM,cN,qG,0,1,["self"],zvl):=BQ (A5 11) 1
example:("View.records_standing",zya,cO,cP,qH,0,1,["self"],zvh):=BQ (A5 11) 2
example:("View.pieces_named",zyb,cQ,cR,qI,0,1,["self"],zvk):=BQ (A5 11) 3
example:("View.count_of",zyc,cS,cT,qJ,0,2,["self","record"],zvg):=BQ (A5 11) 4
example:("faults_of_names",zyd,cU,cV,qP,0,1,["view","lost","twice","seen","k","value"],zvu):=A5 15
example:("left_pieces",zye,cW,cX,ZS,0,1,["view","marked"],zvm):=A5 20
example:("marked_records",zyf,cY,cZ,ZT,0,1,["view","marked"],zvn):=A5 21
example:("tally",zyg,c7,c8,ZU,0,2,["many","numbers","counts","number"],zvx):=A5 23
example:("pieces_in",zyh,c9,dA,qX,0,1,["records","pieces","value"],zvy):=A5 24
example:("Change.__init__",zyi,dB,dC,qY,0,4,["self","place","value","needs"],zrr,zrs):=BQ (A5 30) 0
example:("Book.ask_for_changes",zyj,dD,dE,rC,0,2,["self","numbers","number"],zr1,zr2):=BQ (A5 31) 10
example:("needs_with",zyk,dF,dG,VG,0,2,["needs","ahead"],zrv,zrw):=A5 32
example:("Hold.lack_of",zyl,dH,dJ,rJ,0,3,["self","number","gone","need"],zr8,zr9):=BQ (A5 34) 2
example:("Hold.laid_over",zym,dM,dN,rO,0,3,["self","values","block","laid","number"],zsd,zse):=BQ (A5 34) 3
example:("is_sign",zyn,dO,dP,ZV,0,1,["sign"],ztm):=A5 37
example:("is_name",zyo,dQ,dU,ZW,0,1,["thing"],ztn):=A5 41
example:("Plank.__init__",zyp,dW,dX,ZX,0,3,["self","blocks","cells"],zrf,zrl):=BQ (A5 52) 0
example:("Plank.blocks",zyq,dY,dZ,rS,0,1,["self"],zrg,zrm):=BQ (A5 52) 1
example:("Plank.cells",zyr,d0,d6,rT,0,1,["self"],zrh,zrn):=BQ (A5 52) 2
example:("Plank.ask_for_block",zys,d7,d8,ZY,0,2,["self","block"],zri,zro):=BQ (A5 52) 6
example:("Layout.__init__",zyt,d9,eA,rW,0,5,["self","names","records","pieces","cells"],zsh,zss):=BQ (A5 54) 0
example:("Layout.counts",zyu,eB,eD,rX,0,1,["self"],zsq,zs1):=BQ (A5 54) 6
example:("Layout.blocks_ahead_of_marks",zyv,eE,eF,rY,0,1,["self"],zso,zsz):=BQ (A5 54) 9
example:("Layout.place_from",zyw,eG,eI,rZ,0,3,["self","block","k"],zsi,zst):=BQ (A5 54) 10
example:("_law_cell_at",zyx,eJ,eK,ZZ,0,2,["script","k"],zxf):=A5 56
example:("_law_spun",zyy,eO,eQ,Z0,0,2,["cell","many","here","there","found","k"],zxk):=A5 57
example:("_law_due",zyz,eU,eV,sO,0,6,["state","sizes","kind","one","other","at","leads","rows","fresh","new","full"],zxd):=A5 63
example:("_law_gone",zy0,eX,eY,Z4,0,3,["leads","rows","name","r"],zxa):=A5 64
variable(z3w:BU P w K mg base (a "View") 1 "pieces_named" cR (RB K a))(z3y:BU P w K mg base (a "View") 1 "records_standing" cP (U1 K a))(z3v:BU P w K mg base (a "View") 1 "count_of" cT (U2 K a))
example:("faults_of_things",zy1,eZ,fA,Z5,1,1,["view","shared","empty","few"],zvr):=A5 16
example:("faults_of_marks",zy2,fB,fC,Z6,1,1,["view","led_to","records","pieces"],zvq):=A5 17
example:("leavings_of_records",zy3,fD,fF,tF,1,1,["view","many","left","record","leads"],zvt):=A5 19
variable(z28:BU P w K mg base (a "Plank") 1 "blocks" dZ (MJ K a))
example:("Book.__init__",zy4,fG,fH,Z7,1,2,["self","plank"],zrt,zru):=BQ (A5 31) 0
variable(z29:BU P w K mg base (a "Plank") 1 "cells" d6 (T3 K a))
example:("Book.ask_for_place",zy5,fI,fJ,tJ,1,2,["self","place"],zrx,zry):=BQ (A5 31) 9
variable(z2s:BU P w K mg base (a "Hold") 1 "lack_of" dJ (UK K a))
example:("Hold.outcome",zy6,fK,fL,Z8,1,3,["self","block","taken","gone","out","held","number","lack"],zsb,zsc):=BQ (A5 34) 1
variable(z1x:CH P w K mg base 1 "is_sign" dP (Y3 K a))
example:("is_piece",zy7,fM,fP,Z9,1,1,["thing"],zto):=A5 42
variable(z27:BU P w K mg base (a "Plank") 1 "ask_for_block" d8 (MK K a))
example:("Plank.read",zy8,fQ,fR,aA,1,2,["self","block"],zrj,zrp):=BQ (A5 52) 4
example:("Plank.write",zy9,fS,fT,aB,1,3,["self","block","values"],zrk,zrq):=BQ (A5 52) 5
variable(z23:BU P w K mg base (a "Layout") 1 "place_from" eI (LK K a))
example:("Layout.name_at",zza,fU,fV,uG,1,2,["self","k"],zsj,zsu):=BQ (A5 54) 1
example:("Layout.record_at",zzb,fW,fX,uH,1,2,["self","k"],zsk,zsv):=BQ (A5 54) 2
example:("Layout.piece_at",zzc,fY,fZ,uI,1,2,["self","k"],zsl,zsw):=BQ (A5 54) 3
variable(z2y:BU P w K mg base (a "Layout") 1 "blocks_ahead_of_marks" eF (NY K a))
example:("Layout.record_mark",zzd,f7,f8,uJ,1,2,["self","k"],zsm,zsx):=BQ (A5 54) 4
example:("Layout.piece_mark",zze,f9,gA,uK,1,2,["self","k"],zsn,zsy):=BQ (A5 54) 5
example:("Layout.blocks",zzf,gB,gC,uL,1,1,["self"],zsp,zs0):=BQ (A5 54) 7
variable(z18:CH P w K mg base 1 "_law_spun" eQ (OB K a))
example:("_law_names",zzg,gD,gE,uU,1,2,["cell","many","letters","xs","size","first","second","names","k","word","j","step"],zxp):=A5 58
example:("_law_text",zzh,gF,gG,uW,1,1,["cell","signs","xs","size"],zxl):=A5 59
example:("_law_layout",zzi,gH,gJ,uX,1,1,["cell","xs"],zxm):=A5 60
variable(z14:CH P w K mg base 1 "_law_gone" eY (VB K a))
example:("_law_done",zzj,gK,gL,vI,1,6,["state","kind","one","other","text","at","leads","rows","fresh"],zxb):=A5 65
variable(z1q:CH P w K mg base 1 "faults_of_names" cV (Y7 K a))(z1r:CH P w K mg base 2 "faults_of_things" fA (Y8 K a))(z1p:CH P w K mg base 2 "faults_of_marks" fC (Y9 K a))
example:("faults_in",zzk,gM,gO,vJ,2,1,["view"],zvo):=A5 14
variable(z2c:CH P w K mg base 2 "leavings_of_records" fF (ZA K a))(z2d:CH P w K mg base 1 "left_pieces" cX (ZB K a))(z2f:CH P w K mg base 1 "marked_records" cZ (ZC K a))
example:("leavings_in",zzl,gP,gQ,vK,2,1,["view"],zvp):=A5 18
variable(z3a:BU P w K mg base (a "Plank") 2 "read" fR (KE K a))
example:("values_at",zzm,gR,gS,vL,2,2,["plank","places"],zvw):=A5 22
variable(z25:BU P w K mg base (a "Layout") 2 "record_at" fX (HE K a))(z26:BU P w K mg base (a "Layout") 2 "record_mark" f8 (JG K a))(z22:BU P w K mg base (a "Layout") 2 "piece_mark" gA (JH K a))
example:("mended_cells",zzn,gT,gU,aD,2,3,["layout","plank","find","place"],zwj):=A5 27
variable(z3b:BU P w K mg base (a "Plank") 2 "write" fT (QW K a))
example:("write_due",zzo,gW,gX,aE,2,2,["plank","due","block","before","after"],zwn):=A5 28
variable(z2p:BU P w K mg base (a "Hold") 2 "ask_for_place" fJ (UI K a))
example:("Book.newest",zzp,gY,gZ,vW,2,2,["self","place"],zrz,zr0):=BQ (A5 31) 3
variable(z2v:BU P w K mg base (a "Hold") 2 "outcome" fL (UL K a))(z2t:BU P w K mg base (a "Hold") 1 "laid_over" dN (UM K a))
example:("Hold.write",zzq,g7,g8,vY,2,2,["self","block","values","told","number"],zsf,zsg):=BQ (A5 34) 0
variable(z2x:BU P w K mg base (a "Layout") 2 "blocks" gC (UE K a))(z32:NR P w K mg base (a "Plank") 1 "Plank" dX (T2 K a))
example:("Layout.plank",zzr,g9,hE,vZ,2,1,["self"],zsr,zs2):=BQ (A5 54) 8
example:("_law_read",zzs,hG,hU,wF,2,2,["plank","sizes","flat","k","cells","records","pieces","leads","rows","cell"],zx0):=A5 61
variable(z2z:BU P w K mg base (a "Layout") 1 "counts" eD (LM K a))(z20:BU P w K mg base (a "Layout") 2 "name_at" fV (KF K a))(z2l:CH P w K mg base 3 "values_at" gS (LT K a))(z21:BU P w K mg base (a "Layout") 2 "piece_at" fZ (MP K a))(z2k:CH P w K mg base 1 "tally" c8 (RA K a))(z2j:CH P w K mg base 1 "pieces_in" dA (U0 K a))(z3x:BU P w K mg base (a "View") 1 "records_led_to" cN (Y6 K a))
example:("View.__init__",zzt,hV,hW,wO,3,3,["self","layout","plank","counts","records","pieces"],zv3):=BQ (A5 11) 0
variable(z2u:BU P w K mg base (a "Hold") 3 "newest" gZ (Q0 K a))(z2o:BU P w K mg base (a "Hold") 1 "ask_for_changes" dE (UJ K a))(z2i:CH P w K mg base 1 "needs_with" dG (UH K a))(z3z:NR P w K mg base (a "Change") 1 "Change" dC (UG K a))
example:("Book.change",zzu,hX,hZ,wP,3,4,["self","place","value","needs","ahead","number"],zr3,zr4):=BQ (A5 31) 1
example:("Book.in_hand",zzv,iA,iB,wQ,3,2,["self","place","number"],zr6,zr7):=BQ (A5 31) 2
variable(z30:NR P w K mg base (a "Hold") 2 "Hold" fH (QZ K a))
example:("Store.__init__",zzw,iC,iD,wR,3,3,["self","layout","plank"],zts,ztt):=BQ (A5 48) 0
variable(z2w:BU P w K mg base (a "Hold") 3 "write" g8 (UN K a))
example:("Store.write",zzx,iE,iF,wS,3,2,["self","block"],zu9):=BQ (A5 48) 10
variable(z2r:BU P w K mg base (a "Hold") 4 "in_hand" iB (MR K a))
example:("lowest_with",zzy,iG,iH,wT,4,3,["hold","places","values","k","place"],zs6,zs7):=A5 46
example:("Store.name_cells",zzz,iI,iJ,aF,4,1,["self"],ztu,ztv):=BQ (A5 48) 16
example:("Store.standing",zz1,iK,iL,aG,4,2,["self","record"],zt8,zt9):=BQ (A5 48) 17
variable(z2q:BU P w K mg base (a "Hold") 4 "change" hZ (FV K a))
example:("Store.fill_cell",zz2,iN,iO,aI,4,5,["self","cell","name","record","need","needs"],zuc,zud):=BQ (A5 48) 18
variable(z34:NR P w K mg base (a "View") 4 "View" hW (RC K a))(z1o:CH P w K mg base 3 "faults_in" gO (U3 K a))(z2b:CH P w K mg base 3 "leavings_in" gQ (ZD K a))
example:("walk",zz3,iP,iQ,wX,5,2,["layout","plank","view"],zv4):=A5 12
example:("is_sound",zz4,iR,iS,aJ,5,2,["layout","plank"],zv5):=A5 13
variable(z2e:CH P w K mg base 5 "lowest_with" iH (MT K a))
example:("free_name",zz5,iT,iU,aK,5,2,["layout","hold","places"],zta,ztb):=A5 43
example:("free_record",zz6,iV,iW,aL,5,2,["layout","hold","marks"],ztc,ztd):=A5 44
example:("free_piece",zz7,iX,iY,aM,5,2,["layout","hold","marks"],zte,ztf):=A5 45
variable(z3l:BU P w K mg base (a "Store") 5 "name_cells" iJ (N0 K a))
example:("Store.names",zz8,iZ,i4,aN,5,1,["self"],zt0,zt1):=BQ (A5 48) 7
example:("Store.cell_of",zz9,i5,i6,xC,5,2,["self","name","cell","value"],zty,ztz):=BQ (A5 48) 15
variable(z3r:BU P w K mg base (a "Store") 5 "standing" iL (JI K a))
example:("Store.recount",z0a,i7,i8,xE,5,4,["self","record","more","needs","value"],zuf,zug):=BQ (A5 48) 20
example:("Store.regroup",z0b,i9,jA,aO,5,4,["self","record","pieces","needs"],zuh,zui):=BQ (A5 48) 21
example:("Store.drop_record",z0c,jB,jC,xK,5,3,["self","record","gone","pieces","dropped","made","mark"],zum,zun):=BQ (A5 48) 22
variable(z1y:CH P w K mg base 6 "is_sound" iS (ZE K a))(z2m:CH P w K mg base 6 "walk" iQ (U4 K a))(z2h:CH P w K mg base 3 "mended_cells" gU (ZF K a))(z2n:CH P w K mg base 3 "write_due" gX (ZG K a))
example:("mend",z0d,jD,jE,aP,6,2,["layout","plank","finds","due","find"],zw2):=A5 26
variable(z1v:CH P w K mg base 1 "is_name" dU (Y4 K a))(z3d:BU P w K mg base (a "Store") 6 "cell_of" i6 (N2 K a))
example:("Store.ask_for_new_name",z0e,jF,jG,aQ,6,3,["self","new","given"],zt2,zt3):=BQ (A5 48) 13
example:("Store.record_of",z0f,jH,jI,xO,6,2,["self","name","cell"],zua,zub):=BQ (A5 48) 14
example:("Store.empty_cell",z0g,jJ,jK,aR,6,3,["self","name","needs","gone"],zuj,zuk):=BQ (A5 48) 19
variable(z3c:BU P w K mg base (a "Store") 7 "ask_for_new_name" jG (Q4 K a))(z1u:CH P w K mg base 6 "free_record" iW (UQ K a))(z1s:CH P w K mg base 6 "free_name" iU (Q2 K a))(z3h:BU P w K mg base (a "Store") 5 "fill_cell" iO (Q5 K a))
example:("Store.make",z0h,jL,jM,aS,7,2,["self","name","record","cell","mark","stands"],zuo,zup):=BQ (A5 48) 1
variable(z3o:BU P w K mg base (a "Store") 7 "record_of" jI (KI K a))(z3p:BU P w K mg base (a "Store") 6 "recount" i8 (N3 K a))
example:("Store.link",z0i,jN,jO,aT,7,3,["self","old","new","record","cell","more"],zuq,zur):=BQ (A5 48) 2
variable(z3g:BU P w K mg base (a "Store") 7 "empty_cell" jK (Q7 K a))(z3f:BU P w K mg base (a "Store") 6 "drop_record" jC (UU K a))
example:("Store.cut",z0j,jP,jQ,xY,7,2,["self","name","record","gone"],zut,zuu):=BQ (A5 48) 3
variable(z1w:CH P w K mg base 2 "is_piece" fP (Y5 K a))(z1t:CH P w K mg base 6 "free_piece" iY (UR K a))(z3q:BU P w K mg base (a "Store") 6 "regroup" jA (Q6 K a))
example:("Store.put",z0k,jR,jS,yC,7,3,["self","name","text","record","piece","mark","filled"],zuv,zuw):=BQ (A5 48) 4
example:("Store.take",z0l,jT,jU,yF,7,3,["self","name","at","record","pieces","without"],zu0,zu3):=BQ (A5 48) 5
example:("Store.texts",z0m,jV,jW,yG,7,2,["self","name","pieces"],zux,zuy):=BQ (A5 48) 8
variable(z2g:CH P w K mg base 7 "mend" jE (ZH K a))(z33:NR P w K mg base (a "Store") 4 "Store" iD (NZ K a))
example:("come_up",z0n,jX,jY,yH,7,2,["layout","plank"],zw3):=A5 50
variable(z3i:BU P w K mg base (a "Store") 8 "link" jO (Q8 K a))
example:("Store.move",z0o,jZ,j2,yK,8,3,["self","old","new","linked","record","gone"],zu2,zu4):=BQ (A5 48) 6
variable(z3m:BU P w K mg base (a "Store") 6 "names" i4 (N1 K a))(z3t:BU P w K mg base (a "Store") 8 "texts" jW (MV K a))
example:("_law_up",z0p,j3,j4,yO,8,4,["store","layout","plank","state","name"],zxw):=A5 67
variable(z3j:BU P w K mg base (a "Store") 8 "make" jM (UV K a))(z3n:BU P w K mg base (a "Store") 8 "put" jS (UX K a))(z3s:BU P w K mg base (a "Store") 8 "take" jU (UY K a))(z3k:BU P w K mg base (a "Store") 9 "move" j2 (UZ K a))(z3e:BU P w K mg base (a "Store") 8 "cut" jQ (UW K a))
example:("_law_asked",z0q,j5,j6,aY,9,6,["store","kind","one","other","text","at","found"],zxe):=A5 62
variable(z19:CH P w K mg base 2 "_law_text" gG (ZI K a))(z13:CH P w K mg base 1 "_law_due" eV (ZL K a))(z1z:CH P w K mg base 10 "_law_asked" j6 (ZN K a))(z12:CH P w K mg base 2 "_law_done" gL (ZM K a))
example:("_law_deed",z0r,j7,j9,zG,10,5,["store","state","sizes","cell","names","xs","kind","one","other","text","at","due"],zxv):=A5 66
variable(z10:CH P w K mg base 1 "_law_cell_at" eK (U7 K a))(z15:CH P w K mg base 2 "_law_layout" gJ (ZJ K a))(z16:CH P w K mg base 2 "_law_names" gE (ZK K a))(z31:NR P w K mg base (a "Layout") 1 "Layout" eA (UD K a))(z24:BU P w K mg base (a "Layout") 3 "plank" hE (UF K a))(z11:CH P w K mg base 11 "_law_deed" j9 (VD K a))(z3u:BU P w K mg base (a "Store") 4 "write" iF (U5 K a))(z1n:CH P w K mg base 8 "come_up" jY (RF K a))(z17:CH P w K mg base 3 "_law_read" hU (RH K a))(z2a:CH P w K mg base 9 "_law_up" j4 (RG K a))
example:("law",z0s,kA,Fz,zT,11,1,["script","sizes","names","layout","plank","store","state","cell"],zx5):=A5 68
end
def z0t(q4b q4c q4d q4e q4f q4g q4h q4i q4j q4k q4l q4m q4n:Addr):∃ a:Ad,a "NoBlock"=q4b/\a "NoChange"=q4c/\a "NoRoom"=q4d/\a "NoName"=q4e/\a "Twice"=q4f/\a "NoPiece"=q4g/\a "NotSound"=q4h/\a "View"=q4i/\a "Change"=q4j/\a "Hold"=q4k/\a "Store"=q4l/\a "Plank"=q4m/\a "Layout"=q4n :=
 {λs=>if s="NoBlock" then q4b else if s="NoChange" then q4c else if s="NoRoom" then q4d else if s="NoName" then q4e else if s="Twice" then q4f else if s="NoPiece" then q4g else if s="NotSound" then q4h else if s="View" then q4i else if s="Change" then q4j else if s="Hold" then q4k else if s="Store" then q4l else if s="Plank" then q4m else if s="Layout" then q4n else 0,by simp}
def kB(K:μ):Sp:=λvs H Q _=>∃ (s:Addr) (ns:List Int),vs=[.ref s]/\SqL K H s (ns.map V.int)/\ns.length<=63/\∀ H',Q (.bl true) H'
local macro_rules
 | `(tactic| injections)=>`(tactic| skip)
 | `(tactic| injections $x:ident $y*)=>`(tactic| ((first|have:=gmc (ok:=by intro _ _ F;apply $x<;>assumption)|have:=gfc (ok:=by intro _ _ F;apply $x<;>assumption)|have:=gnc (ok:=by intro _ _ F;apply $x<;>assumption));injections $y*))
def all_mk{P:bv}{w:World}{K:μ}{h:Heap}{mg:Str->Option Value}{fa:Addr}{q4b q4c q4d q4e q4f q4g q4h q4i q4j q4k q4l q4m q4n:Addr}{tk_MOST_LETTERS:Tok}{tk_MOST_PIECE_SIGNS:Tok}{tk_PERCENT:Tok}(X:K.In h)(G:h.Ns bx mg)(hfa:mg "law"=some (.ref fa))
  (q0:GX K q4b "NoBlock")
  (q1:GX K q4c "NoChange")
  (q2:GX K q4d "NoRoom")
  (q3:GX K q4e "NoName")
  (q4:GX K q4f "Twice")
  (q5:GX K q4g "NoPiece")
  (q6:GX K q4h "NotSound")
  (q7:GC K q4i "View")
  (q8:GC K q4j "Change")
  (q9:GC K q4k "Hold")
  (qa:GC K q4l "Store")
  (qb:GC K q4m "Plank")
  (qc:GC K q4n "Layout")
  (qd:l8 K bx "MOST_LETTERS"=some (some<|.int 8 tk_MOST_LETTERS))
  (qe:l8 K bx "MOST_PIECE_SIGNS"=some (some<|.int 40 tk_MOST_PIECE_SIGNS))
  (qf:l8 K bx "PERCENT"=some (some<|.int 37 tk_PERCENT))
  (qg:l8 K bx "all"=some none)
  (qh:l8 K bx "dict"=some none)
  (qi:l8 K bx "enumerate"=some none)
  (qj:l8 K bx "int"=some none)
  (qk:l8 K bx "len"=some none)
  (ql:l8 K bx "list"=some none)
  (qm:l8 K bx "ord"=some none)
  (qn:l8 K bx "range"=some none)
  (qo:l8 K bx "set"=some none)
  (qp:l8 K bx "sorted"=some none)
  (qq:l8 K bx "sum"=some none)
  (qr:l8 K bx "tuple"=some none)
  (qs:GF K "law" kA)
  (_:GM K q4i "pieces_named" "View.pieces_named" cQ)
  (_:GM K q4i "records_standing" "View.records_standing" cO)
  (_:GM K q4i "count_of" "View.count_of" cS)
  (_:GM K q4m "blocks" "Plank.blocks" dY)
  (_:GM K q4m "cells" "Plank.cells" d0)
  (_:GM K q4k "lack_of" "Hold.lack_of" dH)
  (_:GF K "is_sign" dO)
  (_:GM K q4m "ask_for_block" "Plank.ask_for_block" d7)
  (_:GM K q4n "place_from" "Layout.place_from" eG)
  (_:GM K q4n "blocks_ahead_of_marks" "Layout.blocks_ahead_of_marks" eE)
  (_:GF K "_law_spun" eO)
  (_:GF K "_law_gone" eX)
  (_:GF K "faults_of_names" cU)
  (_:GF K "faults_of_things" eZ)
  (_:GF K "faults_of_marks" fB)
  (_:GF K "leavings_of_records" fD)
  (_:GF K "left_pieces" cW)
  (_:GF K "marked_records" cY)
  (_:GM K q4m "read" "Plank.read" fQ)
  (_:GM K q4n "record_at" "Layout.record_at" fW)
  (_:GM K q4n "record_mark" "Layout.record_mark" f7)
  (_:GM K q4n "piece_mark" "Layout.piece_mark" f9)
  (_:GM K q4m "write" "Plank.write" fS)
  (_:GM K q4k "ask_for_place" "Book.ask_for_place" fI)
  (_:GM K q4k "outcome" "Hold.outcome" fK)
  (_:GM K q4k "laid_over" "Hold.laid_over" dM)
  (_:GM K q4n "blocks" "Layout.blocks" gB)
  (_:GN K q4m "Plank" "Plank.__init__" dW)
  (_:GM K q4n "counts" "Layout.counts" eB)
  (_:GM K q4n "name_at" "Layout.name_at" fU)
  (_:GF K "values_at" gR)
  (_:GM K q4n "piece_at" "Layout.piece_at" fY)
  (_:GF K "tally" c7)
  (_:GF K "pieces_in" c9)
  (_:GM K q4i "records_led_to" "View.records_led_to" cM)
  (_:GM K q4k "newest" "Book.newest" gY)
  (_:GM K q4k "ask_for_changes" "Book.ask_for_changes" dD)
  (_:GF K "needs_with" dF)
  (_:GN K q4j "Change" "Change.__init__" dB)
  (_:GN K q4k "Hold" "Book.__init__" fG)
  (_:GM K q4k "write" "Hold.write" g7)
  (_:GM K q4k "in_hand" "Book.in_hand" iA)
  (_:GM K q4k "change" "Book.change" hX)
  (_:GN K q4i "View" "View.__init__" hV)
  (_:GF K "faults_in" gM)
  (_:GF K "leavings_in" gP)
  (_:GF K "lowest_with" iG)
  (_:GM K q4l "name_cells" "Store.name_cells" iI)
  (_:GM K q4l "standing" "Store.standing" iK)
  (_:GF K "is_sound" iR)
  (_:GF K "walk" iP)
  (_:GF K "mended_cells" gT)
  (_:GF K "write_due" gW)
  (_:GF K "is_name" dQ)
  (_:GM K q4l "cell_of" "Store.cell_of" i5)
  (_:GM K q4l "ask_for_new_name" "Store.ask_for_new_name" jF)
  (_:GF K "free_record" iV)
  (_:GF K "free_name" iT)
  (_:GM K q4l "fill_cell" "Store.fill_cell" iN)
  (_:GM K q4l "record_of" "Store.record_of" jH)
  (_:GM K q4l "recount" "Store.recount" i7)
  (_:GM K q4l "empty_cell" "Store.empty_cell" jJ)
  (_:GM K q4l "drop_record" "Store.drop_record" jB)
  (_:GF K "is_piece" fM)
  (_:GF K "free_piece" iX)
  (_:GM K q4l "regroup" "Store.regroup" i9)
  (_:GF K "mend" jD)
  (_:GN K q4l "Store" "Store.__init__" iC)
  (_:GM K q4l "link" "Store.link" jN)
  (_:GM K q4l "names" "Store.names" iZ)
  (_:GM K q4l "texts" "Store.texts" jV)
  (_:GM K q4l "make" "Store.make" jL)
  (_:GM K q4l "put" "Store.put" jR)
  (_:GM K q4l "take" "Store.take" jT)
  (_:GM K q4l "move" "Store.move" jZ)
  (_:GM K q4l "cut" "Store.cut" jP)
  (_:GF K "_law_text" gF)
  (_:GF K "_law_due" eU)
  (_:GF K "_law_asked" j5)
  (_:GF K "_law_done" gK)
  (_:GF K "_law_cell_at" eJ)
  (_:GF K "_law_layout" gH)
  (_:GF K "_law_names" gD)
  (_:GN K q4n "Layout" "Layout.__init__" d9)
  (_:GM K q4n "plank" "Layout.plank" g9)
  (_:GF K "_law_deed" j7)
  (_:GM K q4l "write" "Store.write" iE)
  (_:GF K "come_up" jX)
  (_:GF K "_law_read" hG)
  (_:GF K "_law_up" j3)
  (q3b:cm K (.ref q4m) "contents"=some none)
  (q3c:cm K (.ref q4m) "width"=some none)
  (q3d:cm K (.ref q4m) "written"=some none)
  (q3e:cm K (.ref q4k) "ground"=some none)
  (q3f:cm K (.ref q4k) "made"=some none)
  (q3g:cm K (.ref q4k) "made_in"=some none)
  (q3h:cm K (.ref q4k) "latest"=some none)
  (q3i:cm K (.ref q4k) "outs"=some none)
  (q3j:cm K (.ref q4j) "place"=some none)
  (q3k:cm K (.ref q4j) "value"=some none)
  (q3l:cm K (.ref q4j) "needs"=some none)
  (q3m:cm K (.ref q4n) "name_blocks"=some none)
  (q3n:cm K (.ref q4n) "record_blocks"=some none)
  (q3o:cm K (.ref q4n) "piece_blocks"=some none)
  (q3p:cm K (.ref q4n) "width"=some none)
  (q3q:cm K (.ref q4l) "plan"=some none)
  (q3r:cm K (.ref q4l) "book"=some none)
  (q3s:cm K (.ref q4l) "taken_out"=some none)
  (q3t:cm K (.ref q4i) "name_values"=some none)
  (q3u:cm K (.ref q4i) "record_values"=some none)
  (q3v:cm K (.ref q4i) "piece_values"=some none)
  (q3w:cm K (.ref q4i) "record_marks"=some none)
  (q3x:cm K (.ref q4i) "piece_marks"=some none)
  (q3y:cm K (.ref q4i) "leads"=some none)
  (q3z:cm K (.ref q4i) "namings"=some none)
  (q40:cm K (.ref q4i) "reached"=some none)
  (q41:fk K (.ref q4e) (.ref q4e)=some true)
  (q42:fk K (.ref q4f) (.ref q4e)=some false)
  (q43:fk K (.ref q4f) (.ref q4f)=some true)
  (q44:fk K (.ref q4g) (.ref q4e)=some false)
  (q45:fk K (.ref q4g) (.ref q4f)=some false)
  (q46:fk K (.ref q4g) (.ref q4g)=some true)
  (q47:fk K (.ref q4d) (.ref q4e)=some false)
  (q48:fk K (.ref q4d) (.ref q4f)=some false)
  (q49:fk K (.ref q4d) (.ref q4g)=some false)
  (q4a:fk K (.ref q4d) (.ref q4d)=some true) :
  ∃ fd:h_,(∀ (s:π) (v:Value),yl s fd {[v],[]} [("script",v)])/\∀ base:Heap,K.In base->base.Ns bx mg->FnOk P w K mg base (D6 P w) 12 fa fd ["script"] (kB K):=by
 obtain⟨a,rfl,rfl,rfl,rfl,rfl,rfl,rfl,rfl,rfl,rfl,rfl,rfl,rfl⟩:=z0t q4b q4c q4d q4e q4f q4g q4h q4i q4j q4k q4l q4m q4n
 have T:Txt K mg a:={q8.c,q9.c,qc.c,qb.c,qa.c,q7.c,{_,j_ X G qd,_,rfl},{_,j_ X G qe,_,rfl},j_ X G q0.ac,{_,j_ X G q0.ac,rfl},⟨q0.ex⟩,j_ X G q1.ac,{_,j_ X G q1.ac,rfl},⟨q1.ex⟩,j_ X G q3.ac,{_,j_ X G q3.ac,rfl},⟨q3.ex⟩,j_ X G q5.ac,{_,j_ X G q5.ac,rfl},⟨q5.ex⟩,j_ X G q2.ac,{_,j_ X G q2.ac,rfl},⟨q2.ex⟩,j_ X G q6.ac,{_,j_ X G q6.ac,rfl},⟨q6.ex⟩,{_,j_ X G qf,_,rfl},j_ X G q4.ac,{_,j_ X G q4.ac,rfl},⟨q4.ex⟩,je X G qg,je X G qh,je X G qi,je X G qj,je X G qk,je X G ql,je X G qm,je X G qn,je X G qo,je X G qp,je X G qq,je X G qr}
 have TPk:DH K a:=⟨T.Gg,q3b,q3c,q3d⟩
 have TBk:pM K (a "Hold") (a "Change"):=⟨T.Gc,q3e,q3f,q3g,q3h,q3i,T.z04,q3j,q3k,q3l⟩
 have TLy:DZ K a:=⟨T.Gd,q3m,q3n,q3o,q3p⟩
 have TSt:US K a:=⟨T.Gh,q3q,q3r,q3s⟩
 have TVw:TV K a:=⟨T.Gj,q3t,q3u,q3v,q3w,q3x,q3y,q3z,q40⟩
 have TRm:TD K a:=⟨q41,q42,q43,q44,q45,q46,q47,q48,q49,q4a⟩
 obtain⟨fd,hb,F⟩:=qs.law X G hfa<|λz z z z z z z z=>.of_eq rfl;refine{fd,hb,λbase z z=>?_}
 injections zx9 zya zyb zyc zyd zye zyf zyg zyh zyi zyj zyk zyl zym zyn zyo zyp zyq zyr zys zyt zyu zyv zyw zyx zyy zyz zy0 zy1 zy2
 injections zy3 zy4 zy5 zy6 zy7 zy8 zy9 zza zzb zzc zzd zze zzf zzg zzh zzi zzj zzk zzl zzm zzn zzo zzp zzq zzr zzs zzt zzu zzv zzw
 injections zzx zzy zzz zz1 zz2 zz3 zz4 zz5 zz6 zz7 zz8 zz9 z0a z0b z0c z0d z0e z0f z0g z0h z0i z0j z0k z0l z0m z0n z0o z0p z0q z0r
 exact FnOk.imp (sp:=qB K a) (by apply z0s<;>assumption) (λvs H Q E ⟨s,ns,e,hs,hn,q⟩=>{s,ns,e,TVw,⟨TBk,TPk,TLy,TSt⟩,TRm,hs,hn,q})
def walk{l:W.OpenLaw}{q:bv}{loose:List Str}{XP:(Str->Option Value)->Heap->Prop}{YP:World->Heap->Prop}{d:DefRec}{K:Params->μ}(hn:l.most=some 63)(hdf:d.params.defaults=[])
  (hY:∀ (w:World) (h:Heap),YP w h->(K w.params).In h)
  (F:∀ (w:World) (mg:Str->Option Value) (fa:Addr) (h:Heap),(K w.params).In h->h.Ns bx mg->mg d.name=some (.ref fa) ->
   ∃ fd:h_,(∀ (s:π) (u:Value),yl s fd {[u],[]} [("script",u)])/\∀ base:Heap,(K w.params).In base->base.Ns bx mg->FnOk l.prog w (K w.params) mg base (D6 l.prog w) 12 fa fd ["script"] (kB<|K w.params)) :
  W.WalkO q loose XP YP l.row.toRowW d [] (λf vs=>PySem.call f vs) :=
 L2.walk_of (n:=63) (k:=12) (x:="script") (CX:=λw=>D6 l.prog w) (sp:=λw=>kB<|K w.params) hn (by decide) hdf {rfl,by decide,by decide} hY F (λy y a ns hl y hS=>{a,ns,rfl,hS,hl,λy=>rfl}) λy y y y y z=>mJ z
end L2
local macro_rules
 |`(command|example:=$s:str)=>do
  return Lean.mkNullNode (<-(s.getString.splitOn " "++(List.range 1025).map (s!"o_{·}")).toArray.mapM fun n=>`(command|theorem $(Lean.mkIdent (.mkSimple ("tw"++if n.front.isDigit then n else s!"{(`PySem.Challenge.cw_holdback_k63_whole_come_up_and_go_on_holds++.mkSimple n:Lean.Name).hash}"))):ident:True:=⟨⟩))
namespace PySem.W.Fast
example:="tree_70 env_41 sts_773 tree_844 sts_483 tree_939 tree_306 heap_1025 tree_523 5805186785696066089 sts_940 sts_845 tree_145 sts_782 tree_845 sts_524 sts_86 sts_116 sts_307 tree_100 sts_226 tree_690 sts_1016 tree_85 12699815658802039278 tree_175 tree_160 heap_39 tree_482 sts_49 view_39 tree_130 tree_225 sts_847 tree_432 sts_161 tree_341 sts_101 tree_47 sts_131 tree_1024 sts_342 sts_433 tree_1015 sts_176 sts_146 tree_769 tree_781 tree_115 heap_46 sts_71"
end PySem.W.Fast
open PySem PySem.W PyProof.Rows
set_option Elab.async false
set_option tactic.hygienic true
set_option maxRecDepth 100000 in
set_option maxHeartbeats 0 in
theorem PySem.Challenge.cw_holdback_k63_whole_come_up_and_go_on_holds : PySem.Challenge.rw_holdback_k63_whole_come_up_and_go_on.Holds := by
 w_on;o_law;k_head;(case hw=>w_witness2)
 k_fill
 refine L2.walk (l:=PySem.Challenge.rw_holdback_k63_whole_come_up_and_go_on) rfl rfl (λw h Y=>PySem.W.kIn_of Y) ?F
 case F =>
  intro w mg fa h KX G hmg;apply L2.all_mk KX G hmg<;>first|(apply L2.gc;(case a=>k_is);(case l=>k_is);(case c=>k_is);(case k=>k_is);(case i=>k_is))|(apply L2.GX.mk;(case ac=>k_is);(case ex=>k_exc))|(apply L2.gf;(case a=>k_is);(case l=>k_is);(case c=>k_is);(case k=>k_is))|(apply L2.gm;(case a=>k_is);(case l=>k_is);(case c=>k_is);(case k=>k_is);(case i=>k_is))|(apply L2.gn;(case a=>k_is);(case l=>k_is);(case c=>k_is);(case k=>k_is);(case i=>k_is);(case m=>k_is);(case n=>k_is);(case s=>k_is))|k_is|kts_exm
