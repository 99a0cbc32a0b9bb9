import PyProof.Rows.All
import KE.RegKTryMore
import KE.KDictList
import KE.KDictOf
import KE.KEqDict
import KE.KFromBytes
import KE.KIntText
import KE.KItem
import KE.KRevIter
import KE.KRevSl
import KE.KTabLook
import KE.KUnpack
import PySem.Challenge.RW_holdback_k73_whole_stopped_anywhere
set_option linter.all false
set_option maxRecDepth 100000
set_option maxHeartbeats 8000000
set_option tactic.hygienic false
set_option compiler.extract_closed false
open PySem PySem.Spec PyProof.Rows
def pT (s:Lean.Syntax):Lean.Syntax:=
 let N:=Lean.Syntax.node .none;let T s:=`Lean.Parser.Tactic++.mkSimple s;let R s:=T "rcasesPat"++.mkSimple s
 s.rewriteBottomUp fun
  |s@(.ident _ _ _ _)=>N (R "one") #[s]
  |s@(.node _ k a)=>if k== `«term[_]» then N (R "tuple") #[a[0]!,N `null (a[1]!.getArgs.mapIdx fun i x=>if i%2==0 then N (T "rcasesPatLo") #[N (T "rcasesPatMed") #[N `null #[x]],N `null #[]] else x),a[2]!] else if k== `Lean.Parser.Term.hole then N (R "ignore") a else if k== `«term_||_» then N `u (if a[0]!.isOfKind `u then a[0]!.getArgs++a[1:] else a) else s
  |s=>s
theorem A'2{z:Prop}(k:A->B->z)(h:A/\B):z:=k h.1 h.2
theorem A'3{z:Prop}(k:A->B->C->z)(h:A/\B/\C):z:=A'2 (λx=>A'2 (k x)) h
theorem A'4{z:Prop}(k:A->B->C->D->z)(h:A/\B/\C/\D):z:=A'2 (λx=>A'3 (k x)) h
theorem A'5{z:Prop}(k:A->B->C->D->F->z)(h:A/\B/\C/\D/\F):z:=A'2 (λx=>A'4 (k x)) h
theorem A'6{z:Prop}(k:A->B->C->D->F->G->z)(h:A/\B/\C/\D/\F/\G):z:=A'2 (λx=>A'5 (k x)) h
theorem A'7{z:Prop}(k:A->B->C->D->F->G->I->z)(h:A/\B/\C/\D/\F/\G/\I):z:=A'2 (λx=>A'6 (k x)) h
theorem A'8{z:Prop}(k:A->B->C->D->F->G->I->J->z)(h:A/\B/\C/\D/\F/\G/\I/\J):z:=A'2 (λx=>A'7 (k x)) h
theorem A'9{z:Prop}(k:A->B->C->D->F->G->I->J->L->z)(h:A/\B/\C/\D/\F/\G/\I/\J/\L):z:=A'2 (λx=>A'8 (k x)) h
theorem A'10{z:Prop}(k:A->B->C->D->F->G->I->J->L->M->z)(h:A/\B/\C/\D/\F/\G/\I/\J/\L/\M):z:=A'2 (λx=>A'9 (k x)) h
theorem A'1{p:α->Prop}{z:Prop}(k:∀ x,p x->z)(h:∃ x,p x):z:=h.elim k
local macro_rules
 |`(tactic|let [$p,$ps,*]:=$e)=>do
  let q:=pT (<-`([$p,$ps,*]));let o<-`(tactic|obtain $(⟨.node .none `Lean.Parser.Tactic.rcasesPatMed #[.node .none `null (if q.isOfKind `u then q.getArgs else #[q])]⟩):rcasesPatMed:=$e)
  let s:=ps.getElems
  if s.isEmpty then return o
  let c<-`(tactic|try clear $(⟨e⟩))
  let c:=if e.raw.isIdent then #[c] else #[]
  let g f (x:Lean.Term) (s:Array Lean.Term):Lean.MacroM (Lean.TSyntax `tactic):=do
   let f:=Lean.mkIdent f
   let r<-if c.isEmpty&&(s.push x).all fun t=>t.raw.isOfKind `Lean.Parser.Term.hole||t.raw.isIdent&&t.raw.getId≠`rfl then pure #[<-`(tactic|refine $f (fun $x $s*=>?_) $e)] else pure (#[<-`(tactic|refine $f ?_ $e)]++c++#[<-`(tactic|intro $x $s*)])
   `(tactic|($[$r];*))
  let r<-if s.size==1 then pure s else pure #[<-`([$ps,*])]
  `(tactic|first|$(<-g (.mkSimple s!"A'{s.size+1}") p s):tactic|$(<-g `A'2 p r):tactic|$(<-g `A'1 p r):tactic|$o:tactic)
 |`(tactic|let $p:term:=$e)=>if p.raw.isOfKind `«term_||_» then let q:=pT p;`(tactic|obtain $(⟨.node .none `Lean.Parser.Tactic.rcasesPatMed #[.node .none `null (if q.isOfKind `u then q.getArgs else #[q])]⟩):rcasesPatMed:=$e) else Lean.Macro.throwUnsupported
local macro_rules|`(tactic|intro $ts*)=>do
  let f:=(·.raw.isOfKind `«term[_]»)
  let h (t:Lean.Term):=t.raw.isIdent&&t.raw.getId== `rfl
  unless ts.any f||ts.any h do Lean.Macro.throwUnsupported
  let v:=Lean.mkIdent `v9
  let mut r:=#[]
  let mut a:Array Lean.Term:=#[]
  for t in ts do
   if f t then
    a:=a.push v
    r:=(r.push (<-`(tactic|intro $a*))).push (<-`(tactic|let $t:term:=$v));a:=#[]
   else if h t then
    unless a.isEmpty do r:=r.push (<-`(tactic|intro $a*))
    r:=r.push (<-`(tactic|rintro $(⟨.node .none `Lean.Parser.Tactic.rintroPat.one #[pT t]⟩)));a:=#[]
   else a:=a.push t
  unless a.isEmpty do r:=r.push (<-`(tactic|intro $a*))
  `(tactic|($[$r];*))
local macro_rules|`({$xs:term,*})=>`(⟨$xs,*⟩)
open _root_.Array renaming length_toList->da,getElem?_eq_getElem->fb,getElem?_toList->h_,getElem?_eq_some_iff->iw,getElem?_eq_none->uj,all_toList->yo,size_push->zg,mem_toList_iff->zr,append_assoc->Ct,size_append->Es,toList_push->Fn,isEmpty_iff->Ge,all_append->Ii,toList->L_
open _root_.Bool renaming false_ne_true->ax,and_eq_true->bx,or_eq_false_iff->fj,false_eq_true->kf,eq_iff_iff->ku,or_assoc->lx,or_eq_true->nr,or_false->n_,true_or->pz,and_false->wx,not_eq_true'->xw,false_or->ye,not_eq_true->yn,false_and->Ks
open _root_.Eq renaming symm->Bi
open _root_.False renaming elim->jy
open _root_.ForInStep renaming yield->jo
open _root_.Function renaming comp_def->Go
open _root_.Iff renaming rfl->Nf
open _root_.Int renaming toNat_natCast->cj,ofNat_lt->dn,toNat_of_nonneg->fu,natCast_nonneg->jx,ofNat_le->kx,zero_add->rf,not_lt->wo,lt_succ->Au,emod_lt_of_pos->Co,le_of_lt->Du,natCast_ediv->Ig,natCast_emod->Ih,emod_nonneg->Ip,min_eq_left->Iq,natCast_add->Iy,le_trans->Ls
open _root_.Int.ofNat renaming inj->ce
open _root_.List renaming length_map->ε,getElem?_eq_some_iff->ζ,mem_of_getElem?->η,getElem?_eq_getElem->θ,range->ρ,mem_cons_of_mem->τ,getElem?_map->υ,mem_cons_self->χ,mem_singleton->aa,length_append->ai,mem_cons->aj,mem_range->ao,lookup_cons->au,map_append->av,size_toArray->aw,mem_map->ay,mem_append->bc,replicate->bd,getElem?_append_left->bg,not_mem_nil->bt,mem_append_right->bu,getElem?_eq_none->bv,range_succ->bz,length_cons->b_,take_length->ca,getElem?_append_right->cg,map_cons->ci,length_range->cr,length_eq_zero_iff->cu,take_add_one->cw,length_filter_le->cz,mem_filter->c_,take_of_length_le->de,length_take->df,any_eq_true->du,append_assoc->dw,length_filterMap_le->fq,foldl_cons->gg,getElem?_set_self->gq,all_eq_true->gu,length_reverse->gy,lookup->gz,length->g_,nodup_cons->ic,getElem?_set_ne->ik,length_drop->il,flatten_cons->ir,pairwise_lt_range->ix,append_nil->ja,forIn_cons->jb,length_singleton->je,cons_lt_cons_iff->jf,pairwise_cons->jh,mem_append_left->ji,getElem_of_mem->jr,nodup_nil->jz,find?_eq_none->kg,take_append_drop->kh,drop_eq_getElem_cons->ki,length_set->kj,nil_append->ko,foldl_append->k_,map_map->lb,take_append_getElem->lu,eraseIdx_eq_take_drop_succ->lz,replicate_succ->l_,mem_flatMap->mn,find?_eq_some_iff_append->mv,mem_filterMap->mw,filter_append->na,countP_append->nc,length_nil->nu,nodup_append->om,reverse_cons->oq,cons_append->p_,Perm->q_,pairwise_iff_getElem->rj,mem_or_eq_of_mem_set->rn,filterMap_cons->rq,any_cons->sj,eq_of_mem_replicate->sv,count_pos_iff->ua,filter_congr->uk,append_eq_nil_iff->um,length_replicate->uo,countP_le_length->uu,getElem_mem->uz,countP_cons->va,all_cons->ve,length_take_le'->vk,reverse_reverse->vm,find?_cons->vq,map_congr_left->vx,countP_pos_iff->vy,getElem?_range->vz,getD_eq_getElem?_getD->wp,length_eraseIdx_of_lt->wq,range_add->wz,mem_of_find?_eq_some->xh,getElem?_eq_none_iff->xi,any_eq_false->xj,ext_getElem?->xv,not_lt->xx,sum_cons->yh,getElem?_replicate->yj,foldl->yv,range_succ_eq_map->yw,map_nil->yx,filter_eq_nil_iff->za,of_mem_zip->ze,filter_map->zf,countP_nil->zi,getElem?_toArray->zl,pairwise_append->Aa,nodup_iff_count->At,mem_of_mem_drop->A_,mem_of_mem_take->Ba,map_eq_nil_iff->Bt,map_take->Ci,map_drop->Cn,getElem?_drop->Df,filter_filter->Di,take_sublist->D_,all_map->Et,getElem_take->Fe,getElem?_set->Gi,countP_congr->Gn,getElem_inj->Gs,perm_middle->Hn,range'_succ->Hu,mem_reverse->Ic,range'->Io,any_append->Iw,find?_some->Ix,drop_zero->Kr,map->Ms,map_id->Mt
open _root_.List.Nodup renaming length_le_of_subset->u_
open _root_.List.Pairwise renaming nil->Eo
open _root_.List.cons renaming injEq->zh
open _root_.Nat renaming le_refl->ο,le_trans->ψ,lt_of_lt_of_le->ω,ne_of_lt->a_,le_of_eq->ba,zero_le->bh,lt_of_le_of_lt->cf,le_succ_of_le->ck,le_of_not_lt->cv,mul_comm->dq,le_of_lt_succ->dv,add_mul->eq,lt_succ_self->fe,lt_or_ge->ff,add_assoc->fg,lt_succ_of_lt->fz,ne_of_gt->gr,mul_le_mul->ia,exists_eq_add_of_le->io,not_lt_zero->i_,le_of_ble_eq_true->jc,le_of_lt->js,lt_irrefl->ju,le_succ->jv,reduceEqDiff->jw,lt_of_le_of_ne->j_,le_antisymm->kq,zero_add->lg,div_lt_of_lt_mul->lh,pos_of_ne_zero->m_,eq_zero_or_pos->ni,min_eq_left->nq,mul_add_mod->nv,mul_add_div->nw,succ_lt_succ->rg,div_add_mod->tq,mod_lt->t_,succ_mul->uf,add_comm->ug,add_le_add->ul,div_lt_iff_lt_mul->ut,le_add_right->uy,mul_le_mul_right->vn,le_add_left->vo,lt_trans->wa,sub_self->wb,zero_mul->wc,lt_succ_of_le->xk,reduceAdd->yg,succ_le_succ->ym,le_of_succ_le_succ->y_,sub_eq_zero_of_le->zk,add_le_add_left->Br,ble->Dr,lt_trichotomy->E_,min_eq_right->Ha,div_add_mod'->Ie,not_lt->Je
open _root_.Nat.succ renaming inj->Ga
open _root_.Ne renaming symm->fi
open _root_.Option renaming map_eq_some_iff->af,isSome_iff_exists->dt,map_some->sy,isSome_map->uh,isNone_iff_eq_none->xg,none->xo,bind_eq_some_iff->yl,map_map->Ae,filter->Cf,toList_some->Dn,bind_some->H_
open _root_.Option.some renaming inj->ι,injEq->xq
open _root_.Or renaming inr->zy,inl->De
open _root_.PyProof.Rows renaming slot_tuple_getitem->jq,callWith_type1->jt,size_push'->pq,IntsAre->s_,AllBare->ud,step_dedup->wt,firstMet->wu,firstMet_length_le->wv,envOfC->x_,subscriptTail_builtinR->yr,sortedS->yy,entry_proto_collect'->Ai,Subscript_->C_,entry_list_iadd'->Ho,iadd_int->Iz,seqObj->Kn,StrsAre->Mi
open _root_.PyProof.Rows.F renaming entry_set_update_loop->r_,plain_set_update_loop->Bs
open _root_.PyProof.Rows.IntsAre renaming length->An
open _root_.PyProof.Rows.IsTup renaming new->Ln
open _root_.PySem renaming wpAny_bind->δ,wpAny_pure->ξ,Shared->π,starEach->az,mainGlobals->bq,Program->bw,wpAny_callSpecial?_slot->dg,wpAny_call_entry->di,wpAny_newObj_type->dk,Around->dr,compareOp->dz,sizeLine_eq->d_,wpAny_passesOwn->fk,wpAny_holding->fm,sysModules->f_,FuncData->gx,wpAny_truthy_bool->iq,call_meets->iu,wpAny_dictEntries->iy,binaryOp->jd,tupleKind_room_in1->jg,backTo->jj,wpAny_field->jk,wpAny_typeNameOfWhole_keyiter->jm,codeAny_builtin->jp,wpAny_setField_rec->ke,foldedSetIterable->ky,wpAny_setState_of->kz,rawInt->lj,wpAny_attempt->lm,wpAny_typeNameOf_keyiter->lw,intKind->l8,wpAny_setEntries_of->ma,wpAny_setField->me,wpAny_askSetting->mf,wpAny_isInstance->mh,keywordEach->mo,codeAny_mono->mx,typeIs_str->my,wpAny_execs_nil->nj,behindInMarks->nz,wpAny_mono->o_,wpAny_rule->pe,wpAny_fieldsOf->pi,tupleKind->py,attributeBase->si,plainId_quiet->sq,strLen_append->sr,wpAny_ite_false->tf,wpAny_updateSeq->tj,wpAny_dictEpoch->tm,wpAny_Call_Name_kw->t9,bootBuiltins->uc,holding->ue,call_meetsIn->ui,getMethod->uw,codeAny->vd,Builtin->vh,backToKw->vj,wpAny_specialOf->vp,wpAny_typeOf->v_,swapsWith->we,scanBound->wf,DictEntry->wg,entryOfKey->wj,assignEach->wm,isSubtype_stop->ww,wpAny_FormattedValue_plain->wy,wpAny_binaryOp_repeat_ref->xb,BindsTo->xm,storedH->xn,wpAny_pyIter_list->xp,fits_of_scanBound->xr,wpAny_pyIter_slot->xu,pyNext->xz,wpAny_comprehension_free->ya,ExceptHandler->yb,PyData->yd,NameKind->yi,noFill_tuple_add->yk,standAt->yp,getItem->yq,typeIs_int->yu,letOwnedTupleGo->zd,wpAny_isTrue_Compare1->zj,wpAny_notOrdered_dict->zm,wpAny_isOneOf_keyiter->zn,wpAny_formatField_int->zo,wpAny_loadName_local->zp,pyIter->zq,callWith->zu,IsPart->zw,subscripted->zx,wpAny_seqItems->zz,wpAny_of_eq->z_,wpAny_runValue->Af,codeAny_extend_loopS->Ao,wpAny_pyIter_revIter->Ar,Keyword->Be,ElemsOf->Bf,wpAny_loadName_cell->Bn,codeAny_forLoop_any->Bo,length_partsBetween->Bu,wpAny_standAt->B_,seq_tuple_add->Ca,wpAny_handled->Ce,GenState->Ds,wpAny_assign_Name->Dt,concat_meets->Ea,seqIndex_neg->Ee,slot_list_getitem->Ef,valueAt->Ei,wpAny_Call_method->En,relayAll->Ff,wpAny_storeSet_of->Fo,setNext->Fs,wpAny_setEpoch_of->Ft,wpAny_pyIter_enum->F_,wpAny_execs_cons->Gu,PassesOwn->G_,wpAny_Dict_empty->Hf,setFlight->Hi,wpAny_forIn_list->Ht,wpAny_items_cons->HB,seqIndex_of->Ik,sliceBounds->Il,wpAny_throw->Im,callerA->I_,limitOf->Ja,builtinsNs->Ji,wpAny_Name->Jo,wpAny_load->Jr,wpAny_call->Js,typeLookup->J_,intKind_is->Kf,storeName->La,inplaceOp->Le,cellsFrom->Li,noteFrame->Lo,pickOrder->Lr,isTrue->Lu,assign->Ma,setItem->Me
open _root_.PySem.Around renaming under_plainId->As
open _root_.PySem.AutoSeq1 renaming wpAny_loadPart'->yf
open _root_.PySem.Builtin.Dict renaming showsAll->uq,mergeDict->yz
open _root_.PySem.Builtin.Frozenset renaming updateFrom->Iv
open _root_.PySem.Builtin.List renaming listTooLong->li,listSameRef->lq,listExtendWith->og
open _root_.PySem.Builtin.Range renaming rangeSize->Lf
open _root_.PySem.Builtin.Slice renaming sliceAdjust->w_,slicePlaces->xa,slicePartIndex->Ir,sliceApplied->Jt
open _root_.PySem.Builtin.SmallTypes renaming nextOf->xc
open _root_.PySem.Builtin.Tuple renaming tupleItemsOf->Ju,tupleTooMany->Ka,tupleHashOf->Kt
open _root_.PySem.Calls renaming callWith_builtin->mz,evalArgs_plain->pd,spliced_cons->t5,Name_function_global->wk,call_function_entry->xf,spliced_nil->xl,Constant_str->Cu
open _root_.PySem.CmpOp renaming NotIn->Mo
open _root_.PySem.Heap renaming get?_push_of_some->ν,get?_push_size->ae,lt_size->ak,get?_update_other->cm,get?_update_self->cy,SameBut->gk,ExtBut->mq,size_push->zt
open _root_.PySem.Heap.IsSliceOf renaming new->Mu
open _root_.PySem.Heap.SameBut renaming update->e_,refl->xt
open _root_.PySem.ItemsOf renaming nil->Mr
open _root_.PySem.NameKind renaming free->gi,cell->gj
open _root_.PySem.Obj renaming mapSeq->gb,data_mapFields->ig,isFreed_of_fields->oa,data_mapDictKeys->pr,mapFields->vg,isFreed_of_dict->vt,cls_mapFields->Er,data_mapDict->Hr,putSet->Ki
open _root_.PySem.PyData renaming eqv->ii,strOk->iz,eqvAll->sx,int->Do,canLayAll0->Fu,depth->Mf
open _root_.PySem.SeqAt renaming in_tupleAt->He,EqAt->M_
open _root_.PySem.SeqAt.EqAt renaming int_str->Cr,str_int->Cs
open _root_.PySem.SetTable renaming below->ka,grown->ph,Probe->Ke,slot->K_
open _root_.PySem.SetTable.below renaming go->Eu
open _root_.PySem.SetTable.probe renaming go->Fa
open _root_.PySem.Str renaming ofString->μ,empty->ux,length->yt,join->Gf
open _root_.PySem.StrLaws renaming occBody->ie,partsBetween_eq->mj,partsFrom->xy,occ_eq->Ko
open _root_.PySem.Value renaming ref->fh,none->ip,type->jn,isInt_shape->ub,int->uv,str->Gr,isInt->Ij,bool->Jf,isStrOf->Ku
open _root_.PySem.Walks renaming list->Na
open _root_.PySem.pickOrder renaming go->Fi
open _root_.Sum renaming inl->vb,inr->vc
open _root_.Sum.inr renaming inj->Mn
open _root_.True renaming intro->tz
namespace L2
def md(y:Int)(k:Nat)(h:0<k):∃ n:Nat,1+y%(k:Int)=n/\1<=n/\n<=k:=by
 let[b,e]:=Int.eq_ofNat_of_zero_le (Ip y (show(k:Int)≠0 by omega))
 have:=Co y (show 0<(k:Int) by omega);exact{1+b,by omega,by omega,by omega}
section
variable{a b c k:Nat}{z:Int}
def c3(h:a<3):a=0\/a=1\/a=2:=by
 let _||_||_||n:=a
 exact .inl rfl;exact .inr<|.inl rfl;exact .inr<|.inr rfl;exact absurd h<|Je.mpr<|vo 3 n
def c5{a:Nat}(h:a<5):a=0\/a=1\/a=2\/a=3\/a=4:=by revert a;decide
def cq{n i:Nat}(h:i<n):n-(i+1)<n-i:=Nat.sub_lt_sub_left h<|fe i
def oA(h:a<=b)(d:Dr b c=true):a<=c:=ψ h<|jc d
def oB(h:a<b)(d:Dr b (c+1)=true):a<=c:=dv<|ω h<|jc d
def oC(h:a<=b)(d:Dr (b+1) c=true):a<c:=cf h<|jc d
def oD(h:a<b)(d:Dr b c=true):a<c:=ω h<|jc d
def oG(h:a<=b)(d:Dr (b+k+1) c=true):a+k<c:=cf (Nat.add_le_add_right h k) (jc d)
def oH(h:a<b)(d:Dr (b+k) c=true):a+k<c:=ω (Nat.add_lt_add_right h k) (jc d)
def iA(h:a<=b)(d:decide ((b:Int)<z)=true):(a:Int)<z:=Int.lt_of_le_of_lt (kx.mpr h) (of_decide_eq_true d)
def iM(d:decide (z<=0)=true):z<=(a:Int):=Ls (of_decide_eq_true d) (jx a)
def i0:(0:Int)<=(a:Int):=jx a
def nE{P:Prop}(d:Nat.beq a b=false):¬(a=b/\P):=λh=>by rw[h.1,Nat.beq_refl]at d;cases d
def nL{α :Prop}(h:a<b)(g:b<=a): α :=absurd h<|Je.mpr g
def nZ{α :Prop}(h:a<0): α :=absurd h<|i_ a
end
def x2{p:A->B->Prop}(a b)(h:p a b):∃ a b,p a b:=⟨_,_,h⟩
def x3{p:A->B->C->Prop}(a b c)(h:p a b c):∃ a b c,p a b c:=⟨_,_,_,h⟩
def x4{p:A->B->C->D->Prop}(a b c d)(h:p a b c d):∃ a b c d,p a b c d:=⟨_,_,_,_,h⟩
def x5{p:A->B->C->D->F->Prop}(a b c d e)(h:p a b c d e):∃ a b c d e,p a b c d e:=⟨_,_,_,_,_,h⟩
def x6{p:A->B->C->D->F->G->Prop}(a b c d e f)(h:p a b c d e f):∃ a b c d e f,p a b c d e f:=⟨_,_,_,_,_,_,h⟩
def x7{p:A->B->C->D->F->G->I->Prop}(a b c d e f g)(h:p a b c d e f g):∃ a b c d e f g,p a b c d e f g:=⟨_,_,_,_,_,_,_,h⟩
def x8{p:A->B->C->D->F->G->I->J->Prop}(a b c d e f g i)(h:p a b c d e f g i):∃ a b c d e f g i,p a b c d e f g i:=⟨_,_,_,_,_,_,_,_,h⟩
def x9{p:A->B->C->D->F->G->I->J->L->Prop}(a b c d e f g i j)(h:p a b c d e f g i j):∃ a b c d e f g i j,p a b c d e f g i j:=⟨_,_,_,_,_,_,_,_,_,h⟩
def WK{p:A->B->C->D->F->G->I->J->L->M->Prop}(a b c d e f g i j l)(h:p a b c d e f g i j l):∃ a b c d e f g i j l,p a b c d e f g i j l:=⟨_,_,_,_,_,_,_,_,_,_,h⟩
def OU{p:A->B->C->D->F->G->I->J->L->M->N->Prop}(a b c d e f g i j l m)(h:p a b c d e f g i j l m):∃ a b c d e f g i j l m,p a b c d e f g i j l m:=⟨_,_,_,_,_,_,_,_,_,_,_,h⟩
def OV{p:A->B->C->D->F->G->I->J->L->M->N->O->Prop}(a b c d e f g i j l m n)(h:p a b c d e f g i j l m n):∃ a b c d e f g i j l m n,p a b c d e f g i j l m n:=⟨_,_,_,_,_,_,_,_,_,_,_,_,h⟩
def y2{p:A->B->Prop}(h:p a b):∃ a b,p a b:=⟨_,_,h⟩
def y3{p:A->B->C->Prop}(h:p a b c):∃ a b c,p a b c:=⟨_,_,_,h⟩
def y4{p:A->B->C->D->Prop}(h:p a b c d):∃ a b c d,p a b c d:=⟨_,_,_,_,h⟩
def y5{p:A->B->C->D->F->Prop}(h:p a b c d e):∃ a b c d e,p a b c d e:=⟨_,_,_,_,_,h⟩
def u2{p:A->B->Prop}{z:Prop}(k:∀ a b,p a b->z):(∃ a b,p a b)->z:=λh=>by let[y,y,h]:=h;exact k _ _ h
def u3{p:A->B->C->Prop}{z:Prop}(k:∀ a b c,p a b c->z):(∃ a b c,p a b c)->z:=λh=>by let[y,y,y,h]:=h;exact k _ _ _ h
def u4{p:A->B->C->D->Prop}{z:Prop}(k:∀ a b c d,p a b c d->z):(∃ a b c d,p a b c d)->z:=λh=>by let[y,y,y,y,h]:=h;exact k _ _ _ _ h
def u5{p:A->B->C->D->F->Prop}{z:Prop}(k:∀ a b c d e,p a b c d e->z):(∃ a b c d e,p a b c d e)->z:=λh=>by let[y,y,y,y,y,h]:=h;exact k _ _ _ _ _ h
def u6{p:A->B->C->D->F->G->Prop}{z:Prop}(k:∀ a b c d e f,p a b c d e f->z):(∃ a b c d e f,p a b c d e f)->z:=λh=>by let[y,y,y,y,y,y,h]:=h;exact k _ _ _ _ _ _ h
def u7{p:A->B->C->D->F->G->I->Prop}{z:Prop}(k:∀ a b c d e f g,p a b c d e f g->z):(∃ a b c d e f g,p a b c d e f g)->z:=λh=>by let[y,y,y,y,y,y,y,h]:=h;exact k _ _ _ _ _ _ _ h
def u8{p:A->B->C->D->F->G->I->J->Prop}{z:Prop}(k:∀ a b c d e f g i,p a b c d e f g i->z):(∃ a b c d e f g i,p a b c d e f g i)->z:=λh=>by let[y,y,y,y,y,y,y,y,h]:=h;exact k _ _ _ _ _ _ _ _ h
def u9{p:A->B->C->D->F->G->I->J->L->Prop}{z:Prop}(k:∀ a b c d e f g i j,p a b c d e f g i j->z):(∃ a b c d e f g i j,p a b c d e f g i j)->z:=λh=>by let[y,y,y,y,y,y,y,y,y,h]:=h;exact k _ _ _ _ _ _ _ _ _ h
def WL{p:A->B->C->D->F->G->I->J->L->M->Prop}{z:Prop}(k:∀ a b c d e f g i j l,p a b c d e f g i j l->z):(∃ a b c d e f g i j l,p a b c d e f g i j l)->z:=λh=>by let[y,y,y,y,y,y,y,y,y,y,h]:=h;exact k _ _ _ _ _ _ _ _ _ _ h
def mV{p:A->B->C->D->F->G->I->J->L->M->N->Prop}{z:Prop}(k:∀ a b c d e f g i j l m,p a b c d e f g i j l m->z):(∃ a b c d e f g i j l m,p a b c d e f g i j l m)->z:=λh=>by let[y,y,y,y,y,y,y,y,y,y,y,h]:=h;exact k _ _ _ _ _ _ _ _ _ _ _ h
def OW{p:A->B->C->D->F->G->I->J->L->M->N->O->Prop}{z:Prop}(k:∀ a b c d e f g i j l m n,p a b c d e f g i j l m n->z):(∃ a b c d e f g i j l m n,p a b c d e f g i j l m n)->z:=λh=>by let[y,y,y,y,y,y,y,y,y,y,y,y,h]:=h;exact k _ _ _ _ _ _ _ _ _ _ _ _ h
def Ql{p:A->B->C->D->F->G->I->J->L->M->N->O->P->R->Prop}{z:Prop}(k:∀ a b c d e f g i j l m n o q,p a b c d e f g i j l m n o q->z):(∃ a b c d e f g i j l m n o q,p a b c d e f g i j l m n o q)->z:=λh=>by let[y,y,y,y,y,y,y,y,y,y,y,y,y,y,h]:=h;exact k _ _ _ _ _ _ _ _ _ _ _ _ _ _ h
end L2
set_option Elab.async false
namespace L2
abbrev AM:=Sum Int Str
def KW:AM->Value->Bool
 |.inl k,v=>Ij k v
 |.inr x,v=>Ku x v
def Qm(w:World):AM->Int
 |.inl k=>hashInt k
 |.inr x=>hashStr w x
def IC:∀ {k:AM} {v:Value},KW k v=true->(∃ i t,k=vb i/\v=uv i t)\/(∃ x t,k=vc x/\v=Gr x t)
 |.inl i,v,h=>by
  let[t,e]:=ub   h;exact .inl<|x2 i t ⟨rfl,e⟩
 |.inr x,v,h=>by
  let[t,e]:=Value.isStrOf_shape   h;exact .inr<|x2 x t ⟨rfl,e⟩
def Qp(i:Int)(t:Tok):KW (.inl i) (.int i t)=true:=by simp[KW,Ij]
def Qq(x:Str)(t:Tok):KW (.inr x) (.str x t)=true:=by simp[KW,Ku]
def Qv(a b:Int):decide ((vb a:AM)=vb b)=(a==b):=by
 by_cases e:a=b;subst e;simp;rw[decide_eq_false (λq=>e<|Sum.inl.inj q)];exact(beq_eq_false_iff_ne.mpr e).symm
def Qw(a b:Str):decide ((vc a:AM)=vc b)=decide (a=b):=by
 by_cases e:a=b;simp;rw[decide_eq_false (λq=>e<|Mn q),decide_eq_false e]
def Qx(a:Int)(b:Str):decide ((vb a:AM)=vc b)=false:=decide_eq_false (λq=>nomatch q)
def Qy(a:Str)(b:Int):decide ((vc a:AM)=vb b)=false:=decide_eq_false (λq=>nomatch q)
def DL(prog:bw)(w:World):PySem.KeyKind prog w AM where
 is:=KW
 hash:=Qm w
 inj:=λv a b l g=>by
  let[i,t,rfl,rfl]||[x,t,rfl,rfl]:=IC l
  ·let[j,u,rfl,e]||[y,u,rfl,e]:=IC g
   ·injection e with c _;rw[c]
   ·exact nomatch e
  ·let[j,u,rfl,e]||[y,u,rfl,e]:=IC g
   ·exact nomatch e
   ·injection e with c _;rw[c]
 byValue:=λk v h=>by
  let[i,t,rfl,rfl]||[x,t,rfl,rfl]:=IC h<;>rfl
 pyHash:=λd h=>by
  let[i,t,rfl,rfl]||[x,t,rfl,rfl]:=IC d
  ·exact wpAny_pyHash_int h
  ·exact wpAny_pyHash_str h
 eqBool:=λn d h=>by
  let[i,t,rfl,rfl]||[x,t,rfl,rfl]:=IC n
  ·let[j,u,rfl,rfl]||[y,u,rfl,rfl]:=IC d
   ·rw[Qv]at h;exact wpAny_eqBool_int h
   ·rw[Qx]at h;exact Cr i t y u _ _ _ _ h
  ·let[j,u,rfl,rfl]||[y,u,rfl,rfl]:=IC d
   ·rw[Qy]at h;exact Cs x t j u _ _ _ _ h
   ·rw[Qw]at h;exact wpAny_eqBool_str h
 «strs» :=λk x t v h=>by
  let[i,u,rfl,e]||[y,u,rfl,e]:=IC h
  ·exact nomatch e
  ·injection e with c _
   subst c;cases v<;>rfl
def Qz(prog:bw)(w:World)(i:Int)(t:Tok):(DL prog w).is (.inl i) (.int i t)=true:=Qp i t
def Rb(prog:bw)(w:World)(x:Str)(t:Tok):(DL prog w).is (.inr x) (.str x t)=true:=Qq x t
inductive V where
 |non|bl (b:Bool)|int (i:Int)|str (x:Str)|byt (b:Array UInt8)|flt (b:UInt64)|ref (a:Addr)|ty (n:String)
 deriving DecidableEq
def RelV:V->Value->Prop
 |.non,u=>u=ip
 |.bl b,u=>u=Jf b
 |.int i,u=>∃ t,u=uv i t
 |.str x,u=>∃ t,u=Gr x t
 |.byt b,u=>∃ t,u=Value.bytes b t
 |.flt b,u=>∃ t,u=Value.float b t
 |.ref a,u=>u=fh a
 |.ty n,u=>u=jn n
abbrev _root_.cF:=List V
abbrev _root_.uD:=List Value
abbrev Vals:cF->uD->Prop:=Paired RelV
def Vals.length{xs:cF}{us:uD}(r:Vals xs us):xs.length=us.length:=Paired.length r
def WM{α a :Type}{F: α -> a ->Prop}{l:List α}{m:List a}{i:Nat}{x: α}(h:Paired F l m)(e:l[i]? =some x):∃ y,m[i]? =some y/\F x y:=by
 induction h generalizing i with
 |nil=>cases e
 |cons h t b=>cases i with
  |zero=>cases e;exact⟨_,rfl,h⟩
  |succ i=>exact b e
def Vals.get:∀ {xs:cF} {us:uD} {i:Nat} {x:V},Vals xs us->xs[i]? =some x->∃ u,us[i]? =some u/\RelV x u:=λh e=>WM h e
theorem Vals.set{x:V}{u:Value}(r:RelV x u):∀ {xs:cF} {us:uD} (i:Nat),Vals xs us->Vals (xs.set i x) (us.set i u)
 |_,_,_,.nil=>.nil
 |_,_,0,.cons _ t=>.cons r t
 |_,_,i+1,.cons q t=>.cons q<|Vals.set r i t
def Vals.append:∀ {xs ys:cF} {us ws:uD},Vals xs us->Vals ys ws->Vals (xs++ys) (us++ws):=λh s=>by
 induction h with
 |nil=>exact s
 |cons r t a=>exact .cons r a
theorem Vals.take:∀ {xs:cF} {us:uD} (n:Nat),Vals xs us->Vals (xs.take n) (us.take n)
 |_,_,0,_=>.nil
 |_,_,_+1,.nil=>.nil
 |_,_,n+1,.cons r t=>.cons r<|Vals.take n t
theorem Vals.drop:∀ {xs:cF} {us:uD} (n:Nat),Vals xs us->Vals (xs.drop n) (us.drop n)
 |_,_,0,r=>r
 |_,_,_+1,.nil=>.nil
 |_,_,n+1,.cons _ t=>Vals.drop n t
def RelO:Option V->Option Value->Prop
 |some v,some u=>RelV v u
 |none,none=>True
 |_,_=>False
def KV{a :Type}:List (a × V)->List (a × Value)->Prop:=Paired λ(p: a × V) (q: a × Value)=>p.1=q.1/\RelV p.2 q.2
def kV:AM->V
 |.inl i=>.int i
 |.inr x=>.str x
abbrev _root_.vC:=List (AM × V)
abbrev _root_.vA:=List (List AM × V)
abbrev _root_.vD:=Int->Bool
abbrev _root_.xB:=List (Str × V)
inductive HO where
 /-- a list -/
 |lst (xs:cF)
 /-- a tuple (never changes) -/
 |tup (xs:cF)
 /-- a dict whose keys are ints and texts;one whose keys are tuples of ints and texts (the empty one is both) -/
 |dK (kvs:vC)|dT (kvs:vA)
 /-- a set of ints: AK members,AK size -/
 |set (S:vD) (n:Nat)
 /-- an instance of the class at C,AK dict at dx,AK attributes -/
 |ins (C dx:Addr) (fs:xB)
 /-- the dict of the instance at x -/
 |own (x:Addr)
 /-- the dict of an exception -/
 |xd (fs:xB)
 /-- a bound method,f of x -/
 |met (f x:Addr)
 /-- a range object lo,lo+1,.. below hi -/
 |rng (lo hi:Int)
 /-- a thing that is known to the object (the script;a dict while a loop walks it): read,never written while it is so -/
 |frz (o:Obj) (u:HO)
 /-- a code object's table -/
 |tbl (ps:Array Value)
 /-- any other thing,by what is true of AK one object (a def of one's own: SetO a S n:=HO.ext λh=>..) -/
 |ext (φ :Heap->Prop)
abbrev Hp:=Addr->Option HO
def upd(H:Hp)(a:Addr)(o:HO):Hp:=λb=>if b=a then some o else H b
def AE{H:Hp}{a:Addr}{o:HO}:upd H a o a=some o:=by unfold upd;rw[if_pos rfl]
def AI{H:Hp}{a b:Addr}{o:HO}(h:b≠a):upd H a o b=H b:=by unfold upd;rw[if_neg h]
def GE:upd (upd H a o) a u=upd H a u:=by
 funext b;unfold upd;split<;>rfl
def BI{H:Hp}{a b:Addr}{o u:HO}(h:H a=some o)(h':H b=some u)(d:o≠u):a≠b:=by
 rintro rfl;rw[h]at h';exact d<|ι h'
def BJ{H:Hp}{a b:Addr}{o:HO}(h:H a=some o)(h':H b=none):a≠b:=by
 rintro rfl;rw[h]at h';cases h'
section
variable(P:bw)(w:World)
abbrev _root_.bA:=List (List AM × Addr × Value)
def ObjOk(H:Hp)(h:Heap)(a:Addr):HO->Prop
 |.lst xs=>xs.length<=sizeLine/\∃ (c:uD) (n:Nat),Vals xs c/\h.get? a=some { cls:=.type "list",data:=.seq c.toArray n }
 |.tup xs=>xs.length<=sizeLine/\∃ c:uD,Vals xs c/\IsTup h a c.toArray
 |.dK kvs=>kvs.length<=sizeLine/\(a==f_)=false/\∃ vs,KV kvs vs/\h.DictOf (DL P w) a vs
 |.dT kvs=>kvs.length<=sizeLine/\(a==f_)=false/\∃ xs:bA,
   Paired (λ(p:List AM × V) (q:List AM × Addr × Value)=>p.1=q.1/\H q.2.1=some (.tup<|p.1.map kV)/\RelV p.2 q.2.2) kvs xs /\
   ∃ o g i,h.get? a=some o/\o.ExactDict/\o.data=.dict g i/\g.toList=xs.map (wj<|py<|DL P w)/\(xs.map (·.1)).Nodup
 |.set S n=>h.SetOf (l8 P w) a S n
 |.ins C d fs=>H d=some (.own a)/\fs.length<=1000/\d≠a/\h.get? a=some (W.instObj C d) /\
   ∃ b,h.Ns1 d b/\(∀ f,RelO (fs.lookup f) (b f))/\PySem.Within b (fs.map (·.1))
 |.own _=>∃ o,h.get? a=some o
 |.xd fs=>∃ b,h.Ns1 a b/\∀ f,RelO (fs.lookup f) (b f)
 |.rng lo j=>∃ t u v,h.get? a=some { cls:=.type "range",data:=.fields #[.int lo t,.int j u,.int 1 v] }
 |.frz o u=>h.get? a=some o/\ObjOk H h a u
 |.tbl ps=>h.get? a=some { cls:=.none,data:=.fields ps }
 |.met f x=>h.get? a=some (W.methodObj (.ref f) (.ref x))
 |.ext e => e h/\(∃ o,h.get? a=some o)/\∀ h1 h2:Heap,e h1->(∀ o,h1.get? a=some o->h2.get? a=some o)-> e h2
def HOk(H:Hp)(h:Heap):Prop:=∀ a o,H a=some o->ObjOk P w H h a o
end
section
variable{P:bw}{w:World}{H H':Hp}{h h':Heap}{a:Addr}{o:HO}
theorem ObjOk.lt(x:ObjOk P w H h a o):a<h.objs.size:=by
 cases o with
 |lst xs=>let[z,z,z,z,e]:=x;exact ak e
 |tup xs=>let[z,z,z,p]:=x;exact p.lt
 |dK kvs=>let[z,z,z,z,o,z,z,e,z]:=x;exact ak e
 |dT kvs=>let[z,z,z,z,o,z,z,e,z]:=x;exact ak e
 |set S n=>revert x;apply u4;intro o z z z [e,z];exact ak e
 |ins C b fs=>let[z,z,z,e,z]:=x;exact ak e
 |own y=>let[z,e]:=x;exact ak e
 |xd fs=>let[z,[z,z,z,e,z],z]:=x;exact ak e
 |rng lo c=>revert x;apply u3;rintro z z z e;exact ak e
 |frz ob u=>let[e,z]:=x;exact ak e
 |tbl ps=>exact ak<|x
 |met f y=>exact ak<|x
 |ext d =>let[z,[z,e],z]:=x;exact ak e
def SE{α b :Type}{F: α -> b ->Prop}{x: α}{l:List α}{m:List b}(h:Paired F (x::l) m):∃ y c,m=y::c/\F x y/\Paired F l c:=by
 cases h;exact{_,_,rfl,‹_›,‹_›}
def SF{α b :Type}{F: α -> b ->Prop}{m:List b}(h:Paired F [] m):m=[]:=by cases h;rfl
def Paired.mapP{α e :Type}{F G: α -> e ->Prop}:∀ {c:List α} {d:List e},Paired F c d->(∀ a b,F a b->G a b)->Paired G c d:=λh k=>by
 induction h with
 |nil=>exact .nil
 |cons h t g=>exact .cons (k _ _ h) g
def ObjOk.stay(x:ObjOk P w H h a o)(k:∀ b u,(b=a\/H b=some (.own a))->h.get? b=some u->h'.get? b=some u)
  (s:∀ b,H b=some (.own a)->H' b=some (.own a)) (A:∀ b xs,H b=some (.tup xs)->H' b=some (.tup xs)):ObjOk P w H' h' a o:=by
 induction o with
 |lst xs=>let[z,B,n,r,e]:=x;exact{z,x2 _ n {r,k _ _ (.inl rfl) e}}
 |tup xs=>let[z,B,r,ob,e,c]:=x;exact{z,_,r,ob,k _ _ (.inl rfl) e,c}
 |dK kvs=>let[z,y,vs,r,ob,g,i,e,c]:=x;exact{z,y,vs,r,x3 ob g i {k _ _ (.inl rfl) e,c}}
 |dT kvs =>
  let[z,y,xs,r,ob,g,i,e,c]:=x;exact{z,y,xs,Paired.mapP r λp q z=>{z.1,A _ _ z.2.1,z.2.2},x3 ob g i {k _ _ (.inl rfl) e,c}}
 |set S n=>revert x;apply u4;intro ob g i t [e,c];exact x4 ob g i t {k _ _ (.inl rfl) e,c}
 |ins C I fs =>
  let[d,z,ne,e,j,[l,g,i,D,c],r]:=x;exact{s _ d,z,ne,k _ _ (.inl rfl) e,j,x3 l g i {k _ _ (.inr d) D,c},r}
 |own y=>let[ob,e]:=x;exact{ob,k _ _ (.inl rfl) e}
 |xd fs=>let[j,[l,g,i,e,c],r]:=x;exact{j,x3 l g i {k _ _ (.inl rfl) e,c},r}
 |rng lo J=>revert x;apply u3;rintro t u v e;exact x3 t u v<|k _ _ (.inl rfl) e
 |frz ob u E=>let[e,q]:=x;exact{k _ _ (.inl rfl) e,E q}
 |tbl ps =>
  have e:h.get? a=some _:=x;exact k a _ (.inl rfl) e
 |met f y =>
  exact k a _ (.inl rfl) x
 |ext L =>let[p,[o,e],st]:=x;exact{st _ _ p λo q=>k _ _ (.inl rfl) q,{o,k _ _ (.inl rfl) e},st}
def HOk.lt(x:HOk P w H h)(e:H a=some o):a<h.objs.size:=(x a o e).lt
def HOk.fresh(x:HOk P w H h)(e:h.objs.size<=a):H a=none:=by
 cases q:H a with
 |none=>rfl
 |some u=>exact absurd (ω (x.lt q) e) (ju _)
def HOk.kept(x:HOk P w H h)(k:∀ b u,h.get? b=some u->h'.get? b=some u):HOk P w H h':=λa o e =>
 (x a o e).stay (λb u z q=>k b u q) (λz q=>q) λz z q=>q
def HOk.laid(x:HOk P w H h)(k:∀ b u,h.get? b=some u->h'.get? b=some u)(i:h.objs.size<=a)(new:ObjOk P w (upd H a o) h' a o):HOk P w (upd H a o) h':=λb u e=>by
 have d:=x.fresh i;by_cases g:b=a;subst g;rw[AE]at e;obtain rfl:=ι e;exact new;rw[AI g]at e;exact(x b u e).stay (λc v z q=>k c v q) (λc q=>by rw[AI (BJ q d)];exact q) λc xs q=>by rw[AI (BJ q d)];exact q
end
def Rd(H:Hp)(a:Addr)(u:HO):Prop:=H a=some u\/∃ o,H a=some (.frz o u)
def Rd.ok(r:Rd H a u)(x:HOk P w H h):ObjOk P w H h a u:=by
 let r||[o,r]:=r
 exact x a u r;let[z,q]:=x a _ r;exact q
def OX:Option HO->Prop
 |some (.lst _)=>True
 |some (.dK _)=>True
 |some (.dT _)=>True
 |some (.set _ _)=>True
 |some (.ins _ _ _)=>True
 |some (.ext _)=>True
 |_=>False
section
variable{P:bw}{w:World}{H:Hp}{h h':Heap}{x e:Addr}{o':HO}
def HOk.write(ok:HOk P w H h)(g:OX (H x))(he:e=x\/H e=some (.own x))(k:∀ b u,b≠e->h.get? b=some u->h'.get? b=some u)(l:∃ u,h'.get? e=some u)
  (new:ObjOk P w (upd H x o') h' x o'):HOk P w (upd H x o') h':=λb u q=>by
 have d:∀ c y,H c=some (.own y)->c≠x:=λc y r z=>by subst z;rw[r]at g;exact g
 by_cases i:b=x;subst i;rw[AE]at q;obtain rfl:=ι q;exact new;rw[AI i]at q;by_cases a:b=e
 have n:H b=some (.own x):=by
  let z||z:=he
  exact absurd (a.trans z) i;rw[a];exact z
 rw[q]at n;let[v,o]:=l;obtain rfl:=ι n;exact{v,by rw[a];exact o};refine(ok b u q).stay (λc v j r=>k c v ?_ r) (λc r=>by rw[AI (d c b r)];exact r) λc xs r=>by rw[AI ((λc xs r z=>by subst z;rw[r]at g;exact g) c xs r)];exact r
 let rfl||j:=j
 exact a;rintro rfl;let z||z:=he
 exact d c b j z;rw[j]at z;cases z;exact i rfl
end
abbrev _root_.wD:=List Addr
structure Un(fs ex:wD)(H H':Hp)(h h':Heap):Prop where
 keep:∀ b o,h.get? b=some o->H b=none->b∉fs->b∉ex->h'.get? b=some o
 slot:∀ b o,h.get? b=some o->H b=none->b∈fs->b∉ex->∃ sl,h'.get? b=some { o with slots:=sl }
 free:∀ b o,h.get? b=some o->H b=none->b∉ex->H' b=none
 there:∀ b o,h.get? b=some o->b∉ex->∃ o',h'.get? b=some o'
 tups:∀ b xs,H b=some (.tup xs)->H' b=some (.tup xs)
 frzs:∀ b o u,H b=some (.frz o u)->H' b=some (.frz o u)
 tbls:∀ b ps,H b=some (.tbl ps)->∃ more,H' b=some (.tbl<|ps++more)
section
variable{fs fs' ex mS:wD}{H H1 H2:Hp}{h h1 h2 h':Heap}{a x e:Addr}{o:HO}
def Un.any(u:Un fs ex H H1 h h1)(q:h.get? b=some ob)(n:H b=none)(c:b∉ex):∃ g,h1.get? b=some { ob with slots:=g }:=by
 by_cases d:b∈fs;exact u.slot b ob q n d c;exact{_,u.keep b ob q n d c}
def Un.kept(k:∀ b u,h.get? b=some u->h'.get? b=some u):Un fs ex H H h h' :=
 {λb ob q z z z=>k b ob q,λb ob q z z z=>{_,k b ob q},λz z z n z=>n,λb ob q z=>{ob,k b ob q},λz z q=>q,λz z z q=>q,λz ps q=>{#[],by rw[q];simp}}
def Un.refl:Un fs ex H H h h:=Un.kept λz z q=>q
def Un.laid(k:∀ b u,h.get? b=some u->h'.get? b=some u)(d:h.objs.size<=a)(c:H a=none):Un fs ex H (upd H a o) h h' where
 keep:=λb u q z z z=>k b u q
 slot:=λb u q z z z=>{_,k b u q}
 free:=λb u q n z=>by rw[AI (a_<|ω (ak q) d)];exact n
 there:=λb u q z=>{u,k b u q}
 tups:=λb xs q=>by rw[AI (BJ q c)];exact q
 frzs:=λb u xs q=>by rw[AI (BJ q c)];exact q
 tbls:=λb ps q=>{#[],by rw[AI (BJ q c),q];simp}
def Un.write(d:OX (H x))(he:e=x\/H e=some (.own x))(k:∀ b u,b≠e->h.get? b=some u->h'.get? b=some u)(g:∃ u,h'.get? e=some u):Un fs ex H (upd H x o) h h':=by
 have j:∀ b,H b=none->b≠x:=λb n z=>by subst z;rw[n]at d;exact d
 have i:∀ b u,H b=some u->¬ OX (some u)->b≠x:=λb u q nm z=>by subst z;rw[q]at d;exact nm d
 have l:∀ b,H b=none->b≠e:=λb n z=>by
  subst z;let r||r:=he
  exact j b n r;rw[n]at r;cases r
 refine⟨λb u q n y y=>k b u (l b n) q,λb u q n y y=>{_,k b u (l b n) q},λb u q n y=>by rw[AI (j b n)];exact n,λb u q y=>?_,
  λb xs q=>by rw[AI (i b _ q λz=>z)];exact q,λb u xs q=>by rw[AI (i b _ q λz=>z)];exact q,λb ps q=>{#[],by rw[AI (i b _ q λz=>z),q];simp}⟩
 by_cases c:b=e;subst c;exact g;exact{u,k b u c q}
end
def Rc(h:Heap)(H:Hp):wD:=(ρ h.objs.size).filter λa=>(H a).isSome
def NC(h:Heap)(H:Hp):Heap:=W.hideAll h<|Rc h H
def Rg(h:Heap)(H:Hp):(NC h H).objs.size=h.objs.size:=W.hideAll_size _ _
def Rh(e:h.get? b=some o)(n:H b=none):(NC h H).get? b=some o :=
 W.hideAll_get _ e λa=>by
  have q:=(c_.mp a).2;rw[n]at q;simp at q
def Rj(e:(NC h H).get? b=some o):h.get? b=some o/\H b=none:=by
 have a:=W.of_hideAll _ e;refine{a,?_};cases q:H b with
 |none=>rfl
 |some x =>
  have z:(NC h H).get? b=none:=W.hideAll_none _ (c_.mpr {ao.mpr<|ak a,by simp[q]});rw[z]at e;cases e
abbrev _root_.yA:=List (Addr × Obj)
def Rk(g h:Heap)(L:Addr):yA:=(ρ h.objs.size).filterMap λa=>if a=L\/(g.get? a).isSome=true then none else(h.get? a).map λo=>(a,o)
def rest(g h:Heap)(L d:Addr):yA:=(Rk g h L).filter λp=>decide<|p.1≠d
abbrev _root_.uB:=Str->Option Value
structure Mod(K:W.Frag)(mg:uB)(base:Heap):Prop where
 kin:K.In base
 glob:base.Ns bq mg
 blt:∃ mb,base.Ns Ji mb/\∀ x:Str,x≠"__name__"->mb x=uc x
 nolimit:base.NoLimit
abbrev _root_.zD:=List Str
abbrev _root_.cE:=List Env
structure Cx where
 prog:bw
 w:World
 K:W.Frag
 mg:Str->Option Value
 base:Heap
 A:dr
 N:zD
 s₀:π
 H₀:Hp
 env:Env
 outer:cE
 stack:cE
 ex:wD
 fn:Str->Bool
 calm:Bool
 pn:yA
 xe:Value->π->Prop
def EF(l:cE):wD:=l.filterMap (·.frame)
abbrev Cx.fs(X:Cx):wD:=EF X.outer
def SG(a:Scope)(x:Str):Prop:=a.names.lookup x=some .local\/a.names.lookup x=some .cell\/a.names.lookup x=some .free
def L9(a:Scope)(x:Str):Prop:=a.names.lookup x=some .local\/a.names.lookup x=some .cell
def Rl(env:Env)(h:Heap)(m:uB)(x:Str)(u:Value):Prop :=
 (env.kindOf x=some .local/\m x=some u)\/((env.kindOf x=some .cell\/env.kindOf x=some .free)/\∃ c,env.cells.lookup x=some c/\h.IsCell c (some u))
structure Cx.Ok(X:Cx):Prop where
 mod:Mod X.K X.mg X.base
 kind:X.env.scope.kind=.function
 glob:X.env.globals=bq
 blt:X.env.builtins=Ji
 above:X.s₀.heap.objs.size<=X.env.locals
 inj:∀ x y c,X.env.cells.lookup x=some c->X.env.cells.lookup y=some c->x=y
 has:∀ x,(X.env.kindOf x=some .cell\/X.env.kindOf x=some .free)->∃ c,X.env.cells.lookup x=some c
 cab:∀ x c,X.fn x=true->X.env.cells.lookup x=some c->X.s₀.heap.objs.size<=c
 hd:X.calm=true->X.A.handled=none
 frames:X.A.frames=some X.stack
 stk:X.stack=X.outer\/(X.stack=X.env::X.outer/\X.env.frame=some X.env.locals)
 exf:∀ b∈X.ex,b≠X.env.locals/\∀ x c,X.env.cells.lookup x=some c->c≠b
 bs:∀ b o,X.base.get? b=some o->X.s₀.heap.get? b=some o/\X.H₀ b=none
 bsz:X.base.objs.size<=X.s₀.heap.objs.size
 noex:∀ b o,X.base.get? b=some o->b∉X.ex
 exfs:∀ b∈X.ex,b∉X.fs
 funs:X.s₀.heap.FunFrames X.base X.outer
 frf:∀ b∈X.fs,X.H₀ b=none
structure Inv(X:Cx)(AA:yA)(σ:List (Option V))(H:Hp)(s:π):Prop where
 ok:X.Ok
 os:s.os=X.s₀.os
 bare:ud s.gens
 base:Un X.fs X.ex X.H₀ H X.s₀.heap s.heap
 loc:∃ m,s.heap.Ns X.env.locals m/\∀ (i:Nat) (x:Str) (v:V),X.N[i]? =some x->σ[i]? =some (some v)->SG X.env.scope x->∃ u,RelV v u/\Rl X.env s.heap m x u
 cell:∀ x c,X.env.cells.lookup x=some c->∃ v,s.heap.IsCell c v
 free:H X.env.locals=none
 freeC:∀ x c,X.env.cells.lookup x=some c->H c=none
 pin:∀ p∈X.pn++AA,s.heap.get? p.1=some p.2/\H p.1=none/\p.1≠X.env.locals/\p.1∉X.fs/\∀ v,p.2.data≠.cell v
 hok:HOk X.prog X.w H s.heap
 len:σ.length=X.N.length
section
variable{X:Cx}{AA:yA}{σ:List (Option V)}{H H':Hp}{s:π}{h':Heap}
def Cx.Ok.nofr(ok:X.Ok)(e:X.base.get? b=some o):b∉X.fs:=λa=>by
 have:=(ok.funs.mem a).1;rw[e]at this;cases this
def Inv.bs(I:Inv X AA σ H s):∀ b o,X.base.get? b=some o->s.heap.get? b=some o/\H b=none:=λb o e =>
 {I.base.keep b o (I.ok.bs b o e).1 (I.ok.bs b o e).2 (I.ok.nofr e) (I.ok.noex b o e),I.base.free b o (I.ok.bs b o e).1 (I.ok.bs b o e).2 (I.ok.noex b o e)}
def Inv.bk(I:Inv X AA σ H s):∀ b o,X.base.get? b=some o->s.heap.get? b=some o:=λb o e=>(I.bs b o e).1
def Inv.mod(I:Inv X AA σ H s):Mod X.K X.mg X.base:=I.ok.mod
def Inv.kIn(I:Inv X AA σ H s):X.K.In s.heap:=I.ok.mod.kin.keeps I.bk
def Inv.lt(I:Inv X AA σ H s):X.env.locals<s.heap.objs.size:=let ⟨_,a,_⟩:=I.loc;a.lt
def Inv.sz(I:Inv X AA σ H s):X.s₀.heap.objs.size<=s.heap.objs.size:=ψ I.ok.above<|js I.lt
def Inv.nofs(I:Inv X AA σ H s)(h:s.heap.objs.size<=a):a∉X.fs:=λb=>by
 let[z,o,c,z]:=I.ok.funs.mem b;exact absurd (ω (ak c) (ψ I.sz h)) (ju _)
def Inv.cne(I:Inv X AA σ H s):∀ x c,X.env.cells.lookup x=some c->c≠X.env.locals:=λx c e z=>by
 let[m,[g,i,j,a,b,y],y]:=I.loc;let[v,o,d,hd]:=I.cell x c e;rw[z,a]at d;obtain rfl:=ι d;rw[b]at hd;cases hd
def Inv.funs(I:Inv X AA σ H s):s.heap.FunFrames X.base X.outer:=by
 have all:∀ (l:List _),(∀ b∈EF l,b∈X.fs)->X.s₀.heap.FunFrames X.base l->s.heap.FunFrames X.base l:=by
  intro l
  induction l with
  |nil=>intro y y;trivial
  |cons env r d =>
   intro hs [g,[L,o,hf,i,j,hd],n]
   have a:=hs L (by unfold EF;rw[rq,hf];exact χ);let[p,e]:=I.base.slot L o j (I.ok.frf L a) a λz=>I.ok.exfs L z a;exact{g,x2 L _ ⟨hf,i,e,hd⟩,d (λb c=>hs b (by unfold EF;rw[rq,hf];exact τ _ c)) n}
 exact all _ (λy c=>c) I.ok.funs
def Inv.stack(I:Inv X AA σ H s):s.heap.FunFrames X.base X.stack:=by
 let e||[e,hf]:=I.ok.stk
 rw[e];exact I.funs;let[m,a,z]:=I.loc;rw[e];exact .cons (by rw[I.ok.kind];decide) hf a (Heap.get?_none_of_le<|ψ I.ok.bsz I.ok.above) I.funs
def Inv.stkSub(I:Inv X AA σ H s):∀ b∈EF X.stack,b∈X.env.locals::X.fs:=λb a=>by
 let e||[e,hf]:=I.ok.stk
 rw[e]at a;exact τ _ a;rw[e]at a;unfold EF at a;rw[rq,hf]at a;exact a
def Inv.stkFree(I:Inv X AA σ H s):∀ b∈EF X.stack,H b=none:=λb a=>by
 rcases aj.mp (I.stkSub b a)with e|a
 rw[e];exact I.free;let[y,o,c,y]:=I.ok.funs.mem a;exact I.base.free b o c (I.ok.frf b a) λz=>I.ok.exfs b z a
def Inv.step{O:Array Ds}{t':Nat}{Y:Drawn}{ch:wD}(I:Inv X AA σ H s)
  (E:∀ b∈ch,(b∈X.ex\/X.s₀.heap.objs.size<=b)/\b≠X.env.locals/\(∀ x c,X.env.cells.lookup x=some c->c≠b)/\∀ p∈X.pn++AA,p.1≠b)
  (keep:∀ b o,b≠X.env.locals->b∉X.fs->b∉ch->s.heap.get? b=some o->H b=none->h'.get? b=some o)
  (slot:∀ b o,b≠X.env.locals->b∈X.fs->b∉ch->s.heap.get? b=some o->H b=none->∃ N,h'.get? b=some { o with slots:=N }) (free:∀ b o,b∉ch->s.heap.get? b=some o->H b=none->H' b=none)
  (there:∀ b o,b∉ch->s.heap.get? b=some o->∃ J,h'.get? b=some J)
  (tups:∀ b xs,H b=some (.tup xs)->H' b=some (.tup xs)) (frzs:∀ b o u,H b=some (.frz o u)->H' b=some (.frz o u)) (tbls:∀ b ps,H b=some (.tbl ps)->∃ more,H' b=some (.tbl<|ps++more))
  (ns:∀ m,s.heap.Ns X.env.locals m->h'.Ns X.env.locals m) (hok:HOk X.prog X.w H' h') (hg:ud O) :
  Inv X AA σ H' { s with heap:=h',gens:=O,drawn:=Y,toks:=t' }:=by
 have L:∀ b o,X.s₀.heap.get? b=some o->b≠X.env.locals:=λb o e=>a_<|ω (ak e) I.ok.above
 have w:∀ b o,X.s₀.heap.get? b=some o->b∉X.ex->b∉ch:=λb o e a B=>by
  let z||z:=(E b B).1
  exact a z;exact absurd (ω (ak e) z) (ju _)
 have g:∀ x c,X.env.cells.lookup x=some c->∀ v,s.heap.IsCell c v->h'.IsCell c v:=λx c e v ⟨o,D,hd⟩=>by
  have j:=λz=>(E c z).2.2.1 x c e rfl;by_cases Q:c∈X.fs;let[N,q]:=slot c o (I.cne x c e) Q j D (I.freeC x c e);exact⟨_,q,hd⟩;exact{o,keep c o (I.cne x c e) Q j D (I.freeC x c e),hd}
 refine{I.ok,I.os,hg,{λb o e n B a=>(keep b o (L b o e) B (w b o e a) (I.base.keep b o e n B a) (I.base.free b o e n a)),λb o e n B a=>?_,λb o e n a=>?_,λb o e a=>?_,λb xs e=>tups b xs<|I.base.tups b xs e,λb o xs e=>frzs b o xs<|I.base.frzs b o xs e,λb ps e=>?_},?_,λx c e=>?_,?_,λx c e=>?_,λp T=>?_,hok,I.len};let[N,A]:=I.base.slot b o e n B a;let[sl',M]:=slot b _ (L b o e) B (w b o e a) A (I.base.free b o e n a);exact⟨_,M⟩;let[J,A]:=I.base.there b o e a;exact free b J (w b o e a) A (I.base.free b o e n a);let[J,A]:=I.base.there b o e a;exact there b J (w b o e a) A;let[m1,A]:=I.base.tbls b ps e;let[m2,M]:=tbls b _ A;exact{_,by rw[M,Ct]};let[m,hn,hl]:=I.loc;refine{m,ns m hn,λi x v A M e3=>?_};let[u,r,l]:=hl i x v A M e3;refine{u,r,?_};let l||[k,c,e,z]:=l
 exact .inl l;exact .inr {k,c,e,g x c e _ z};let[v,z]:=I.cell x c e;exact{v,g x c e v z};let[m,[o,y,y,D,y],y]:=I.loc;exact free _ o (λz=>(E _ z).2.1 rfl) D I.free;let[v,o,D,hd]:=I.cell x c e;exact free c o (λz=>(E c z).2.2.1 x c e rfl) D (I.freeC x c e)
 have j:=λz=>(E _ z).2.2.2 p T rfl;let[e,n,ne,U,d]:=I.pin p T;exact{keep _ _ ne U j e n,free _ _ j e n,ne,U,d}
def Inv.un{t':Nat}(I:Inv X AA σ H s)(u:Un X.fs [] H H' s.heap h')(hok:HOk X.prog X.w H' h'):Inv X AA σ H' { s with heap:=h',toks:=t' }:=by
 let[m,[o,q,v,d,r],_]:=id I.loc;let[w,g]:=u.any d I.free (by simp);exact I.step   (ch:=[]) (λ_ z=>nomatch z) (λb o _ c _ e n=>u.keep b o e n c (by simp)) (λb o _ c _ e n=>u.slot b o e n c (by simp)) (λb o _ e n=>u.free b o e n (by simp)) (λb o _ e=>u.there b o e (by simp)) u.tups u.frzs u.tbls (λx i=>by
  revert i;apply u3;intro y j l [a,p];rw[d]at a;obtain rfl:=ι a;exact x3 _ _ _ ⟨g,p⟩) hok I.bare
def Inv.call{i:Array Ds}{t':Nat}{q:Drawn}{ch:wD}(I:Inv X AA σ H s)(u:Un (EF X.stack) ch H H' s.heap h')(hok:HOk X.prog X.w H' h')(v:ud i)
  (j:∀ b∈ch,(b∈X.ex\/X.s₀.heap.objs.size<=b)/\b≠X.env.locals/\(∀ x c,X.env.cells.lookup x=some c->c≠b)/\∀ p∈X.pn++AA,p.1≠b) :
  Inv X AA σ H' { s with heap:=h',gens:=i,drawn:=q,toks:=t' }:=by
 let[m,[o,J,L,l,r],y]:=id I.loc;let[M,g]:=u.any l I.free λz=>(j _ z).2.1 rfl;exact I.step  j (λb o g w a e n=>u.keep b o e n (λz=>(aj.mp<|I.stkSub b z).elim g w) a) (λb o y y a e n=>u.any e n a) (λb o a e n=>u.free b o e n a) (λb o a e=>u.there b o e a) u.tups u.frzs u.tbls (λN A=>by
  revert A;apply u3;intro O B D [d,E];rw[l]at d;obtain rfl:=ι d;exact x3 _ _ _ ⟨g,E⟩) hok v
def Inv.turned{t':Nat}{it:Addr}(I:Inv X AA σ H s)(k:∀ b o,b≠it->s.heap.get? b=some o->h'.get? b=some o)(i:H it=none)(g:it≠X.env.locals)
  (h1:it∈X.ex\/X.s₀.heap.objs.size<=it) (h2:∀ x c,X.env.cells.lookup x=some c->c≠it) (h3:∀ p∈X.pn++AA,p.1≠it):Inv X AA σ H { s with heap:=h',toks:=t' }:=by
 have d:∀ b u,H b=some u->b≠it:=λb u e z=>by rw[z,i]at e;cases e
 refine I.step   (ch:=[it]) (λb j=>?_) (λb o y y a e y=>k b o (λz=>a (by simp[z])) e) (λb o y y a e y=>{_,k b o (λz=>a (by simp[z])) e}) (λy y y y n=>n)
  (λb o a e=>{o,k b o (λz=>a (by simp[z])) e}) (λy y e=>e) (λy y y e=>e) (λb ps e=>{#[],by rw[e];simp}) (λm l=>?_) (λb u e=>?_) I.bare
 have e:b=it:=by simpa using j
 subst e;exact⟨h1,g,h2,h3⟩;revert l;apply u3;intro o w A [B,r];exact x3 o w A {k _ o (fi g) B,r};refine(I.hok b u e).stay (λc v a q=>k c v ?_ q) (λy q=>q) λy y q=>q;let z||z:=a
 rw[z];exact d b u e;exact d c _ z
def Inv.tok(I:Inv X AA σ H s)(t:Nat):Inv X AA σ H { s with toks:=t }:=I.un   Un.refl I.hok
def Inv.kept(I:Inv X AA σ H s)(k:∀ b u,s.heap.get? b=some u->h'.get? b=some u):Inv X AA σ H { s with heap:=h',toks:=t' }:=I.un (Un.kept k) (I.hok.kept k)
def Inv.laid{a:Addr}{o:HO}{t':Nat}(I:Inv X AA σ H s)(k:∀ b u,s.heap.get? b=some u->h'.get? b=some u)(c:s.heap.objs.size<=a)(new:ObjOk X.prog X.w (upd H a o) h' a o) :
  Inv X AA σ (upd H a o) { s with heap:=h',toks:=t' }:=I.un (Un.laid k c<|I.hok.fresh c) (I.hok.laid k c new)
def Inv.write(I:Inv X AA σ H s)(c:OX (H x))(he:e=x\/H e=some (.own x))(k:∀ b u,b≠e->s.heap.get? b=some u->h'.get? b=some u)(a:∃ u,h'.get? e=some u)
  (new:ObjOk X.prog X.w (upd H x o) h' x o):Inv X AA σ (upd H x o) { s with heap:=h',toks:=t' }:=I.un (Un.write c he k a) (I.hok.write c he k a new)
def Inv.pins_of(I:Inv X AA σ H s)(h:∀ p∈a,s.heap.get? p.1=some p.2/\H p.1=none/\p.1≠X.env.locals/\p.1∉X.fs/\∀ v,p.2.data≠.cell v):Inv X a σ H s :=
 {I.ok,I.os,I.bare,I.base,I.loc,I.cell,I.free,I.freeC,λp b=>(bc.mp b).elim (λz=>I.pin p<|ji _ z) (h p),I.hok,I.len}
def mW{N:zD}(c:N.Nodup){i j:Nat}{x:Str}(a:N[i]? =some x)(b:N[j]? =some x):i=j:=by
 let[h1,d]:=ζ.mp a;let[h2,e]:=ζ.mp b;exact(Gs c).mp (d.trans e.symm)
abbrev _root_.yB:=Value->π->Prop
def mX{M:Model}{A:dr}{E:yB}{i:Nat}{x:Str}{v:V}{u:Value}{Q:Unit->π->Prop}(I:Inv X AA σ H s)(hN:X.N.Nodup)(Y:X.N[i]? =some x)(w:L9 X.env.scope x)(r:RelV v u)
  (h:∀ s',Inv X AA (σ.set i<|some v) H s'->(∃ a,gk a s.heap s'.heap/\(a=X.env.locals\/X.env.cells.lookup x=some a))->Q () s') (hf:X.fn x=true\/X.env.scope.names.lookup x=some .local:=by first|exact .inl rfl|exact .inr rfl|assumption):wpAny M A (La X.env x u) Q E s:=by
 let[m,hn,hl]:=id I.loc
 have J:i<σ.length:=by rw[I.len];exact(ζ.mp Y).1
 have cne:=I.cne
 have tracked:∀ {a:Addr} {h':Heap},(∃ o,s.heap.get? a=some o/\H a=none)->gk a _ h'->HOk _ _ H h':=λ{a h'} ha hs b ob e=>by
  let[t,t,B]:=ha;refine(I.hok b ob e).stay (λc w' l q=>(hs.2 c ?_).trans q) (λt q=>q) λt t q=>q;rintro rfl;let rfl||l:=l
  rw[B]at e;cases e;rw[B]at l;cases l
 let L||L:=w
 refine wpAny_storeName_local L hn (λh' hn' hs=>(u3 ?_<|id hn)) (by rw[I.ok.kind];rfl);intro oL t t [hoL,t];refine h _ {I.ok,I.os,I.bare,{λb o e n O w=>((hs.2 b<|a_<|ω (ak e) I.ok.above).trans (I.base.keep b o e n O w)),λb o e n O w=>?_,I.base.free,λb o e w=>?_,I.base.tups,I.base.frzs,I.base.tbls},{_,hn',λj y v' g D e3=>?_},λy c e=>?_,I.free,I.freeC,λp hp=>?_,tracked ⟨oL,hoL,I.free⟩ hs,by simpa using I.len} {_,hs,.inl rfl};let[sl,g]:=I.base.slot b o e n O w;exact{sl,(hs.2 b<|a_<|ω (ak e) I.ok.above).trans g};let[o',g]:=I.base.there b o e w;exact{o',(hs.2 b<|a_<|ω (ak e) I.ok.above).trans g};by_cases T:j=i;subst T;rw[Y]at g;obtain rfl:=ι g;rw[gq J]at D;cases D;exact{u,r,.inl {L,by simp}};rw[ik (fi T)]at D;let[u',r',q]:=hl j y v' g D e3;refine{u',r',?_};let[k,e]||[k,c,e,z]:=q
 have:y≠x:=λe=>T<|mW hN g<|e ▸ Y;refine .inl {k,?_};simp[this,e];exact .inr {k,c,e,z.sameBut hs<|cne y c e};let[w',z]:=I.cell y c e;exact{w',z.sameBut hs<|cne y c e};let[e,n,ne,nf,d]:=I.pin p hp;exact{(hs.2 _ ne).trans e,n,ne,nf,d};let[c,l]:=I.ok.has x<|.inl L
 have U:X.fn x=true:=by
  let z||z:=hf
  exact z;rw[z]at L;cases L
 let[w',z]:=I.cell x c l;refine wpAny_storeName_cell I.ok.kind L l z<|λh' hc' hs=>?_;let[oc,hoc,hocd]:=id z;refine h _ {I.ok,I.os,I.bare,{λb o e n O w=>((hs.2 b<|a_<|ω (ak e) (I.ok.cab x c U l)).trans (I.base.keep b o e n O w)),λb o e n O w=>?_,I.base.free,λb o e w=>?_,I.base.tups,I.base.frzs,I.base.tbls},{m,hn.sameBut hs<|fi<|cne x c l,λj y v' g D e3=>?_},λy c' e=>?_,I.free,I.freeC,λp hp=>?_,tracked {oc,hoc,I.freeC x c l} hs,by simpa using I.len} {c,hs,.inr l};let[sl,g]:=I.base.slot b o e n O w;exact{sl,(hs.2 b<|a_<|ω (ak e) (I.ok.cab x c U l)).trans g};let[o',g]:=I.base.there b o e w;exact{o',(hs.2 b<|a_<|ω (ak e) (I.ok.cab x c U l)).trans g};by_cases T:j=i;subst T;rw[Y]at g;obtain rfl:=ι g;rw[gq J]at D;cases D;exact{u,r,.inr {.inl L,c,l,hc'}};rw[ik (fi T)]at D;let[u',r',q]:=hl j y v' g D e3;refine{u',r',?_};let q||[k,c',e,z']:=q
 exact .inl q;refine .inr {k,c',e,z'.sameBut hs ?_};rintro rfl;exact T<|mW hN g<|I.ok.inj _ _ _ e l ▸ Y;by_cases hcc:c'=c;subst hcc;exact⟨_,hc'⟩;let[w2,z2]:=I.cell y c' e;exact{w2,z2.sameBut hs hcc};let[e,n,ne,nf,d]:=I.pin p hp;refine{(hs.2 _ ?_).trans e,n,ne,nf,d};intro q;rw[q,hoc]at e;exact d w' (by rw[<-(ι e)];exact hocd)
def WN(I:Inv X AA σ H s)(b:X.N.Nodup)(c:X.N[i]? =some x)(d:L9 X.env.scope x)(r:RelV v u)
  (h:∀ a,Inv X AA (σ.set i<|some v) H a->Q () a) (hf:X.fn x=true\/X.env.scope.names.lookup x=some .local:=by first|exact .inl rfl|exact .inr rfl|assumption):wpAny M A (La X.env x u) Q E s :=
 mX I b c d r (λa e z=>h a e) hf
def Inv.call'(I:Inv X AA σ H s)(d:a.os=s.os)(u:Un (EF X.stack) ch H H' s.heap a.heap)(hok:HOk X.prog X.w H' a.heap)(e:ud a.gens)
  (g:∀ b∈ch,(b∈X.ex\/X.s₀.heap.objs.size<=b)/\b≠X.env.locals/\(∀ x c,X.env.cells.lookup x=some c->c≠b)/\∀ p∈X.pn++AA,p.1≠b):Inv X AA σ H' a:=by
 let[h',i,j,t',l]:=a;subst d;exact I.call    u hok e g
end
abbrev XK:=Value->Option Addr->Hp->Prop
abbrev St:=List<|Option V
abbrev VK:=V->Hp->Prop
abbrev TE:=St->Hp->VK->Prop
abbrev TT:=St->Hp->(Bool->Hp->Prop)->Prop
abbrev TA:=St->Hp->(cF->Hp->Prop)->Prop
structure Ends where
 nx:St->Hp->Prop
 rt:VK
 bk:St->Hp->Prop:=λ_ _=>False
 ct:St->Hp->Prop:=λ_ _=>False
abbrev TS:=Ends->St->Hp->Prop
def EP(X:Cx)(b:yA)(c:St)(Q:VK)(u:Value)(d:π):Prop:=∃ v a,Inv X b c a d/\RelV v u/\Q v a
abbrev _root_.uC:=Bool->Hp->Prop
def TP(X:Cx)(c:yA)(d:St)(Q:uC)(b:Bool)(e:π):Prop:=∃ a,Inv X c d a e/\Q b a
def AP(X:Cx)(b:yA)(c:St)(Q:cF->Hp->Prop)(us:uD)(d:π):Prop:=∃ vs a,Inv X b c a d/\Vals vs us/\Q vs a
def SP(X:Cx)(c:yA)(D:Ends)(f:Flow)(d:π):Prop :=
 match f with
 |.next=>∃ a b,Inv X c a b d/\D.nx a b
 |.brk=>∃ a b,Inv X c a b d/\D.bk a b
 |.cont=>∃ a b,Inv X c a b d/\D.ct a b
 |.ret u=>∃ v a b,Inv X c a b d/\RelV v u/\D.rt v b
def PE(X:Cx)(e:Expr)(t:TE):Prop :=
 ∀ (b:yA) (s:π) (a:St) (H:Hp) (Q:VK),Inv X b a H s->t a H Q->wpAny (model X.prog X.w) X.A (eval e X.env) (EP X b a Q) X.xe s
def PT(X:Cx)(e:Expr)(t:TT):Prop :=
 ∀ (b:yA) (s:π) (a:St) (H:Hp) (Q:uC),Inv X b a H s->t a H Q->wpAny (model X.prog X.w) X.A (Lu e X.env<|eval e X.env) (TP X b a Q) X.xe s
def PW(X:Cx)(e:Expr)(t:TT):Prop :=
 ∀ (whole:Sem Value) (b:yA) (s:π) (a:St) (H:Hp) (Q:uC),Inv X b a H s->t a H Q->wpAny (model X.prog X.w) X.A (Lu e X.env whole) (TP X b a Q) X.xe s
def PW.pt(h:PW X e t):PT X e t:=h _
abbrev _root_.xD:=List Expr
def PA(X:Cx)(c:xD)(t:TA):Prop :=
 ∀ (pos:Pos) (b:yA) (s:π) (a:St) (H:Hp) (Q:cF->Hp->Prop),Inv X b a H s->t a H Q->wpAny (model X.prog X.w) X.A (spliced<|jj pos<|az c X.env) (AP X b a Q) X.xe s
def PS(X:Cx)(st:Stmt)(t:TS):Prop :=
 ∀ (a:yA) (s:π) (b:St) (H:Hp) (D:Ends),Inv X a b H s->t D b H->wpAny (model X.prog X.w) X.A (exec st X.env) (SP X a D) X.xe s
def E8(X:Cx)(st:List Stmt)(t:TS):Prop :=
 ∀ (a:yA) (s:π) (b:St) (H:Hp) (D:Ends),Inv X a b H s->t D b H->wpAny (model X.prog X.w) X.A (execs st X.env) (SP X a D) X.xe s
def AO{α :Type}{t:Sem α}{Q b: α ->π->Prop}{M:Model}{A:dr}{E:yB}{s:π}(h:wpAny M A t Q E s)(c:∀ a s,Q a s->b a s):wpAny M A t b E s:=o_ h c λz z x=>x
section
variable{X:Cx}
def SH(i:Nat):TE:=λa H Q=>∃ v,a[i]? =some (some v)/\Q v H
def tC(v:V):TE:=λ_ H Q=>Q v H
def mY(g:X.N[i]? =some x)(j:SG X.env.scope x)(hd:(x ==("__debug__":Str))=false:=by decide)(n:(x ==("__classdict__":Str))=false:=by decide):PE X (.Name x pos) (SH i):=by
 intro y s o H Q I [v,e,h];let[m,p,q]:=I.loc;let[u,r,l]:=q i x v g e j
 have fin:EP X _ o Q u s:=x2 v H ⟨I,r,h⟩;let[b,w]||[b,c,d,a]:=l
 exact Jo (zp I.ok.kind b p w fin) hd;let b||b:=b
 exact Jo (Bn I.ok.kind b d a fin) hd;exact Jo (wpAny_loadName_free I.ok.kind b d a fin n) hd
def mZ{i j pos}:PE X (.Constant (.int i) j pos) (tC<|.int i):=λz z z H z I h=>wpAny_Constant_int<|x2 (.int i) H {I.tok _,⟨_,rfl⟩,h}
def Rm{b j pos}:PE X (.Constant (.bool b) j pos) (tC<|.bl b):=λz z z H z I h=>Constant_bool<|x2 (.bl b) H ⟨I,rfl,h⟩
def Rp{j pos}:PE X (.Constant .none j pos) (tC .non):=λz z z H z I h=>Constant_none<|x2 (.non) H ⟨I,rfl,h⟩
def Rq{x j pos}:PE X (.Constant (.str x) j pos) (tC<|.str x):=λz z z H z I h=>Cu<|x2 (.str x) H {I.tok _,⟨_,rfl⟩,h}
def Gl(X:Cx)(x:Str):Prop:=X.env.kindOf x=some .globalImplicit
def MA(I:Inv X c d H s)(a:Gl X x)(b:X.mg x=some u)(h:Q u s)
  (hd:(x ==("__debug__":Str))=false:=by decide):wpAny (model X.prog X.w) X.A (eval (.Name x pos) X.env) Q E s :=
 wk I.ok.kind a (Calls.loadGlobal_global (by rw[I.ok.glob];exact I.mod.glob.keeps I.bk) b h) hd
def OY{E:yB}{a:yA}{s:π}{b:St}{H:Hp}{x:Str}{u:Value}{pos:Pos}{Q:yB}(I:Inv X a b H s)(c:Gl X x)(d:X.mg x=none)(e:uc x=some u)(h:Q u s)
  (g:x≠"__name__":=by decide) (hd:(x ==("__debug__":Str))=false:=by decide):wpAny (model X.prog X.w) X.A (eval (.Name x pos) X.env) Q E s:=by
 let[i,h1,h2]:=I.mod.blt;exact wk I.ok.kind c (Calls.loadGlobal_builtin (by rw[I.ok.glob];exact I.mod.glob.keeps I.bk) d (by rw[I.ok.blt];exact h1.keeps I.bk) ((h2 x g).trans e) h) hd
def Rv(a:Gl X x)(b:X.mg x=some u)(r:RelV v u)(hd:(x ==("__debug__":Str))=false:=by decide):PE X (.Name x pos) (tC v) :=
 λz z z H z I h=>MA I a b (x2 v H ⟨I,r,h⟩) hd
variable{a b:Expr}{ta tb:TE}{pos:Pos}
def PC(X:Cx)(op:CmpOp)(a b:Expr)(t:TE):Prop :=
 ∀ (g:yA) (s:π) (e:St) (H:Hp) (Q:VK),Inv X g e H s->t e H Q ->
  wpAny (model X.prog X.w) X.A (eval a X.env) (λv c=>wpAny (model X.prog X.w) X.A (eval b X.env) (λu d=>wpAny (model X.prog X.w) X.A (dz op v u) (EP X g e Q) X.xe d) X.xe c) X.xe s
def Rw(b:Expr)(h:op≠.In)(h2:op≠.NotIn):nz op b=false:=by
 have c:(op==CmpOp.In)=false:=by cases op<;>first|rfl|exact absurd rfl h
 have d:(op==Mo)=false:=by cases op<;>first|rfl|exact absurd rfl h2
 cases b<;>simp[nz,c,d]
def tB(t:TE):TT:=λd H Q=>t d H λx e=>∃ c,x=.bl c/\Q c e
def Rx{t:TE}(h:PC X op a b t)(h1:nz op b=false:=by first|exact Rw _ (by decide) (by decide)|rfl):PT X (.Compare a [op] [b] pos) (tB t):=by
 refine λo s g H Q I i=>zj (AO (h _ s g H _ I i) λv p h1=>AO h1 λu r h2=>AO h2 λc w e=>?_) h1;let[x,j,l,n,[d,rfl,q]]:=e;subst n;exact iq ⟨j,l,q⟩
variable{tA tB':TT}{rest:xD}
def KY(t u:TT):TT:=λd H Q=>t d H λc e=>if c=true then u d e Q else Q false e
def MB(t u:TT):TT:=λd H Q=>t d H λc e=>if c=true then Q true e else u d e Q
def FI(t:TT):TT:=λd H Q=>t d H λc e=>Q (!c) e
def Ry(d:PT X a tA):PW X (.BoolOp .And [a] pos) tA:=by
 refine λi j s g H Q I h=>isTrue_and<|AO (d _ s g H Q I h) λc l e=>?_;cases c with
 |true=>exact isTrue_and_nil e
 |false=>exact e
def Rz(d:PT X a tA):PW X (.BoolOp .Or [a] pos) tA:=by
 refine λi j s g H Q I h=>isTrue_or<|AO (d _ s g H Q I h) λc l e=>?_;cases c with
 |false=>exact isTrue_or_nil e
 |true=>exact e
def Sb(j:PT X a tA)(l:PW X (.BoolOp .And (b::rest) pos) tB'):PW X (.BoolOp .And (a::b::rest) pos) (KY tA tB'):=by
 refine λn p s e H Q I h=>isTrue_and<|AO (j _ s e H _ I h) λc o d=>?_;let[g,i,q1]:=d;cases c with
 |true=>exact l n _ o e g Q i q1
 |false=>exact⟨g,i,q1⟩
def Sc(j:PT X a tA)(l:PW X (.BoolOp .Or (b::rest) pos) tB'):PW X (.BoolOp .Or (a::b::rest) pos) (MB tA tB'):=by
 refine λn p s e H Q I h=>isTrue_or<|AO (j _ s e H _ I h) λc o d=>?_;let[g,i,q1]:=d;cases c with
 |true=>exact⟨g,i,q1⟩
 |false=>exact l n _ o e g Q i q1
def Sd(d:PT X a tA):PT X (.UnaryOp .Not a pos) (FI tA):=λi s e H Q I h=>isTrue_not<|d _ s e H (λc g=>Q _ g) I h
def OZ(ta tb:TE):TE:=λd H Q=>ta d H λx e=>∃ c,x=.bl c/\if c=true then tb d e Q else Q (.bl false) e
def SI(ta tb:TE):TE:=λd H Q=>ta d H λx e=>∃ c,x=.bl c/\if c=true then Q (.bl true) e else tb d e Q
def Sg{op}(h:PE X a t):PE X (.BoolOp op [a] pos) t:=λe s c H Q I d=>BoolOp_one<|h _ s c H Q I d
def Sh(j:PE X a ta)(l:PE X (.BoolOp .And (b::rest) pos) tb):PE X (.BoolOp .And (a::b::rest) pos) (OZ ta tb):=by
 refine λp s e H Q I h=>BoolOp_and<|AO (j _ s e H _ I h) λv n d=>?_;let[x,g,i,o,[c,rfl,q1]]:=d;subst o;refine iq ?_;cases c with
 |true=>exact l _ n e g Q i q1
 |false=>exact x2 (.bl _) g ⟨i,rfl,q1⟩
def Sj(l:PE X a ta)(n:PE X (.BoolOp .Or (b::rest) pos) tb):PE X (.BoolOp .Or (a::b::rest) pos) (SI ta tb):=by
 refine λe s g H Q I h=>BoolOp_or<|AO (l e s g H _ I h) λv o d=>?_;let[x,i,j,p,q1]:=d;let[c,rfl,q1]:=q1;cases p;refine iq ?_;cases c with
 |false=>exact n e o g i Q j q1
 |true=>exact x2 (.bl true) i ⟨j,rfl,q1⟩
def SJ(t:TT)(ta tb:TE):TE:=λd H Q=>t d H λc e=>if c=true then ta d e Q else tb d e Q
def Sk{c:Expr}(o:PT X c tA)(p:PE X a ta)(q:PE X b tb):PE X (.IfExp c a b pos) (SJ tA ta tb):=by
 refine λe s g H Q I h=>wpAny_IfExp<|AO (o e s g H _ I h) λd j i=>?_;let[l,n,q1]:=i;cases d with
 |true=>exact p e j g l Q n q1
 |false=>exact q e j g l Q n q1
end
def SqL(K:W.Frag)(H:Hp)(a:Addr)(xs:cF):Prop :=
 Rd H a (.lst xs) ∨
  ∃ (o:Obj) (b:Array Value) (n:Nat),K.lookup a=some o/\o.cls=.type "list"/\o.dict=none/\o.data=.seq b n/\b.size<=sizeLine/\Vals xs b.toList
def SqT(K:W.Frag)(H:Hp)(a:Addr)(xs:cF):Prop :=
 Rd H a (.tup xs) ∨
  ∃ (o:Obj) (b:Array Value) (n:Nat),K.lookup a=some o/\o.cls=.type "tuple"/\o.data=.seq b n/\b.size<=sizeLine/\Vals xs b.toList
def Sl:Value->Option V
 |.none=>some .non
 |.bool b=>some<|.bl b
 |.int i _=>some<|.int i
 |.str x _=>some<|.str x
 |.bytes b _=>some<|.byt b
 |.float b _=>some<|.flt b
 |.ref a=>some<|.ref a
 |.type n=>some<|.ty n
 |_=>none
def RelV.abs(r:RelV x u):Sl u=some x:=by
 cases x with
 |non=>subst r;rfl
 |bl _=>subst r;rfl
 |int _=>let[t,rfl]:=r;rfl
 |str _=>let[t,rfl]:=r;rfl
 |byt _=>let[t,rfl]:=r;rfl
 |flt _=>let[t,rfl]:=r;rfl
 |ref _=>subst r;rfl
 |ty _=>subst r;rfl
def RelV.inj{x y:V}{u:Value}(r:RelV x u)(q:RelV y u):x=y:=ι<|r.abs.symm.trans q.abs
theorem Vals.inj:∀ {xs ys:cF} {us:uD},Vals xs us->Vals ys us->xs=ys:=by
 intro xs ys us h h'
 induction h generalizing ys with
 |nil=>cases h';rfl
 |cons r t a=>cases h' with|cons b t'=>rw[r.inj b,a t']
section
variable{X:Cx}{AA:yA}{σ:St}{H:Hp}{s:π}{a:Addr}{xs ys:cF}
def SqL.of{K:W.Frag}(h:H a=some (.lst xs)):SqL K H a xs:=.inl<|.inl h
def SqT.of{K:W.Frag}(h:H a=some (.tup xs)):SqT K H a xs:=.inl<|.inl h
def Inv.list(I:Inv X AA σ H s)(h:SqL X.K H a xs):∃ b:uD,Vals xs b/\PlainL s.heap a b.toArray/\xs.length<=sizeLine:=by
 let h||[o,b,n,c,d,hd,hs,hz,r]:=h
 let[z,b,n,r,e]:=h.ok I.hok;exact{_,r,x2 _ n ⟨e,rfl,rfl,rfl⟩,z};refine{_,r,x2 o n {I.kIn a o c,d,hd,hs},?_};exact r.length ▸ hz
def Inv.tuple(I:Inv X AA σ H s)(h:SqT X.K H a xs):∃ b:uD,Vals xs b/\IsTup s.heap a b.toArray/\xs.length<=sizeLine:=by
 let h||[o,b,n,c,d,hs,hz,r]:=h
 let[z,b,r,p]:=h.ok I.hok;exact⟨_,r,p,z⟩;refine{_,r,{o,I.kIn a o c,d,n,hs},?_};exact r.length ▸ hz
def Inv.list_inj(I:Inv X AA σ H s)(h:SqL X.K H a xs)(h':SqL X.K H a ys):xs=ys:=by
 let[i,r,[o,n,e,z,z,d],z]:=I.list h;let[b,j,[p,q,c,z,z,g],z]:=I.list h';rw[e]at c;obtain rfl:=ι c;rw[d]at g;injection g with l _
 have:i=b:=congrArg L_ l;subst this;exact r.inj j
def Inv.tuple_inj(I:Inv X AA σ H s)(h:SqT X.K H a xs)(h':SqT X.K H a ys):xs=ys:=by
 let[i,r,[o,e,z,n,d],z]:=I.tuple h;let[b,j,[p,c,z,q,g],z]:=I.tuple h';rw[e]at c;obtain rfl:=ι c;rw[d]at g;injection g with l _
 have:i=b:=congrArg L_ l;subst this;exact r.inj j
end
section
variable{X:Cx}{AA:yA}{σ:St}{H:Hp}{s:π}{E:yB}
end
section
variable{X:Cx}{st:Stmt}{rest:List Stmt}{t u:TS}{e:Expr}{te:TE}{pos:Pos}
def BU:TS:=λD a H=>D.nx a H
def AH(t u:TS):TS:=λD a H=>t { D with nx:=u D } a H
def Sm:E8 X [] BU:=λz z a H z I h=>nj<|x2 a H ⟨I,h⟩
def Sq(h1:PS X st t)(h2:E8 X rest u):E8 X (st::rest) (AH t u):=by
 refine λi s a H D I h=>Gu<|AO (h1 _ s a H _ I h) λf b q=>?_;cases f with
 |next =>
  revert q;apply u2;intro c d [g,q];exact h2 _ b _ d D g q
 |ret v=>exact q
 |brk=>exact q
 |cont=>exact q
def Sv(h1:PS X st t):E8 X [st] t:=by
 refine λb s a H D I h=>Gu<|AO (h1 _ s a H D I h) λf c q=>?_;cases f with
 |next=>exact nj q
 |ret v=>exact q
 |brk=>exact q
 |cont=>exact q
def Inv.quiet{a:yA}{b:St}{H:Hp}{s:π}(I:Inv X a b H s):interactive X.env=false:=by simp[interactive,I.ok.kind]
def CP(te:TE):TS:=λD a H=>te a H λ_ b=>D.nx a b
def Sw(he:PE X e te)(hs:we e none pos.line X.env=pure false:=by rfl):PS X (.Expr e pos) (CP te):=λd s a H D I h=>wpAny_Expr_any (AO (he _ s a H _ I h) (by intro v g [x,b,c,i,q1];exact x2 a b ⟨c,q1⟩)) I.quiet hs
def AV(te:TE):TS:=λD a H=>te a H D.rt
def Sx(he:PE X e te):PS X (.Return (some e) pos) (AV te):=λg s a H D I h=>wpAny_Return_some (AO (he _ s a H _ I h) (by intro v i [x,b,c,d,q1];exact x3 x a b ⟨c,d,q1⟩))
def BL(c:TT)(t u:TS):TS:=λD a H=>c a H λb d=>if b=true then t D a d else u D a d
def Sy{j:TT}(p:PT X c j)(q:E8 X a t)(r:E8 X b u):PS X (.If c a b pos) (BL j t u):=by
 refine λv s g H D I h=>wpAny_If<|AO (p _ s g H _ I h) λd l i=>?_;let[n,o,q1]:=i;cases d with
 |true=>exact q _ l g n D o q1
 |false=>exact r _ l g n D o q1
end
abbrev TG:=V->St->Hp->(St->Hp->Prop)->Prop
abbrev HE:=cF->St->Hp->(St->Hp->Prop)->Prop
def PG(X:Cx)(target:Expr)(t:TG):Prop :=
 ∀ (b:yA) (s:π) (c:St) (H:Hp) (v:V) (u:Value) (Q:St->Hp->Prop),Inv X b c H s->RelV v u->t v c H Q ->
  wpAny (model X.prog X.w) X.A (Ma target X.env u) (λ_ e=>∃ a d,Inv X b a d e/\Q a d) X.xe s
def IW(X:Cx)(e:xD)(t:HE):Prop :=
 ∀ (b:yA) (s:π) (c:St) (H:Hp) (vs:cF) (us:uD) (Q:St->Hp->Prop),Inv X b c H s->Vals vs us->t vs c H Q ->
  wpAny (model X.prog X.w) X.A (assignInOrder ((wm e X.env).map (·.2)) us) (λ_ g=>∃ a d,Inv X b a d g/\Q a d) X.xe s
abbrev WO:=V->V->V->Hp->(Hp->Prop)->Prop
def WP(X:Cx)(t:WO):Prop :=
 ∀ (a:yA) (s:π) (b:St) (H:Hp) (o i v:V) (c iv u:Value) (Q:Hp->Prop),Inv X a b H s->RelV o c->RelV i iv->RelV v u->t o i v H Q ->
  wpAny (model X.prog X.w) X.A (Me c iv u) (λ_ e=>∃ d,Inv X a b d e/\Q d) X.xe s
abbrev SK:=V->V->Hp->VK->Prop
def m7(X:Cx)(op:Operator)(t:SK):Prop :=
 ∀ (a:yA) (s:π) (b:St) (H:Hp) (x y:V) (v u:Value) (Q:VK),Inv X a b H s->RelV x v->RelV y u->t x y H Q ->
  wpAny (model X.prog X.w) X.A (Le op v u) (EP X a b Q) X.xe s
section
variable{X:Cx}{pos:Pos}
def AG(i:Nat):TG:=λv a H Q=>Q (a.set i<|some v) H
def m8(a:X.N.Nodup)(b:X.N[i]? =some x)(c:L9 X.env.scope x)(hf:X.fn x=true\/X.env.scope.names.lookup x=some .local:=by first|exact .inl rfl|exact .inr rfl|assumption):PG X (.Name x pos) (AG i):=λe s g H v u Q I r h=>Dt<|WN I a b c r (λj d=>x2 _ H ⟨d,h⟩) hf
def FJ:HE:=λvs a H Q=>vs=[]/\Q a H
def DP(t:TG)(u:HE):HE:=λvs b H Q=>∃ v r,vs=v::r/\t v b H λa c=>u r a c Q
def Sz:IW X [] FJ:=by
 intro b s a H vs us Q I r [rfl,h];exact assignInOrder_nil<|x2 a H ⟨I,h⟩
def Tb{e:Expr}{a:xD}{t:TG}{u:HE}(h1:PG X e t)(h2:IW X a u)
  (hs:(wm (e::a) X.env).map (·.2)=Ma e X.env::(wm a X.env).map (·.2):=by rfl):IW X (e::a) (DP t u):=by
 intro l s b H vs us Q I r h;revert h;apply u2;intro v n [rfl,h];cases r with
 |cons r c =>
  rw[hs];exact assignInOrder_cons (AO (h1 _ s b H _ _ _ I r h) (by intro z d [g,i,j,q1];exact(h2 _ d _ i _ _ Q j c q1)))
def FL(K:W.Frag)(n:Nat)(t:HE):TG:=λv b H Q=>∃ a xs,v=.ref a/\SqT K H a xs/\xs.length=n/\t xs b H Q
def Tc(l:X.calm=true)(h:IW X c t)
  (p:(wm c X.env).length=n:=by rfl) (d:(wm c X.env).findIdx? (·.1)=none:=by rfl):PG X (.Tuple c k pos) (FL X.K n t):=by
 intro A s i H v u Q I r g;revert g;apply u2;intro a xs [rfl,q,w,g];subst r;let[B,j,x,hz]:=I.tuple q;refine assign_Tuple_tuple (I.ok.hd l) x (by simp[p,<-w,j.length]) d λh' y=>?_
 have z:Inv X _ i H { s with heap:=h' }:=I.kept  λb o e=>y b o (a_<|ak e) e;exact h _ _ i H xs _ Q z (j) g
def O0(to b:TE)(t:WO):TG:=λv a H Q=>to a H λo c=>b a c λi d=>t o i v d λe=>Q a e
def Td{to c:TE}{t:WO}(d:PE X o to)(e:PE X i c)(hs:WP X t)
  (E:∀ v,Ma (.Subscript o i pos) X.env v=(do
   let a ← ue [v] (eval o X.env)
   let iv ← ue [v,a] (eval i X.env)
   yp pos
   ue [v,a,iv] (Me a iv v)
   release [v,a,iv] []):=by intro z;rfl):PG X (.Subscript o i pos) (O0 to c t):=λJ s b H v u Q I r h=>δ (fm (AO (d _ s b H _ I h) (by intro a g [x,j,l,n,q1];exact(δ (fm (AO (e _ g b j _ l q1) (by intro iv p [y,q,w,A,q2];exact(δ (B_ (δ (fm (AO (hs _ p b q x y v a iv u _ w n A r q2) (by intro z L [B,D,q3];exact(wpAny_release<|x2 b B ⟨D,q3⟩))))))))))))))
def AT(b:TE)(g:TG):TS:=λD a H=>b a H λx c=>g x a c D.nx
def Tg{c:TE}(he:PE X e c)(i:PG X a g)(hs:swapsWithSole [a] e pos.line X.env=pure false:=by rfl)(j:swappedStores [a] e X.env=pure none:=by rfl)
  (h1:(wm [a] X.env).map (·.2)=[Ma a X.env]:=by rfl):PS X (.Assign [a] e pos) (AT c g):=by
 refine λr s d H D I h=>wpAny_Assign_stores (AO (he _ s d H _ I h) λv l b=>?_) hs j;let[x,n,o,p,q1]:=b;rw[h1];exact AO (i _ l d n x v _ o p q1) λz u q=>q
def m9{b:TE}(c:X.N.Nodup)(d:X.N[i]? =some x)(g:L9 X.env.scope x)(he:PE X e b)(hs:we e (some<|.Name x a) pos.line X.env=pure false:=by rfl)(hf:X.fn x=true\/X.env.scope.names.lookup x=some .local:=by first|exact .inl rfl|exact .inr rfl|assumption) :
  PS X (.Assign [.Name x a] e pos) (AT b<|AG i):=λq s j H D I h=>wpAny_Assign_Name (AO (he _ s j H _ I h) (by intro v r [y,l,n,o,q1];exact(WN n c d g o (λu p=>x2 _ l ⟨p,q1⟩) hf))) hs
def WQ(i:Nat)(b:TE)(c:SK):TS:=λD a H=>∃ x,a[i]? =some (some x)/\b a H λy d=>c x y d λz e=>D.nx (a.set i<|some z) e
def Th(A:X.N.Nodup)(o:X.N[i]? =some x)(j:L9 X.env.scope x)(he:PE X e B)(E:m7 X op J)(hf:X.fn x=true\/X.env.scope.names.lookup x=some .local:=by first | exact .inl rfl | exact .inr rfl | assumption) :
  PS X (.AugAssign (.Name x p) op e pos) (WQ i B J):=by
 intro n s q H D I h;let[v,L,h]:=h;let[m,M,O]:=I.loc;let[u,r,l]:=O i x v o L (by let k||k:=j;exact .inl k;exact .inr<|.inl k);refine wpAny_AugAssign_Name ?_
 have go:wpAny (model X.prog X.w) X.A (eval e X.env) (λw d=>wpAny (model X.prog X.w) X.A (Le op u w) (λr g=>wpAny (model X.prog X.w) X.A (La X.env x r) (λt=>SP X n D .next) X.xe g) X.xe d) X.xe s:=by
  exact AO (he n s q H _ I h) λw Q ⟨y,T,U,Y,q1⟩=>(AO (E n Q q T v y u w _ U r Y q1) λz s2 ⟨zv,H2,I2,r2,q2⟩=>(WN I2 A o j r2 (λs3 I3=>x2 _ H2 ⟨I3,q2⟩) hf))
 let[a,hm]||[a,c,hc,b]:=l
 ·exact zp I.ok.kind a M hm go
 ·let a||a:=a
  ·exact Bn I.ok.kind a hc b go
  ·let k||k:=j
   ·have:X.env.scope.names.lookup x=some .free:=a;rw[k]at this;cases this
   ·have:X.env.scope.names.lookup x=some .free:=a;rw[k]at this;cases this
def SL(f:Int->Int->Int):SK:=λx y H Q=>∃ i j,x=.int i/\y=.int j/\Q (.int<|f i j) H
def Tj:m7 X .Add (SL λi j=>i+j):=by
 intro e s g H x y v u Q I a b h;revert h;apply u2;intro i j [c,d,q];subst c;subst d;let[t,rfl]:=a;let[t',rfl]:=b;exact Iz<|x2 (.int _) H {I.tok _,⟨_,rfl⟩,q}
end
section
variable{X:Cx}{pos:Pos}
def nB(c:TT)(j:TS):TS:=λD a H=>∃ W:Nat->St->Hp->Prop,(∃ m,W m a H)/\∀ m a H,W m a H ->
 c a H λb e=>if b=true then ∃ N:St->Hp->Prop,(∀ d g,N d g->∃ i,i<m/\W i d g)/\j { D with nx:=N,ct:=N,bk:=D.nx } a e else D.nx a e
def Tk(q:G_ (model X.prog X.w) X.A X.env X.xe)(z:PT X c A)(B:E8 X body E):PS X (.While c body [] pos) (nB A E):=by
 intro AA s J H D I [W,[m0,L],a];refine wpAny_While<|codeAny_whileLoop (λn M=>∃ d r,Inv X _ d r M/\W n d r) ?_ m0 (x2 J H ⟨I,L⟩);intro n O [Q,u,T,U];refine fk q<|AO (z _ O _ u _ T<|a n _ u U) λb Y g=>?_;let[w,x,q2]:=g;cases b with
 |true =>
  let[N,y,q2]:=q2;refine fk q<|AO (B _ Y _ w _ x q2) λf s3 q3=>?_;cases f with
  |next =>
   revert q3;apply u2;intro i e [j,l];let[o,p,w3]:=y _ e l;exact{o,p,x2 _ e ⟨j,w3⟩}
  |cont =>
   revert q3;apply u2;intro i e [j,l];let[o,p,w3]:=y _ e l;exact{o,p,x2 _ e ⟨j,w3⟩}
  |brk=>exact q3
  |ret v=>exact q3
 |false =>
  exact nj<|x2 _ w ⟨x,q2⟩
end
structure It where
 go:Nat->Hp->Prop
 yld:Nat->Hp->V->Hp->Prop
 stop:Nat->Hp->Prop
def FpOk(X:Cx)(a:yA)(H:Hp)(b:Addr):Prop :=
 H b=none/\b≠X.env.locals/\b∉X.fs/\(b∈X.ex\/X.s₀.heap.objs.size<=b)/\(∀ x c,X.env.cells.lookup x=some c->c≠b)/\∀ p∈X.pn++a,p.1≠b
def Inv.fpOk(I:Inv X d l H s)(a:s.heap.objs.size<=b)(g:i b=none):FpOk X d i b:=by
 refine{g,gr<|ω I.lt a,I.nofs a,.inr<|ψ I.sz a,λx c e z=>?_,λp j z=>(absurd (ω (ak (I.pin p j).1) (by rw[z];exact a)) (ju _))};let[v,q]:=I.cell x c e;exact absurd (ω q.lt (by rw[z];exact a)) (ju _)
structure JZ(P:bw)(w:World)(K:W.Frag)(tg:Expr)(J:It)(fp:wD)(it:Addr)(tn:Nat->Heap->Prop):Prop where
 mem:it∈fp
 obj:∀ i h,tn i h->∀ b∈fp,∃ o,h.get? b=some o/\∀ v,o.data≠.cell v
 keep:∀ i h h',tn i h->(∀ b∈fp,∀ o,h.get? b=some o->h'.get? b=some o)->tn i h'
 item:∀ (X:Cx),X.prog=P->X.w=w->X.K=K->X.calm=true->∀ (i:Nat) (AA:yA) (s:π) (σ:St) (H:Hp) (E:yB),Inv X AA σ H s->(∀ b∈fp,FpOk X AA H b)->tn i s.heap->J.go i H ->
  wpAny (model P w) X.A (xz<|.ref it) (λr s1=>∃ u,r=some u /\
   wpAny (model P w) X.A (zd tg (.ref it) u) (λ_ s2=>∃ x H',Inv X AA σ H' s2/\RelV x u/\J.yld i H x H'/\tn (i+1) s2.heap/\∀ b∈fp,H' b=none) E s1) E s
 done:∀ (X:Cx),X.prog=P->X.w=w->X.K=K->X.calm=true->∀ (i:Nat) (AA:yA) (s:π) (σ:St) (H:Hp) (E:yB),Inv X AA σ H s->(∀ b∈fp,FpOk X AA H b)->tn i s.heap->J.stop i H ->
  wpAny (model P w) X.A (xz<|.ref it) (λr s1=>r=none/\Inv X AA σ H s1) E s
 self:∀ (A:dr) (i:Nat) (s:π) (Q:yB) (E:yB),tn i s.heap->Q (.ref it) s->wpAny (model P w) A (zq<|.ref it) Q E s
abbrev TI:=St->Hp->(It->Hp->Prop)->Prop
def WR(X:Cx)(d:yA)(j:St)(l:Expr)(R:It->Hp->Prop)(a:Value)(e:π):Prop :=
 ∃ (it:Addr) (g:wD) (i:Nat->Heap->Prop) (J:It) (c:Hp),a=.ref it/\Inv X d j c e/\JZ X.prog X.w X.K l J g it i/\i 0 e.heap/\(∀ b∈g,FpOk X d c b)/\R J c
def PI(X:Cx)(c iter:Expr)(d:TI):Prop :=
 ∀ (b:yA) (s:π) (a:St) (H:Hp) (R:It->Hp->Prop),Inv X b a H s->d a H R ->
  wpAny (model X.prog X.w) X.A (eval iter X.env) (λv e=>wpAny (model X.prog X.w) X.A (zq v) (WR X b a c R) X.xe e) X.xe s
def ND(b:s.heap.get? it=some o)(c:o.cls=.type n)(hd:o.data=.fields vs)
    (d:["enumerate","zip","dict_itemiterator","dict_reverseitemiterator","odict_iterator","itertools.zip_longest","itertools.pairwise"].contains n=false) (a:Q () s):wpAny M A (zd e (.ref it) u) Q E s:=by
  cases e<;>first
    |exact ξ a
    | (cases u<;>first
        |exact ξ a
        | (refine δ (Jr b ?_)
           rw[c,hd]
           show wpAny M A (if(["enumerate","zip","dict_itemiterator","dict_reverseitemiterator","odict_iterator","itertools.zip_longest","itertools.pairwise"].contains n&&vs[0]? == some _)=true then _ else _) Q E s;rw[if_neg (by intro h;rw[d]at h;cases h)];exact ξ a))
def GG(K:W.Frag)(a:Addr):It :=
 {λi H=>∃ xs x,SqL K H a xs/\xs[i]? =some x,λi H x b=>b=H/\∀ xs,SqL K H a xs->xs[i]? =some x,λi H=>∃ xs,SqL K H a xs/\xs.length<=i}
def IX(K:W.Frag)(a:Addr):It :=
 {λi H=>∃ xs x,SqT K H a xs/\xs[i]? =some x,λi H x b=>b=H/\∀ xs,SqT K H a xs->xs[i]? =some x,λi H=>∃ xs,SqT K H a xs/\xs.length<=i}
def FM(lo:Int)(n:Nat):It:={λi _=>i<n,λi H x a=>a=H/\x=.int (lo+i),λi _=>n<=i}
def Tl{P:bw}{w:World}{K:W.Frag}{Q:Expr}(a it:Addr):JZ P w K Q (GG K a) [it] it (λi h=>h.IsListIter it a i) where
 mem:=by simp
 obj:=λi h st b g=>by
  have e:b=it:=by simpa using g
  subst e;let[o,e,c,d]:=st;exact{o,e,λv z=>by rw[d]at z;cases z}
 keep:=λi h h' st k=>st.at λo e=>k it (by simp) o e
 item:=by
  intro X q r A N i T s O H E I hf st U;subst q r A;revert U;apply u2;intro xs x [l,n];let[Y,B,p,hz]:=I.list l;let[D,f1,f2,J,L,M]:=hf it (by simp);let[u,hu,ru]:=B.get n;refine wpAny_pyNext_list_item st p.isList  (by simpa using hu) λh' j sb=>?_
  have I1:Inv X _ O H { s with heap:=h' }:=I.turned  (λb o g e=>(sb.2 b g).trans e) D f1 J L M;let[o,e,c,d]:=id j;exact{u,rfl,ND  e c d (by decide) (x2 x H {I1,ru,{rfl,λys hy=>by rw[I.list_inj hy l];exact n},j,λb g=>(hf b g).1})}
 done:=by
  intro X q r A N i T s O H E I hf st [xs,l,n];subst q r A;let[Y,B,p,hz]:=I.list l;let[D,f1,f2,J,L,M]:=hf it (by simp);exact wpAny_pyNext_list_end (I.ok.hd N) st p.isList (by simp;exact B.length ▸ n) λh' eb=>{rfl,I.turned  (λb o g e=>eb b o g e) D f1 J L M}
 self:=λy y y y y st h=>wpAny_pyIter_listiter st h
def Tm{P:bw}{w:World}{K:W.Frag}{Q:Expr}(a it:Addr):JZ P w K Q (IX K a) [it] it (λi h=>h.IsTupleIter it a i) where
 mem:=by simp
 obj:=λi h st b g=>by
  have e:b=it:=by simpa using g
  subst e;let[o,e,c,d]:=st;exact{o,e,λv z=>by rw[d]at z;cases z}
 keep:=λi h h' st k=>st.at λo e=>k it (by simp) o e
 item:=by
  intro X q r A N i T s O H E I hf st U;subst q r A;revert U;apply u2;intro xs x [l,n];let[Y,B,p,hz]:=I.tuple l;let[D,f1,f2,J,L,M]:=hf it (by simp);let[u,hu,ru]:=B.get n;refine wpAny_pyNext_tuple_item st (p)  (by simpa using hu) λh' j sb=>?_
  have I1:Inv X _ O H { s with heap:=h' }:=I.turned  (λb o g e=>(sb.2 b g).trans e) D f1 J L M;let[o,e,c,d]:=id j;exact{u,rfl,ND  e c d (by decide) (x2 x H {I1,ru,{rfl,λys hy=>by rw[I.tuple_inj hy l];exact n},j,λb g=>(hf b g).1})}
 done:=by
  intro X q r A N i T s O H E I hf st [xs,l,n];subst q r A;let[Y,B,p,hz]:=I.tuple l;let[D,f1,f2,J,L,M]:=hf it (by simp);exact wpAny_pyNext_tuple_end (I.ok.hd N) st (p) (by simp;exact B.length ▸ n) λh' eb=>{rfl,I.turned  (λb o g e=>eb b o g e) D f1 J L M}
 self:=λy y y y y st h=>wpAny_pyIter_tupleiter st h
def Tp{P:bw}{w:World}{K:W.Frag}{u:Expr}(it:Addr)(lo:Int)(n:Nat):JZ P w K u (FM lo n) [it] it (λi h=>IsRangeIter h it (lo+(i:Nat) * 1) ((n:Int) - (i:Nat)) 1) where
 mem:=by simp
 obj:=λi h st b a=>by
  have e:b=it:=by simpa using a
  subst e;exact⟨_,st,λv z=>by
   cases z⟩
 keep:=λi h h' st k=>k it (by simp) _ st
 item:=by
  intro X x A B d i D s r H E I hf st g;let[j,f1,f2,l,p,q]:=hf it (by simp);refine(Walks.range   (I.ok.hd d) it lo 1 n).item i s _ _ g st λv h' tk J c L=>?_;let[t,rfl]:=J
  have M:Inv X _ r H { s with heap:=h',toks:=tk }:=I.turned (λb o a e=>L b o (by simpa using a) e) j f1 l p q;refine{_,rfl,ND   c rfl rfl (by decide) (x2 (.int _) H {M,{t,?_},⟨rfl,rfl⟩,c,λb a=>(hf b a).1})};rw[Int.mul_one]
 done:=by
  intro X x A B d i D s r H E I hf st g;let[j,f1,f2,l,p,q]:=hf it (by simp);exact wpAny_pyNext_range_end (I.ok.hd d) st (by have:n<=i:=g;lia) λh' N=>{rfl,I.turned  (λb o a e=>N b o a e) j f1 l p q}
 self:=λy y y y y st h=>wpAny_pyIter_rangeiter st h
section
variable{X:Cx}{tg:Expr}
def Tq{g:yA}{c:St}{H:Hp}{s:π}{R:It->Hp->Prop}{E:yB}{lo a:Int}{t u v:Tok}{tk:Nat}(I:Inv X g c H s)(h1: -(2^62)<=lo)(h2:lo<2^62)(h3: -(2^62)<=a)(h4:a<2^62)
  (q:R (FM lo (a-lo).toNat) H):wpAny (model X.prog X.w) X.A (zq<|.ref s.heap.objs.size) (WR X g c tg R) E { s with heap:=s.heap.push { cls:=.type "range",data:=.fields #[.int lo t,.int a u,.int 1 v] },toks:=tk }:=by
 refine wpAny_pyIter_range (IsRange.new ..) (small_one h1 h2 h3 h4) ?_
 have d:Inv X _ c H { s with heap:=s.heap.push { cls:=.type "range",data:=.fields #[.int lo t,.int a u,.int 1 v] },toks:=tk }:=I.kept λb o e=>ν _ e;refine⟨_,_,_,_,H,rfl,
  d.kept  λb o e=>ν _ e,Tp _ lo _,?_,λb i=>?_,q⟩
 have j:lo+((0:Nat))*1=lo:=by simp
 have l:(((a-lo).toNat))-((0:Nat))=Lf lo a 1:=by rw[rangeSize_one];split<;>omega
 rw[j,l];exact ae _ rfl
 have e:b=(s.heap.push { cls:=.type "range",data:=.fields #[.int lo t,.int a u,.int 1 v] }).objs.size:=by simpa using i
 subst e;exact d.fpOk (ο _) (d.hok.fresh<|ο _)
def SN(a:TA):TI:=λb H R=>a b H λvs c=>∃ j:Int,vs=[.int j]/\ -(2^62)<=j/\j<2^62/\R (FM 0 j.toNat) c
def Tv{a:Expr}{c:TA}{p pos:Pos}(d:Gl X "range")(e:X.mg "range"=none)(g:PA X [a] c)(hs:az [a] X.env=[(false,eval a X.env)]:=by rfl):PI X tg (.Call (.Name "range" p) [a] [] pos) (SN c):=by
 refine λu s i H R I h=>Call_<|OY I d e boot_range<|jt (AO (g _ _ s i H _ I h) λus v b=>?_) hs rfl;let[vs,w,l,n,[j,rfl,q1,q2,q]]:=b;cases n with
 |cons r o =>
  cases o;let[t,rfl]:=r;exact call_range_1 (Tq l (by decide) (by decide) q1 q2 (by simpa using q))
def C4(j:TI)(g:TG)(l:TS):TS:=λD a H=>j a H λJ n=>∃ W:Nat->Nat->St->Hp->Prop,(∃ m,W 0 m a n)/\∀ i m a H,W i m a H ->
 (J.stop i H/\D.nx a H)\/(J.go i H/\∃ N:St->Hp->Prop,(∀ b c,N b c->∃ e,e<m/\W (i+1) e b c)/\∀ x c,J.yld i H x c->g x a c λd o=>l { D with nx:=N,ct:=N,bk:=D.nx } d o)
def O1(a:wD)(h:Heap):yA:=a.filterMap λb=>(h.get? b).map λo=>(b,o)
def NE(a:b∈c)(e:h.get? b=some o):(b,o)∈O1 c h:=mw.mpr {b,a,by rw[e];rfl}
def Tw(a:p∈O1 c h):p.1∈c/\h.get? p.1=some p.2:=by
 let[b,d,e]:=mw.mp a;cases q:h.get? b with
 |none=>rw[q]at e;cases e
 |some o =>
  rw[q]at e
  have g:=ι e;subst g;exact⟨d,q⟩
def Inv.pinned(I:Inv X a j H s)(hf:∀ b∈c,FpOk X a H b)(l:∀ b∈c,∃ o,s.heap.get? b=some o/\∀ v,o.data≠.cell v):Inv X (a++O1 c s.heap) j H s :=
 I.pins_of λp n=>(bc.mp n).elim (λz=>I.pin p<|bu _ z) λz=>by
  let[g,e]:=Tw z;let[q,f1,f2,y]:=hf _ g;let[o,i,d]:=l _ g;rw[e]at i;obtain rfl:=ι i;exact⟨e,q,f1,f2,d⟩
def Inv.unpinned(I:Inv X (a++d) b H s):Inv X a b H s:=I.pins_of λp c=>I.pin p<|bu _<|ji _ c
def Tx(E:G_ (model X.prog X.w) X.A X.env X.xe)(hc:X.calm=true)(hi:PI X tg iter wi)(hg:PG X tg g)(c:E8 X body tb)
  (hs:∀ x,ky iter X.env x=pure x:=by intro z;rfl):PS X (.For tg iter body [] pos) (C4 wi g tb):=by
 refine λAA s σ H D I h=>wpAny_For (AO (hi _ s σ H _ I h) λv s1 h1=>AO h1 λitv s2 h2=>?_) hs;revert h2;apply u5;intro it U tn J H2 [rfl,I2,T,st2,f2,W,[m0,w0],L]
 have j:∀ {y:Hp},(∀ b∈U,y b=none)->∀ b∈U,FpOk X _ y b:=λhn b c=>{hn b c,(f2 b c).2}
 refine Bo (λn s'=>∃ i l y,Inv X _ l y s'/\tn i s'.heap/\(∀ b∈U,y b=none)/\W i n l y) ?_ m0 (x3 0 σ H2 {I2,st2,λb c=>(f2 b c).1,w0});intro n s3 [i,σ3,Y,I3,M,O,w3];let[stop,qn]||[go,N,hN,step]:=L i n _ Y w3
 refine fk E<|AO (T.done X rfl rfl rfl hc i _ s3 _ Y _ I3 (j O) M stop) λr s4 p=>?_;let[rfl,I4]:=p;exact nj<|x2 _ Y ⟨I4,qn⟩;refine fk E<|AO (T.item X rfl rfl rfl hc i _ s3 _ Y _ I3 (j O) M go) λr s4 p=>?_;let[u,rfl,h4]:=p;refine fk E<|AO h4 λz s5 p=>?_;let[x,H5,I5,r5,y5,B,fr5]:=p;refine fk E<|AO (hg _ s5 _ H5 x u _ (I5.pinned (j fr5) (T.obj _ _ B)) r5 (step x H5 y5)) λz s6 ⟨σ6,H6,I6,q6⟩=>(fk E<|AO (c _ s6 _ H6 _ I6 q6) λf s7 A=>?_)
 have again:∀ {a:St} {q:Hp},Inv X _ _ q s7->N _ q->∃ m,m<n/\∃ i l y,Inv X AA l y s7/\tn i _/\(∀ b∈U,y b=none)/\W i m l y:=λ{a q} w Q=>by
  let[m',hm,w7]:=hN _ q Q;refine{m',hm,x3 _ a q {w.unpinned,T.keep _ _ _ B λb c o e=>(w.pin _<|bu _<|bu _<|NE c e).1,λb c=>?_,w7}};let[o,e,d]:=T.obj _ _ B b c;exact(w.pin _<|bu _<|bu _<|NE c e).2.1
 cases f with
 |next=>revert A;apply u2;intro a q [w,Q];exact again w Q
 |cont=>revert A;apply u2;intro a q [w,Q];exact again w Q
 |brk=>revert A;apply u2;intro a q [w,A];exact x2 _ q ⟨w.unpinned,A⟩
 |ret v=>revert A;apply u3;intro x7 a q [w,r7,A];exact x3 x7 _ q ⟨w.unpinned,r7,A⟩
end
abbrev _root_.vB:=Nat->St->Hp->Prop
def Ty{K:PySem.W.Frag}{a:Addr}{xs:cF}{g:TG}{n:TS}{D:Ends}{b:St}{H:Hp}(Pv:vB)(h0:Pv 0 b H)(s:∀ i b H,i<=xs.length->Pv i b H->SqL K H a xs)
  (hs:∀ i x b H,xs[i]? =some x->Pv i b H->g x b H λc l=>n { D with nx:=Pv<|i+1,ct:=Pv<|i+1,bk:=D.nx } c l) (hd:∀ b H,Pv xs.length b H->D.nx b H) :
  ∃ W:Nat->Nat->St->Hp->Prop,(∃ m,W 0 m b H)/\∀ i m b H,W i m b H ->
   ((GG K a).stop i H/\D.nx b H)\/((GG K a).go i H/\∃ N:St->Hp->Prop,(∀ d j,N d j->∃ o,o<m/\W (i+1) o d j)/\∀ x j,(GG K a).yld i H x j->g x b j λc l=>n { D with nx:=N,ct:=N,bk:=D.nx } c l):=by
 refine{λi m b H=>m=xs.length-i/\i<=xs.length/\Pv i b H,{xs.length,rfl,bh _,h0},?_};intro i m b H [rfl,u,p]
 have q:=s i b H u p;by_cases r:i<xs.length;refine .inr {x2 xs (xs[i]) {q,by simp[r]},_,λd j v=>{_,cq ‹_›,rfl,r,v},λx j y=>?_};let[rfl,y]:=y;exact hs i x b _ (y xs q) p
 have e:i=xs.length:=by lia
 subst e;exact .inl {{xs,q,ο _},hd b H p}
def Tz{K:PySem.W.Frag}{a:Addr}{xs:cF}{g:TG}{n:TS}{D:Ends}{b:St}{H:Hp}(Pv:vB)(h0:Pv 0 b H)(s:∀ i b H,i<=xs.length->Pv i b H->SqT K H a xs)
  (hs:∀ i x b H,xs[i]? =some x->Pv i b H->g x b H λc l=>n { D with nx:=Pv<|i+1,ct:=Pv<|i+1,bk:=D.nx } c l) (hd:∀ b H,Pv xs.length b H->D.nx b H) :
  ∃ W:Nat->Nat->St->Hp->Prop,(∃ m,W 0 m b H)/\∀ i m b H,W i m b H ->
   ((IX K a).stop i H/\D.nx b H)\/((IX K a).go i H/\∃ N:St->Hp->Prop,(∀ d j,N d j->∃ o,o<m/\W (i+1) o d j)/\∀ x j,(IX K a).yld i H x j->g x b j λc l=>n { D with nx:=N,ct:=N,bk:=D.nx } c l):=by
 refine{λi m b H=>m=xs.length-i/\i<=xs.length/\Pv i b H,{xs.length,rfl,bh _,h0},?_};intro i m b H [rfl,u,p]
 have q:=s i b H u p;by_cases r:i<xs.length;refine .inr {x2 xs (xs[i]) {q,by simp[r]},_,λd j v=>{_,by omega,rfl,r,v},λx j y=>?_};let[rfl,y]:=y;exact hs i x b _ (y xs q) p
 have e:i=xs.length:=by lia
 subst e;exact .inl {{xs,q,ο _},hd b H p}
def Ub{lo:Int}{n:Nat}{g:TG}{o:TS}{D:Ends}{a:St}{H:Hp}(Pv:vB)(h0:Pv 0 a H)
  (hs:∀ i a H,i<n->Pv i a H->g (.int<|lo+i) a H λb j=>o { D with nx:=Pv<|i+1,ct:=Pv<|i+1,bk:=D.nx } b j) (hd:∀ a H,Pv n a H->D.nx a H) :
  ∃ W:Nat->Nat->St->Hp->Prop,(∃ m,W 0 m a H)/\∀ i m a H,W i m a H ->
   ((FM lo n).stop i H/\D.nx a H)\/((FM lo n).go i H/\∃ N:St->Hp->Prop,(∀ c d,N c d->∃ q,q<m/\W (i+1) q c d)/\∀ x d,(FM lo n).yld i H x d->g x a d λb j=>o { D with nx:=N,ct:=N,bk:=D.nx } b j):=by
 refine{λi m a H=>m=n-i/\i<=n/\Pv i a H,{n,rfl,bh _,h0},?_};intro i m a H [rfl,s,p];by_cases l:i<n;refine .inr {l,_,λc d r=>{_,cq ‹_›,rfl,l,r},λx d y=>?_};let[e,y]:=y;subst e y;exact hs i a _ l p
 have e:i=n:=by lia
 subst e;exact .inl {ο _,hd a H p}
abbrev R2:=V->V->Hp->VK->Prop
abbrev _root_.uA:=Value->Value->Sem Value
def CC(X:Cx)(f:uA)(r:R2):Prop :=
 ∀ (a:yA) (s:π) (b:St) (H:Hp) (x y:V) (v u:Value) (Q:VK),Inv X a b H s->RelV x v->RelV y u->r x y H Q ->
  wpAny (model X.prog X.w) X.A (f v u) (EP X a b Q) X.xe s
def SO(X:Cx)(f:Value->Sem Value)(r:V->Hp->VK->Prop):Prop :=
 ∀ (a:yA) (s:π) (b:St) (H:Hp) (x:V) (v:Value) (Q:VK),Inv X a b H s->RelV x v->r x H Q ->
  wpAny (model X.prog X.w) X.A (f v) (EP X a b Q) X.xe s
def EG(X:Cx)(f:Value)(r:cF->Hp->VK->Prop):Prop :=
 ∀ (a:yA) (s:π) (b:St) (H:Hp) (xs:cF) (us:uD) (Q:VK),Inv X a b H s->Vals xs us->r xs H Q ->
  wpAny (model X.prog X.w) X.A (call f us) (EP X a b Q) X.xe s
def Uc(X:Cx)(r:V->Hp->(Bool->Hp->Prop)->Prop):Prop :=
 ∀ (a:yA) (s:π) (b:St) (H:Hp) (x:V) (v:Value) (Q:uC),Inv X a b H s->RelV x v->r x H Q ->
  wpAny (model X.prog X.w) X.A (truthy v) (TP X a b Q) X.xe s
def AD(r:R2)(b c:TE):TE:=λa H Q=>b a H λx d=>c a d λy e=>r x y e Q
def NF(r:V->Hp->VK->Prop)(a:TE):TE:=λb H Q=>a b H λx c=>r x c Q
def rI(C:Int->Int->Prop)(g:Int->Int->V):R2:=λx y H Q=>∃ i j,x=.int i/\y=.int j/\C i j/\Q (g i j) H
def J0(g:Int->Int->V):R2:=λx y H Q=>∃ i j,x=.int i/\y=.int j/\Q (g i j) H
def rU(g:Int->V):V->Hp->VK->Prop:=λx H Q=>∃ i,x=.int i/\Q (g i) H
section
variable{X:Cx}{a b c:Expr}{ta tb tc:TE}{pos:Pos}
def WS(n:PE X a ta)(o:PE X b tb){R:V->V->Hp->Prop}(I:Inv X p e H s)
  (h:ta e H λx l=>tb e l λy d=>R x y d) {Q:yB} {f:uA}
  (hf:∀ v u j x y d,Inv X p e d j->RelV x v->RelV y u->R x y d->wpAny (model X.prog X.w) X.A (f v u) Q X.xe j) :
  wpAny (model X.prog X.w) X.A (eval a X.env) (λv g=>wpAny (model X.prog X.w) X.A (eval b X.env) (λu i=>wpAny (model X.prog X.w) X.A (f v u) Q X.xe i) X.xe g) X.xe s:=AO (n _ s e H _ I h) λv q ⟨x,l,r,w,q1⟩=>(AO (o _ q e l _ r q1) λu j ⟨y,d,z,A,q2⟩=>(hf v u j x y d z w A q2))
def O2{r:R2}(d:CC X (jd op) r)(e:PE X a ta)(g:PE X b tb):PE X (.BinOp a op b pos) (AD r ta tb):=λw s i H Q I h=>wpAny_BinOp<|WS e g I h λv u j x y l n o p q=>d _ j i l x y v u Q n o p q
def Ud(e:SO X (unaryOp op) r)(g:PE X a ta):PE X (.UnaryOp op a pos) (NF r ta):=λo s d H Q I h=>UnaryOp_ (AO (g _ s d H _ I h) (by intro v i [x,j,l,n,q1];exact e _ i d j x v Q l n q1))
def WT{f:uA}{C:Int->Int->Prop}{g:Int->Int->Int}
  (rule:∀ (i j:Int) (t u:Tok) (s:π) (Q:yB) (E:yB),C i j->Q (.int (g i j) s.toks) { s with toks:=s.toks+1 }->wpAny (model X.prog X.w) X.A (f (.int i t) (.int j u)) Q E s) :
  CC X f (rI C λi j=>.int<|g i j):=by
 intro n s o H x y v u Q I d e h;revert h;apply u2;intro i j [rfl,rfl,l,q];let[t,rfl]:=d;let[t',rfl]:=e;exact rule i j t t' s _ _ l<|x2 (.int _) H {I.tok _,⟨_,rfl⟩,q}
def nD{f:uA}{g:Int->Int->Int}
  (rule:∀ (i j:Int) (t u:Tok) (s:π) (Q:yB) (E:yB),Q (.int (g i j) s.toks) { s with toks:=s.toks+1 }->wpAny (model X.prog X.w) X.A (f (.int i t) (.int j u)) Q E s) :
  CC X f (J0 λi j=>.int<|g i j):=by
 intro l s n H x y v u Q I d e h;revert h;apply u2;intro i j [rfl,rfl,q];let[t,rfl]:=d;let[t',rfl]:=e;exact rule i j t t' s _ _<|x2 (.int _) H {I.tok _,⟨_,rfl⟩,q}
def WU{f:uA}{g:Int->vD}
  (rule:∀ (i j:Int) (t u:Tok) (s:π) (Q:yB) (E:yB),Q (.bool<|g i j) s->wpAny (model X.prog X.w) X.A (f (.int i t) (.int j u)) Q E s) :
  CC X f (J0 λi j=>.bl<|g i j):=by
 intro l s n H x y v u Q I d e h;revert h;apply u2;intro i j [rfl,rfl,q];let[t,rfl]:=d;let[t',rfl]:=e;exact rule i j t t' s _ _<|x2 (.bl _) H ⟨I,rfl,q⟩
def nF(i j:Int):Prop:=0<j/\j<1073741824
def Ug(i j:Int):Prop:=0<=j/\j<=1000000/\i.natAbs<2^64
def CMul(i j:Int):Prop:=(-(2^64)<i/\i<2^64)\/(-(2^64)<j/\j<2^64)
def CMul.ok(h:CMul i j):IntMulOk i j:=by
 let[h1,h2]||[h1,h2]:=h
 exact .of_left<|intBits_le_64 h1 h2;exact .of_right<|intBits_le_64 h1 h2
def Uh:CC X (jd .Add) (J0 λi j=>.int<|i+j):=nD λz z z z z z z q=>add_int q
def Uj:CC X (jd .Sub) (J0 λi j=>.int<|i-j):=nD λz z z z z z z q=>sub_int q
def Uk:CC X (jd .Mult) (rI CMul λi j=>.int<|i*j):=WT λz z z z z z z d q=>mul_int q d.ok
def Ul:CC X (jd .FloorDiv) (rI nF λi j=>.int<|i/j):=WT λi j z z z z z d q=>by
 have h1:=d.1
 have h2:=d.2;exact floordiv_int (by omega) (by rw[Int.fdiv_eq_ediv_of_nonneg i (Du ‹_›)];exact q) (.inl (PyProof.noPylong_small (by omega)))
def Um:CC X (jd .Mod) (rI (λ_ j=>0<j) λi j=>.int<|i%j):=WT λi j z z z z z d q=>mod_int' (by lia) (by rw[Int.fmod_eq_emod_of_nonneg i (Du ‹_›)];exact q)
def Up{f:Value->Sem Value}{g:Int->Int}
  (rule:∀ (i:Int) (t:Tok) (s:π) (Q:yB) (E:yB),Q (.int (g i) s.toks) { s with toks:=s.toks+1 }->wpAny (model X.prog X.w) X.A (f<|.int i t) Q E s) :
  SO X f (rU λi=>.int<|g i):=by
 intro e s j H x v Q I d [i,rfl,q];let[t,rfl]:=d;exact rule i t s _ _<|x2 (.int _) H {I.tok _,⟨_,rfl⟩,q}
def Uq:SO X (unaryOp .USub) (rU λi=>.int (-i)):=Up λz z z z z q=>neg_int q
end
section
variable{X:Cx}{a b c:Expr}{ta tb tc:TE}{pos:Pos}
def GH(I:Inv X d g H s)(q:Q (.bl k) H)(e:k=i):EP X d g Q (.bool i) s:=by
 subst e;exact x2 (.bl k) H ⟨I,rfl,q⟩
def Uv:CC X (dz .Lt) (J0 λi j=>.bl<|decide<|i<j):=WU λz z z z z z z q=>lt_int q
def Uw:CC X (dz .LtE) (J0 λi j=>.bl<|decide<|i<=j):=WU λz z z z z z z q=>le_int q
def Ux:CC X (dz .Gt) (J0 λi j=>.bl<|decide<|j<i):=WU λz z z z z z z q=>gt_int q
def Uy:CC X (dz .Is) (λx y H Q=>y=.non/\Q (.bl<|decide<|x=.non) H):=by
 intro g s i H x y v u Q I d e [rfl,q];subst e;refine is_none_gen<|GH I q ?_;cases x<;>first
  |(rfl)
  |(let[t,rfl]:=d;rfl)
def Uz:CC X (dz .IsNot) (λx y H Q=>y=.non/\Q (.bl<|!decide (x=.non)) H):=by
 intro g s i H x y v u Q I d e [rfl,q];subst e;refine isnot_none_gen<|GH I q ?_;cases x<;>first
  |(rfl)
  |(let[t,rfl]:=d;rfl)
def J2(b:Expr)(h:op≠.In:=by decide)(h2:op≠.NotIn:=by decide):nz op b=false:=by
 have d:(op==CmpOp.In)=false:=by cases op<;>first|rfl|exact absurd rfl h
 have e:(op==Mo)=false:=by cases op<;>first|rfl|exact absurd rfl h2
 cases b<;>simp[nz,d,e]
def nH{r:R2}(d:CC X (dz op) r)(e:PE X a ta)(g:PE X b tb)(i:nz op b=false):PE X (.Compare a [op] [b] pos) (AD r ta tb):=λz s j H Q I h=>wpAny_Compare1 (WS e g I h λv u l x y n o p w q=>d _ l j n x y v u Q o p w q) i
def MC(t:TE):TT:=λd H Q=>t d H λx e=>∃ k,x=.bl k/\Q k e
def J3(i:CC X (dz op) r)(j:PE X a ta)(l:PE X b tb)(n:nz op b=false):PT X (.Compare a [op] [b] pos) (MC<|AD r ta tb):=by
 intro N s d H Q I h;refine zj (AO (j _ s d H _ I h) λv o ⟨x,p,q,w,q1⟩=>AO (l _ o d p _ q q1) λu A ⟨y,B,D,E,q2⟩ =>
  AO (i _ A d B x y v u _ D w E q2) λc O g=>?_) n
 let[z,J,L,M,k,e,q3]:=g;subst e;subst M;exact iq ⟨J,L,q3⟩
def MD(r g:R2)(ta tb tc:TE):TE:=λd H Q=>ta d H λx i=>tb d i λy j=>r x y j λz e=>∃ k,z=.bl k /\
 (if k=true then tc d e λl n=>g y l n Q else Q (.bl false) e)
def Vb(q:CC X (dz op) r)(j:CC X (dz g) w)(A:PE X a ta)(B:PE X b tb)(D:PE X c tc)
  (E:lastMarks [op,g] [b,c]=false:=by with_unfolding_all rfl):PE X (.Compare a [op,g] [b,c] pos) (MD r w ta tb tc):=by
 intro AA s i H Q I h;refine Compare_chain (AO (A _ s i H _ I h) λv J ⟨x,L,M,N,q1⟩=>chain_link (AO (B _ J i L _ M q1) λu O ⟨y,T,U,n,q2⟩ =>
  AO (q _ O i T x y v u _ U N n q2) λd Y l=>?_)) E
 let[z,o,p,r3,k,e,q3]:=l;subst e;subst r3;refine iq ?_;cases k with
 |false=>exact ite_ff<|x2 (.bl _) o ⟨p,rfl,q3⟩
 |true=>exact ite_tt (chain_last (AO (D _ Y i o _ p q3) (by intro w' s4 [z',H4,I4,r4,q4];exact j _ s4 i H4 y z' u w' Q I4 n r4 q4)))
def nJ(q:CC X (dz op) r)(l:CC X (dz i) w)(A:PE X a ta)(B:PE X b tb)(D:PE X c tc)
  (E:lastMarks [op,i] [b,c]=false:=by with_unfolding_all rfl):PT X (.Compare a [op,i] [b,c] pos) (MC<|MD r w ta tb tc):=by
 intro AA s j H Q I h;refine isTrue_chain (AO (A _ s j H _ I h) λv J ⟨x,L,M,N,q1⟩=>test_link (AO (B _ J j L _ M q1) λu O ⟨y,T,U,n,q2⟩ =>
  AO (q _ O j T x y v u _ U N n q2) λd Y g=>?_)) E
 let[z,o,p,r3,k,e,q3]:=g;subst e;subst r3;refine iq ?_;cases k with
 |false =>
  let[k',e',q']:=q3;cases e';exact ite_ff ⟨o,p,q'⟩
 |true =>
  refine ite_tt<|test_last<|AO (D _ Y j o _ p q3) λw' s4 ⟨z',H4,I4,r4,q4⟩=>AO (l _ s4 j H4 y z' u w' _ I4 n r4 q4) λd' s5 g=>?_;let[z2,H5,I5,r5,k2,rfl,q5]:=g;subst r5;exact iq ⟨H5,I5,q5⟩
def KZ(K:W.Frag)(x:V)(H:Hp)(k:Bool):Prop :=
 match x with
 |.non=>k=false
 |.bl b=>k=b
 |.int i=>k=(i != 0)
 |.str y=>y.length<=sizeLine/\k=((y.length:Int) != 0)
 |.byt y=>y.size<=sizeLine/\k=((y.size:Int) != 0)
 |.ref p=>(∃ xs,SqL K H p xs/\k= !xs.isEmpty)\/(∃ xs,SqT K H p xs/\k= !xs.isEmpty)\/∃ kvs,H p=some (.dK kvs)/\k= !kvs.isEmpty
 |_=>False
def Vc{d :Type}{kvs:List (d × V)}{vs:List (d × Value)}(r:KV kvs vs):(!vs.isEmpty)= !kvs.isEmpty:=by
 cases r<;>rfl
def nK{xs:cF}{d:uD}(r:Vals xs d):(!d.toArray.isEmpty)= !xs.isEmpty:=by
 cases r<;>simp
def O3:(sizeLine:Nat)<2^63:=by decide
def Vd:Uc X (λx H Q=>∃ k,KZ X.K x H k/\Q k H):=by
 have hs:=d_;intro z s A H x v Q I g [k,e,q];cases x with
 |non =>
  subst e;subst g;exact truthy_none ⟨H,I,q⟩
 |bl b =>
  subst g;subst e;exact iq ⟨H,I,q⟩
 |int i =>
  let[t,rfl]:=g;subst e;exact PySem.P.truthy_int ⟨H,I,q⟩
 |str y =>
  let[t,rfl]:=g;obtain⟨n,d⟩:y.length<=sizeLine/\k=((y.length:Int) != 0):=e;subst d;exact PySem.P.truthy_str (by omega) {H,I.tok _,q}
 |byt y =>
  let[t,rfl]:=g;obtain⟨n,d⟩:y.size<=sizeLine/\k=((y.size:Int) != 0):=e;subst d;exact W.truthy_bytes (oA n rfl) {H,I.tok _,q}
 |ref p =>
  cases g
  have d:(∃ xs,SqL X.K H p xs/\k= !xs.isEmpty)\/(∃ xs,SqT X.K H p xs/\k= !xs.isEmpty)\/∃ kvs,H p=some (.dK kvs)/\k= !kvs.isEmpty:=e;let[xs,j,d]||[xs,j,d]||[kvs,j,d]:=d
  ·subst d;let[u,r,l,hz]:=I.list j
   have o:=r.length;exact wpAny_truthy_list l.isList (by simp only[aw];omega) {H,I.tok _,by rw[nK r];exact q}
  ·subst d;let[u,r,l,hz]:=I.tuple j
   have o:=r.length;exact truthy_tuple l (by simp only[aw];omega) {H,I.tok _,by rw[nK r];exact q}
  ·subst d;obtain⟨hz,w,vs,r,m⟩:kvs.length<=sizeLine/\(p==f_)=false/\∃ vs,KV kvs vs/\s.heap.DictOf (DL X.prog X.w) p vs:=I.hok p _ j
   have o:kvs.length=vs.length:=Paired.length r;exact wpAny_truthy_dict w m (by omega) {H,I.tok _,by rw[Vc r];exact q}
 |_=>exact(show False from e).elim
def Vg(g:PE X a ta)(he:∀ whole,Lu a X.env whole=(do let v ← whole;yp a.pos;ue [v] (truthy v))) :
  PT X a (λd H Q=>ta d H λx e=>∃ k,KZ X.K x e k/\Q k e):=λo s d H Q I h=>isTrue_plain (AO (g _ s d H _ I h) (by intro v i [x,j,l,n,q1];exact Vd _ i d j x v Q l n q1)) (he _)
def Vh:CC X (jd .Add) (λx y H Q=>∃ i j,x=.str i/\y=.str j/\i.length+j.length<=sizeLine/\Q (.str<|i++j) H):=by
 intro g s l H x y v u Q I d e h;revert h;apply u2;intro i j [rfl,rfl,hz,q];let[t,rfl]:=d;let[t',rfl]:=e;exact add_str (λt' tk=>x2 (.str _) H {I.tok _,⟨_,rfl⟩,q}) hz
def GI(r:Vals [x] us):∃ u,us=[u]/\RelV x u:=by
 cases r with
 |cons d e=>cases e;exact⟨_,rfl,d⟩
def Vj(r:Vals [x,y] us):∃ u d,us=[u,d]/\RelV x u/\RelV y d:=by
 cases r with
 |cons e g =>
  cases g with
  |cons i j=>cases j;exact y2 ⟨rfl,e,i⟩
def Vk:EG X (.builtin "ord") (λxs H Q=>∃ x,xs=[.str x]/\x.length=1/\Q (.int (x.cps.getD 0 0:Nat)) H):=by
 intro d s e H xs us Q I r [x,rfl,hz,q];let[u,rfl,t,rfl]:=GI r;exact ord_of_one hz<|x2 (.int _) H {I.tok _,⟨_,rfl⟩,q}
def SQ(K:W.Frag)(x:V)(H:Hp)(n:Nat):Prop :=
 match x with
 |.str y=>y.length<=sizeLine/\n=y.length
 |.byt y=>y.size<=sizeLine/\n=y.size
 |.ref p=>(∃ xs,SqL K H p xs/\n=xs.length)\/∃ xs,SqT K H p xs/\n=xs.length
 |_=>False
def Vl:EG X (.builtin "len") (λxs H Q=>∃ x n,xs=[x]/\SQ X.K x H n/\Q (.int n) H):=by
 intro z s A H xs us Q I r h;revert h;apply u2;intro x n [rfl,e,q];let[u,rfl,g]:=GI r
 have hs:=d_;cases x with
 |str y =>
  let[t,rfl]:=g;obtain⟨v,rfl⟩:y.length<=sizeLine/\n=y.length:=e;exact len_str (by omega) (x2 (.int _) H {I.tok _,⟨_,rfl⟩,q})
 |byt y =>
  let[t,rfl]:=g;obtain⟨v,rfl⟩:y.size<=sizeLine/\n=y.size:=e;exact W.len_bytes (oA v rfl) (x2 (.int _) H {I.tok _,⟨_,rfl⟩,q})
 |ref p =>
  subst g
  have d:=e;let[xs,i,d]||[xs,i,d]:=d
  subst d;let[w,j,l,hz]:=I.list i
  have o:=j.length;exact Calls.call_len_list l.isList (by simp only[aw];omega) (x2 (.int _) H {I.tok _,{_,by simp only[aw];rw[o]},q});subst d;let[w,j,l,hz]:=I.tuple i
  have o:=j.length;exact len_tuple l (by simp only[aw];omega) (x2 (.int _) H {I.tok _,{_,by simp only[aw];rw[o]},q})
 |_=>exact(e).elim
end
structure ObjM(h:Heap)(x dx C:Addr)(mA:uB):Prop where
 obj:h.get? x=some (W.instObj C dx)
 ns:h.Ns1 dx mA
 ne:dx≠x
set_option tactic.hygienic true in
def Vm{h:Heap}{c:uB}(n:h.Ns1 g c):∃ d,h.get? g=some d/\∀ name,W.lookIn name d=some (c name):=by
 revert n;apply u3;intro o i s [j,hd,l,_,p];refine{o,j,λname=>?_}
 have e:=p name;unfold nsFind findBy at e;rw[<-Array.find?_toList]at e;unfold W.lookIn;rw[hd];dsimp only;split
 ·rename_i y q;rw[q]at e;exact congrArg some e
 ·rename_i q;rw[q]at e
  have a:i.toList.any (·.refKey)=false:=by
   rw[xj];refine λy r=>u2 ?_<|l y<|zr.mp r;rintro z t b;simp[DictEntry.refKey,b]
  rw[if_neg (by rw[a];exact ax)];exact congrArg some e
def ObjM.look(I:ObjM h x b C c):∃ a,W.InstAt h x (W.instObj C b) C (some a)/\∀ name,W.lookIn name a=some (c name) :=
 let ⟨a,d,e⟩:=Vm I.ns
 {a,⟨I.obj,rfl,rfl,d⟩,e}
section
variable{prog:bw}{w:World}{A:dr}{E:yB}{s:π}{K:W.Frag}{x dx C f:Addr}{mA:uB}{name:Str}{v:Value}
def Vp(X:K.In s.heap)(I:ObjM s.heap x dx C mA)(b:W.plainGet K C name=true)(c:W.hasDictIn K C=true)
  (d:W.findIn K (.ref C) name=some none) (e:mA name=some v) (a:W.handedIn v=true) (h:Q v { s with toks:=s.toks+1 }) :
  wpAny (model prog w) A (getAttr (.ref x) name expr) Q E s:=by
 let[i,J,g]:=I.look;exact W.get_value X J (W.plainGet_of b).1 (W.findObj_own c d rfl (by rw[g,e])) a h
def Vq(X:K.In s.heap)(I:ObjM s.heap x dx C mA)(a:W.plainGet K C name=true)
  (hf:W.findIn K (.ref C) name=some (some<|.ref f)) (b:W.isFn K (.ref f)=true) (c:mA name=none) (h:Q (.ref f,[.ref x]) s) :
  wpAny (model prog w) A (uw (.ref x) name g) Q E s:=by
 let[d,J,e]:=I.look;exact W.method_fn X J (W.plainGet_of a).1 (W.plainGet_of a).2 hf (beq_iff_eq.mp b) (by show(W.lookIn _ d).map _=some _;rw[e,c];rfl) h
def Vv(X:K.In s.heap)(I:ObjM s.heap x dx C mA)
  (hs:W.findIn K (.ref C) "__setattr__"=some (some<|.builtin "object.__setattr__")) (j:W.plainOver K C=true) (l:W.takerIn K C name=some none) (n:W.hasDictIn K C=true)
  (o:PySem.Within mA ns) (hsz:ns.length<=sizeLine)
  (h:∀ h',ObjM h' x dx C (λy=>if y=name then some v else mA y)->gk dx s.heap h'->Q () { s with heap:=h',toks:=s.toks+2 }) :
  wpAny (model prog w) A (setAttr (.ref x) name v) Q E s:=by
 let[u,J,z]:=I.look;let[B,p,d]:=W.any_some n;refine W.set_plain X J hs<|W.osa_open   X J j l λb=>(δ<|ξ<|δ<|δ<|wpAny_loadPart I.obj<|δ<|W.Looks.here  (W.looks_clsIn X p) ?_);rw[d];refine ξ  (δ<|ξ<|δ<|wpAny_nsSet1  I.ns λh' a c=>(u3 ?_<|a.count<|PySem.Within.cons _ v o));intro oD q r [e,g,i];exact δ (wpAny_lookBehind e (by rw[g];exact pastItsLine_dict<|ψ i<|xk hsz) (ξ<|h _ {(c.2 _<|fi I.ne).trans I.obj,a,I.ne} c))
def Vx(X:K.In s.heap)(b:W.makesIn K C=true)
  (c:W.findIn K (.ref C) "__init__"=some (some<|.ref f)) (hf:W.typeIn K (.ref f)=some (.type "function"))
  (h:vd (model prog w) (A.under<|.builtin "type.__call__" {.ref C::vs,a}) (.call (.ref f) {.ref (s.heap.objs.size+1)::vs,a}) (W.InitBack (s.heap.objs.size+1) R)
   { s with heap:=(s.heap.push W.emptyDict).push (W.instObj C s.heap.objs.size) }) :
  vd (model prog w) A (.call (.ref C) ⟨vs,a⟩) R s:=W.make_core (W.makes_of X b) (W.looks_findIn X c) (λself=>W.bind_fn X _ hf) (.inl rfl) h
end
def BS(f:Str)(v:V):xB->xB
 | []=>[(f,v)]
 |(g,x)::r=>if g=f then(g,v)::r else(g,x)::BS f v r
theorem nQ(f g:Str)(v:V):∀ fs:xB,(BS f v fs).lookup g=if g=f then some v else fs.lookup g
 | []=>by
  show gz g [(f,v)]=_;by_cases h:g=f;simp only[gz,(beq_iff_eq.mpr h),if_pos h];simp only[gz,(beq_eq_false_iff_ne.mpr h),if_neg h]
 |(k,x)::r=>by
  rw[show BS f v _=(if k=f then(k,v)::r else(k,x)::BS f v r)from rfl];by_cases a:k=f;rw[if_pos a];by_cases h:g=k;simp only[gz,(beq_iff_eq.mpr h),if_pos<|h.trans a];simp only[gz,(beq_eq_false_iff_ne.mpr h),if_neg (λe:g=f=>h<|e.trans a.symm)];rw[if_neg a];by_cases h:g=k;simp only[gz,(beq_iff_eq.mpr h),if_neg (λe:g=f=>a<|h.symm.trans e)];simp only[gz,(beq_eq_false_iff_ne.mpr h)];exact(nQ f g v r)
theorem WV(f:Str)(v:V):∀ fs:xB,f∈(BS f v fs).map (·.1)/\∀ g,g∈fs.map (·.1)->g∈(BS f v fs).map (·.1)
 | []=>{by simp[BS],λg h=>by simp at h}
 |(k,x)::r=>by
  let[b,c]:=WV f v r;rw[show BS f v _=(if k=f then(k,v)::r else(k,x)::BS f v r)from rfl];by_cases a:k=f;subst a;exact{by simp,λg h=>by simpa using h};rw[if_neg a];refine{(τ _ b),λg h=>?_};let e||e:=aj.mp h
  exact aj.mpr<|.inl e;exact τ _<|c g e
theorem O4(f:Str)(v:V):∀ fs:xB,(BS f v fs).length<=fs.length+1
 | []=>by simp[BS]
 |(k,x)::r=>by
  rw[show BS f v _=(if k=f then(k,v)::r else(k,x)::BS f v r)from rfl];by_cases a:k=f;rw[if_pos a];exact jv _;rw[if_neg a];exact xk<|O4 f v r
def RelO.some_of(r:RelO (some v) o):∃ u,o=some u/\RelV v u:=by
 cases o with
 |none=>exact(r).elim
 |some u=>exact⟨u,rfl,r⟩
def RelO.none_of(r:RelO none o):o=none:=by
 cases o with
 |none=>rfl
 |some u=>exact(r).elim
def Vy(r:RelV v u):W.handedIn u=true:=by
 cases v with
 |non=>cases (r);rfl
 |bl b=>cases (r);rfl
 |int i=>let[t,rfl]:=(r);rfl
 |str x=>let[t,rfl]:=(r);rfl
 |byt b=>let[t,rfl]:=(r);rfl
 |flt b=>let[t,rfl]:=(r);rfl
 |ref a=>cases (r);rfl
 |ty n=>cases (r);rfl
section
variable{P:bw}{w:World}{H H':Hp}{h h':Heap}{a C dx:Addr}{fs fs':xB}
def WW(hok:HOk P w H h)(e:H a=some (.ins C dx fs)):∃ b,ObjM h a dx C b/\(∀ f,RelO (fs.lookup f) (b f))/\PySem.Within b (fs.map (·.1))/\fs.length<=1000/\H dx=some (.own a):=by
 let[d,z,ne,ob,b,n,r,q]:=(hok a _ e)
 exact{b,⟨ob,n,ne⟩,r,q,z,d}
end
structure Cls(K:W.Frag)(C:Addr):Prop where
 pg:W.plainGet K C ux=true
 hd:W.hasDictIn K C=true
 po:W.plainOver K C=true
 sa:W.findIn K (.ref C) "__setattr__"=some (some<|.builtin "object.__setattr__")
def Cls.get{K:W.Frag}{C:Addr}(c:Cls K C)(f:Str):W.plainGet K C f=true:=c.pg
def NoAttr(K:W.Frag)(C:Addr)(f:Str):Prop:=W.findIn K (.ref C) f=some none
def NoAttr.taker{K:W.Frag}{C:Addr}{f:Str}(n:NoAttr K C f):W.takerIn K C f=some none:=by
 unfold W.takerIn;rw[n]
 rfl
structure Con(K:W.Frag)(C:Addr)(f:Str)(v:V)(u:Value):Prop where
 at_:W.findIn K (.ref C) f=some (some u)
 rel:RelV v u
 get:W.specialIn K u "__get__"=some none
 cp:W.copiedNames.contains f=false
structure SR(K:W.Frag)(C:Addr)(m:Str)(f:Addr):Prop where
 at_:W.findIn K (.ref C) m=some (some<|.ref f)
 fn:W.isFn K (.ref f)=true
 kp:W.keepIn K (.ref f)=true
section
variable{X:Cx}{AA:yA}{σ:St}{H:Hp}{s:π}{a C dx:Addr}{fs:xB}{f:Str}{v:V}{A:dr}{E:yB}
def nR(I:Inv X AA σ H s)(e:H a=some (.ins C dx fs))(c:Cls X.K C)(n:NoAttr X.K C f)(l:fs.lookup f=some v)
  (h:∀ u d,Inv X AA σ H d->RelV v u->Q u d):wpAny (model X.prog X.w) A (getAttr (.ref a) f b) Q E s:=by
 let[j,O,r,z,z,z]:=WW I.hok e;let[u,i,g]:=RelO.some_of   (by rw[<-l];exact r f);exact Vp I.kIn O (c.get f) c.hd n i (Vy g) (h u _ (I.tok _) g)
def nS(I:Inv X AA σ H s)(e:H a=some (.ins C dx fs))(c:Cls X.K C)(k:SR X.K C m g)(l:fs.lookup m=none)
  (h:Q (.ref g,[.ref a]) s):wpAny (model X.prog X.w) A (uw (.ref a) m b) Q E s:=by
 let[d,O,r,z,z,z]:=WW I.hok e;exact Vq I.kIn O (c.get m) k.at_ k.fn (RelO.none_of (by rw[<-l];exact r m)) h
def nT(I:Inv X AA σ H s)(e:H a=some (.ins C dx fs))(c:Cls X.K C)(n:NoAttr X.K C f)(i:fs.length<1000)(w:RelV y u)
  (h:∀ j,Inv X AA σ (upd H a<|.ins C dx<|BS f y fs) j->Q () j):wpAny (model X.prog X.w) A (setAttr (.ref a) f u) Q E s:=by
 let[B,O,r,l,x,p]:=WW I.hok e;refine Vv I.kIn O c.sa c.po n.taker c.hd l (by rw[ε];exact oB i rfl) λh' d sb=>h _ (I.write   (by rw[e];exact tz) (.inr p) (λb q D z=>(sb.2 b D).trans z) (let ⟨o,_,_,J,_⟩:=d.ns;⟨o,J⟩) {by rw[AI O.ne];exact p,?_,O.ne,d.obj,_,d.ns,λg=>?_,λg L=>?_});exact ψ (O4 f y fs) i;rw[nQ];by_cases q:g=f;rw[if_pos q,if_pos q];exact w;rw[if_neg q,if_neg q];exact r g;by_cases q:g=f;rw[q];exact(WV f y fs).1;refine(WV f y fs).2 g (l g λz=>L ?_)
 show(if g=f then some u else B g)=none;rw[if_neg q];exact z
def Inv.made(I:Inv X AA σ H s):Inv X AA σ (upd (upd H s.heap.objs.size<|.own<|s.heap.objs.size+1) (s.heap.objs.size+1) (.ins C s.heap.objs.size []))
  { s with heap:=(s.heap.push W.emptyDict).push (W.instObj C s.heap.objs.size) }:=by
 have c:(s.heap.push _).get? _=some W.emptyDict:=ae _ rfl
 have d:((s.heap.push W.emptyDict).push (W.instObj C s.heap.objs.size)).get? (s.heap.objs.size+1)=some (W.instObj C s.heap.objs.size):=by
  have:=ae (s.heap.push W.emptyDict) (o:=W.instObj C s.heap.objs.size) rfl
  rwa [zt]at this
 have ne:s.heap.objs.size≠s.heap.objs.size+1:=a_<|fe _;refine(I.laid  (o:=.own _)  (t':=s.toks) (λb u q=>ν _ q) (ο _) ⟨_,c⟩).laid    (λb u q=>ν _ q) (ba<|zt _ _) ({by rw[AI ne,AE],bh _,ne,d,λz=>none,(Heap.Ns1.of_empty (x3 _ _ _ {c,rfl,(λe he=>absurd he (by simp)),λz=>rfl})).at λo q=>ν _ q,λz=>tz,λy g=>absurd rfl g})
def Vz(c:si e f env (eval e env)=eval e env)
  (h:wpAny (model prog w) A (eval e env) (λo b=>wpAny (model prog w) A (getAttr o f true) Q E b) E s):wpAny (model prog w) A (eval (.Attribute e f pos) env) Q E s :=
 Attribute_any_ h (by rw[arm_eval_Attribute,c])
end
def O5(K:W.Frag)(c:TE)(f:Str):TE:=λd H Q=>c d H λx b=>∃ a C e fs v,x=.ref a/\b a=some (.ins C e fs)/\Cls K C/\NoAttr K C f/\fs.lookup f=some v/\Q v b
def O6(K:W.Frag)(e g:TE)(f:Str):TS:=λD b H=>g b H λy i=>e b i λx c=>∃ a C d fs,x=.ref a/\c a=some (.ins C d fs)/\Cls K C/\NoAttr K C f/\fs.length<1000 /\
 D.nx b (upd c a<|.ins C d<|BS f y fs)
def WX(X:Cx)(op:Operator)(c:V->V->Hp->VK->Prop):Prop :=
 ∀ (a:yA) (s:π) (b:St) (H:Hp) (x y:V) (u v:Value) (Q:VK),Inv X a b H s->RelV x u->RelV y v->c x y H Q->wpAny (model X.prog X.w) X.A (Le op u v) (EP X a b Q) X.xe s
def SS(K:W.Frag)(i j:TE)(l:V->V->Hp->VK->Prop)(f:Str):TS:=λD d H=>i d H λx e=>∃ a C n fs v,x=.ref a/\e a=some (.ins C n fs)/\Cls K C/\NoAttr K C f/\fs.lookup f=some v /\
 j d e λy o=>l v y o λz g=>∃ c b,g a=some (.ins C c b)/\b.length<1000/\D.nx d (upd g a<|.ins C c<|BS f z b)
section
variable{X:Cx}{o e value:Expr}{f:Str}{pos pos' tpos:Pos}{ta tv:TE}
def Wb(he:PE X e ta)(d:si e f X.env (eval e X.env)=eval e X.env):PE X (.Attribute e f pos) (O5 X.K ta f):=by
 refine λz s g H Q I h=>Vz d<|AO (he _ s g H _ I h) λu A b=>?_;let[x,i,j,p,a,C,B,fs,v,rfl,r,c,n,l,q]:=b;obtain rfl:u=fh a:=p;exact nR j r c n l λD E w y=>x2 v i ⟨w,y,q⟩
def Wc(g:PE X o ta)(i:PE X value tv)(hs:we value (some<|.Attribute o f pos') pos.line X.env=pure false):PS X (.Assign [.Attribute o f pos'] value pos) (O6 X.K ta tv f):=by
 refine λJ s b H D I h=>plainObj_wpAny_Assign_Attribute (AO (i _ s b H _ I h) λu j ⟨y,p,r,v,q⟩=>AO (g _ j b p _ r q) λw L d=>?_) hs;let[x,M,z,A,a,C,N,fs,rfl,B,c,n,l,q2]:=d;obtain rfl:w=fh a:=A;exact nT z B c n l v λO E=>x2 b _ ⟨E,q2⟩
def Wd(j:PE X o ta)(p:PE X value tv)(d:WX X op r):PS X (.AugAssign (.Attribute o f tpos) op value pos) (SS X.K ta tv r f):=by
 refine λAA s b H D I h=>wpAny_AugAssign_AttributeAny<|AO (j _ s b H _ I h) λw s1 g=>?_;let[x,A,B,E,a,C,dx,fs,v,rfl,J,c,n,l,q]:=g;obtain rfl:w=fh a:=E;exact nR B J c n l λu L M N=>AO (p _ L b A _ M q) (by intro w3 O [y,Q,T,U,q3];exact AO (d _ O b Q v y u w3 _ T N U q3) (by intro w4 s4 [z,H3,Y,rz,dx',fs',i,l',q4];exact(nT Y i c n l' rz λs5 I5=>x2 b _ ⟨I5,q4⟩)))
def O7:V->V->Hp->VK->Prop:=λx y H Q=>∃ i j,x=.int i/\y=.int j/\Q (.int<|i+j) H
def nU:WX X .Add O7:=by
 intro c s d H x y u v Q I a b [i,j,rfl,rfl,q];let[t,rfl]:=(a)
 let[t',rfl]:=(b)
 exact Iz<|x2 (.int _) H {I.tok _,⟨_,rfl⟩,q}
end
section
variable{X:Cx}{AA:yA}{σ:St}{H:Hp}{s:π}{A:dr}{E:yB}{Q:yB}{c:Value}{b:Bool}
inductive ID(K:W.Frag)(H:Hp):V->Value->Prop where
 |non:ID K H .non (.type "NoneType")
 |bl (x:Bool):ID K H (.bl x) (.type "bool")
 |int (i:Int):ID K H (.int i) (.type "int")
 |str (x:Str):ID K H (.str x) (.type "str")
 |flt (x:UInt64):ID K H (.flt x) (.type "float")
 |lst {a:Addr} {xs:cF} (e:H a=some (.lst xs)):ID K H (.ref a) (.type "list")
 |frz {a:Addr} {o:Obj} {xs:cF} (e:H a=some (.frz o<|.lst xs)):ID K H (.ref a) (.type "list")
 |tup {a:Addr} {xs:cF} (e:H a=some (.tup xs)):ID K H (.ref a) (.type "tuple")
 |dK {a:Addr} {kvs:vC} (e:H a=some (.dK kvs)):ID K H (.ref a) (.type "dict")
 |dT {a:Addr} {kvs:vA} (e:H a=some (.dT kvs)):ID K H (.ref a) (.type "dict")
 |ins {a C dx:Addr} {fs:xB} (e:H a=some (.ins C dx fs)) (cl:Cls K C) (ha:W.findIn K (.ref C) "__class__"=some (some<|.builtin "object.__class__"))
   (hn:W.specialIn K (.builtin "object.__class__") "__get__"=some (some<|.builtin "getset_descriptor.__get__")) (htk:W.takesIn K (.builtin "object.__class__")=some true)
   (hm:W.mroIn K C (.type "object")=some true):ID K H (.ref a) (.ref C)
end
structure Room(k:Nat)(A:dr):Prop where
 hd:A.handled=none
 dp:A.depth+3*k+5<recursionLimit
 un:A.units+16*k+200<cLine
def Room.mono(r:Room k A)(h:j<=k):Room j A:={r.hd,by have:=r.dp;lia,by have:=r.un;lia}
def Room.deeper(r:Room (k+1) A)(env:Env):Room k (A.deeper env) :=
 {r.hd,by have:=r.dp;show A.depth+1+3*k+5<_;lia,by have:=r.un;show A.units+3+16*k+200<_;lia}
def Wg{A:dr}:(A.under<|.builtin "type.__call__" {.ref C::us,a}).depth=A.depth+1:=by
 first|rfl|simp[guardIds]
def Wh{A:dr}:(A.under<|.builtin "type.__call__" {.ref C::us,a}).units=A.units+1:=by
 first|rfl|simp[Code.isFrame]
abbrev _root_.wA:=List (Str × Value)
def Room.make(r:Room (k+1) A)(C:Addr)(us:uD)(a:wA):Room k (A.under<|.builtin "type.__call__" {.ref C::us,a}) :=
 {r.hd,by have:=r.dp;rw[Wg];lia,by have:=r.un;rw[Wh];lia}
def Room.depth(r:Room k A):A.depth<recursionLimit:=by have:=r.dp;lia
def Room.units(r:Room k A):A.units+64<cLine:=by have:=r.un;lia
def BM:TA:=λ_ H Q=>Q [] H
def D4(b:TE)(c:TA):TA:=λa H Q=>b a H λx d=>c a d λxs e=>Q (x::xs) e
section
variable{X:Cx}{e:Expr}{es:xD}{te:TE}{t:TA}{pos:Pos}
def ST:PA X [] BM:=λz z z z H Q I h=>xl<|x2 [] H {I,.nil,h}
def ME(b:PE X e te)(c:PA X es t)(hs:az (e::es) X.env=(false,eval e X.env)::az es X.env:=by rfl):PA X (e::es) (D4 te t):=by
 intro pos p s a H Q I h;rw[hs];exact t5 (AO (b _ s a H _ I h) (by intro u d [x,g,i,j,q1];exact(AO (c _ _ d a g _ i q1) (by intro us q [xs,l,n,o,q2];exact x2 _ l {n,.cons j o,q2}))))
def C7(t:TA):TE:=λb H Q=>t b H λxs a=>xs.length<=sizeLine/\∀ p,a p=none->Q (.ref p) (upd a p<|.tup xs)
def CG(t:TA):TE:=λb H Q=>t b H λxs a=>xs.length<=sizeLine/\∀ p,a p=none->Q (.ref p) (upd a p<|.lst xs)
def Wj{c}(h:PA X es t):PE X (.Tuple es c pos) (C7 t):=λj s d H Q I g=>wpAny_Tuple_spliced (AO (h _ _ s d H _ I g) λus l ⟨xs,i,a,r,z,q⟩=>{by rw[<-r.length];exact z,(x2 (.ref _) (upd i _<|.tup xs) {a.laid  (λb u e=>ν _ e) (ο _) ({z,us,r,{_,ae _ rfl,rfl,_,rfl}}),rfl,q _<|a.hok.fresh<|ο _})})
def Wk(h:PA X es t):PE X (.List es pos) (CG t):=λi s c H Q I d=>wpAny_List_spliced (AO (h _ _ s c H _ I d) λus j ⟨xs,g,a,r,z,q⟩=>{by rw[<-r.length];exact z,(x2 (.ref _) (upd g _<|.lst xs) {a.laid  (λb u e=>ν _ e) (ο _) ({z,x2 us 0 {r,ae _ rfl}}),rfl,q _<|a.hok.fresh<|ο _})})
end
abbrev Sp:=cF->Hp->VK->XK->Prop
abbrev IE:=cE->Hp->π->XK->Value->π->Prop
structure Env0(P:bw)(w:World)(K:W.Frag)(mg:uB)(base:Heap)(A:dr)(outer:cE)(s:π)(H:Hp):Prop where
 frames:A.frames=some outer
 mod:Mod K mg base
 bs:∀ b o,base.get? b=some o->s.heap.get? b=some o/\H b=none
 bsz:base.objs.size<=s.heap.objs.size
 funs:s.heap.FunFrames base outer
 frf:∀ b∈EF outer,H b=none
 hok:HOk P w H s.heap
 bare:ud s.gens
def CE(outer:cE)(P:bw)(w:World)(H:Hp)(s:π)(Q:VK)(u:Value)(a:π):Prop :=
 ∃ v b,a.os=s.os/\ud a.gens/\Un (EF outer) [] H b s.heap a.heap/\HOk P w b a.heap/\RelV v u/\Q v b
def CR(CX:IE)(outer:cE)(P:bw)(w:World)(H:Hp)(s:π)(Q:VK)(E:XK)(r:Result)(a:π):Prop :=
 match r with
 |.ok (.ret u)=>CE outer P w H s Q u a
 |.ok _=>False
 |.error e=>CX outer H s E e a
structure FnOk(P:bw)(w:World)(K:W.Frag)(mg:uB)(base:Heap)(CX:IE)(k:Nat)(f:Addr)(fd:gx)(ps:zD)(sp:Sp):Prop where
 len:∀ vs H Q E,sp vs H Q E->vs.length=ps.length
 run:∀ (A:dr) (outer:cE) (s:π) (H:Hp) (args:Args) (us:uD) (vs:cF) (Q:VK) (E:XK),Room k A->Env0 P w K mg base A outer s H->xm s fd args (ps.zip us)->Vals vs us->sp vs H Q E ->
  vd (model P w) A (.call (.ref f) args) (CR CX outer P w H s Q E) s
def FnOk.imp{P:bw}{w:World}{K:W.Frag}{mg:uB}{base:Heap}{CX:IE}{k:Nat}{f:Addr}{fd:gx}{ps:zD}{sp a:Sp}(F:FnOk P w K mg base CX k f fd ps sp)
  (h:∀ vs H Q E,a vs H Q E->sp vs H Q E):FnOk P w K mg base CX k f fd ps a :=
 {λvs H Q E q=>F.len vs H Q E<|h _ _ _ _ q,λA outer s H args us vs Q E b he c d hs=>F.run A _ s H _ us vs Q E b he c d<|h _ _ _ _ hs}
def Env0.make{P:bw}{w:World}{K:W.Frag}{mg:uB}{base:Heap}{A:dr}{outer:cE}{s:π}{H:Hp}(e:Env0 P w K mg base A outer s H)(C:Addr)(us:uD)(a:wA) :
  Env0 P w K mg base (A.under<|.builtin "type.__call__" {.ref C::us,a}) outer s H:={by first|exact e.frames|(exact e.frames),e.mod,e.bs,e.bsz,e.funs,e.frf,e.hok,e.bare}
section
variable{X:Cx}{AA:yA}{σ:St}{H:Hp}{s s':π}
def Inv.env0(I:Inv X AA σ H s):Env0 X.prog X.w X.K X.mg X.base X.A X.stack s H :=
 {I.ok.frames,I.ok.mod,I.bs,ψ I.ok.bsz I.sz,I.stack,I.stkFree,I.hok,I.bare}
def Inv.after(I:Inv X AA σ H s)(h:CE X.stack X.prog X.w H s Q u s'):EP X AA σ Q u s':=by
 revert h;apply u2;intro v c [os,bare,un,hok,r,q];let[e,g,d,t,a]:=s';obtain rfl:a=s.os:=os;exact x2 v c {I.call      un hok bare (λb z=>absurd z (by simp)),r,q}
end
def MF(sp:Sp)(b:cF)(E:St->XK)(t:TA):TE:=λa H Q=>t a H λvs c=>sp (vs++b) c Q (E a)
def IY(C:Addr)(m:Str)(sp:Sp)(d:cF)(E:St->XK)(e:TE)(t:TA):TE:=λb H Q=>e b H λx c=>∃ a g fs,x=.ref a/\c a=some (.ins C g fs)/\fs.lookup m=none /\
 t b c λvs i=>sp (x::(vs++d)) i Q (E b)
def NG(C:Addr)(sp:Sp)(d:cF)(E:St->XK)(t:TA):TE:=λc H Q=>t c H λvs b=>∀ x a,b x=none->b a=none->a≠x ->
 sp (.ref x::(vs++d)) (upd (upd b a<|.own x) x (.ins C a [])) (λv e=>v=.non/\Q (.ref x) e) (E c)
def Binds(K:W.Frag)(fd:gx)(ps:zD)(a:uD):Prop :=
 ∀ (s:π) (us:uD),K.In s.heap->(us++a).length=ps.length->xm s fd {us,[]} (ps.zip<|us++a)
def Binds.all{K:W.Frag}{fd:gx}{ps:zD}(h:∀ us:uD,us.length=ps.length->bindArgs fd {us,[]}=pure (ps.zip us)):Binds K fd ps []:=λs us z a=>by
 rw[ja]at a ⊢;exact .of_eq<|h us a
def HF(CX:IE)(X:Cx)(E:St->XK):Prop:=∀ (c:yA) (a:St) (H:Hp) (s:π) (e:Value) (b:π),Inv X c a H s->CX X.stack H s (E a) e b->X.xe e b
section
variable{X:Cx}{CX:IE}{k:Nat}{f C:Addr}{fd:gx}{ps:zD}{sp:Sp}{EO:cF}{ds:uD}{E:St->XK}{x m:Str}{p pos CW:Pos}{e o:Expr}{es:xD}{ta:TE}{t:TA}
def WY(F:FnOk X.prog X.w X.K X.mg X.base CX k f fd ps sp)(d:Room k X.A)(g:Binds X.K fd ps ds)(hd:Vals EO ds)(i:HF CX X E)
  (I:Inv X j b H s) (r:Vals vs us) (h:sp (vs++EO) H Q (E b)):wpAny (model X.prog X.w) X.A (call (.ref f) us) (EP X j b Q) X.xe s:=by
 have c:=r.append hd;refine Js (mx (F.run _ _ s H _ _ _ Q _ d I.env0 (g s us I.kIn (by rw[<-c.length];exact F.len _ _ _ _ h)) c h) λr l a=>?_);cases r with
 |error e=>exact i _ b H s e l I a
 |ok n =>
  cases n with
  |ret u=>exact I.after a
  |next=>exact jy a
  |brk=>exact jy a
  |cont=>exact jy a
def Wl(F:FnOk X.prog X.w X.K X.mg X.base CX k f fd ps sp)(c:Room k X.A)(d:Gl X x)(g:X.mg x=some (.ref f))(i:W.keepIn X.K (.ref f)=true)(j:Binds X.K fd ps ds)(hd:Vals EO ds)(l:HF CX X E)
  (n:PA X (e::es) t) (a:(x ==("__debug__":Str))=false:=by decide) (he:az (e::es) X.env=(false,eval e X.env)::az es X.env:=by rfl) (u:(jj pos<|az es X.env).any (·.1)=false:=by rfl) :
  PE X (.Call (.Name x p) (e::es) [] pos) (MF sp EO E t):=λw s v H Q I h=>t9 (MA I d g (W.callWith_K  I.ok.mod.kin i (AO (n _ _ s v H _ I h) (by intro us y [vs,z,b,r,q];exact{b.kIn,(WY F c j hd l b r q)})) he u) a)
def Wm(he:PE X o ta)(c:Cls X.K C)(g:SR X.K C m f)(F:FnOk X.prog X.w X.K X.mg X.base CX k f fd ps sp)(w:Room k X.A)(y:Binds X.K fd ps ds)(hd:Vals EO ds)(z:HF CX X E)(A:PA X (e::es) t)
  (b:az (e::es) X.env=(false,eval e X.env)::az es X.env:=by rfl) (B:(jj pos<|az es X.env).any (·.1)=false:=by rfl)
  (D:eval (.Call (.Attribute o m CW) (e::es) [] pos) X.env=(do
   let i ← eval o X.env
   yp CW.atName
   let (f,first) ← ue [i] (uw i m O)
   zu pos f first (jj pos<|az (e::es) X.env) (vj pos<|mo [] X.env)):=by rfl) :
  PE X (.Call (.Attribute o m CW) (e::es) [] pos) (IY C m sp EO E ta t):=by
 refine λT s j H Q I h=>W.methodCall_KW  (AO (he _ s j H _ I h) λu J d=>?_) D;let[x,L,n,M,a,U,fs,rfl,N,l,q]:=d;obtain rfl:u=fh a:=M;exact nS n N c g l (W.callWith_K   I.ok.mod.kin g.kp (AO (A _ _ J j L _ n q) (by intro us Y [vs,H2,v,r,q2];exact{v.kIn,(WY  (vs:=.ref a::vs) F w y hd z v (.cons rfl r) q2)})) b B)
def Wp(he:PE X o ta)(c:Cls X.K C)(g:SR X.K C m f)(F:FnOk X.prog X.w X.K X.mg X.base CX k f fd ps sp)(j:Room k X.A)(n:Binds X.K fd ps ds)(hd:Vals EO ds)(r:HF CX X E)
  (v:eval (.Call (.Attribute o m CW) [] [] pos) X.env=(do
   let i ← eval o X.env
   yp CW.atName
   let (f,first) ← ue [i] (uw i m A)
   zu pos f first (jj pos<|az [] X.env) (vj pos<|mo [] X.env)):=by rfl) :
  PE X (.Call (.Attribute o m CW) [] [] pos) (IY C m sp EO E ta BM):=by
 refine λB s w H Q I h=>W.methodCall_KW  (AO (he _ s w H _ I h) λu D b=>?_) v;let[x,J,d,y,a,L,fs,rfl,z,l,q]:=b;obtain rfl:u=fh a:=y;exact nS d z c g l<|W.callWith_K0  d.kIn g.kp (WY  (vs:=[.ref a]) F j n hd r d (.cons rfl .nil) q)
structure Mk(K:W.Frag)(C f:Addr):Prop where
 makes:W.makesIn K C=true
 init:W.findIn K (.ref C) "__init__"=some (some<|.ref f)
 fn:W.isFn K (.ref f)=true
 kp:W.keepIn K (.ref C)=true
def Wq(M:Mk X.K C f)(F:FnOk X.prog X.w X.K X.mg X.base CX k f fd ps sp)(j:Room (k+1) X.A)(l:Binds X.K fd ps ds)(hd:Vals EO ds)
  (n:HF CX X E) (I:Inv X q d H s) (r:Vals vs us)
  (h:∀ x b,H x=none->H b=none->b≠x->sp (.ref x::(vs++EO)) (upd (upd H b<|.own x) x (.ins C b [])) (λv w=>v=.non/\Q (.ref x) w) (E d)) :
  wpAny (model X.prog X.w) X.A (call (.ref C) us) (EP X q d Q) X.xe s:=by
 have g:=h _ _ (I.hok.fresh<|jv _) (I.hok.fresh<|ο _) (a_<|fe _)
 have c:=Inv.made (C:=C) I
 have i:Vals (V.ref (s.heap.objs.size+1)::(vs++EO)) _:=.cons rfl<|r.append hd
 have y:(fh (s.heap.objs.size+1)::us++ds).length=ps.length:=by
  have e:=i.length;rw[F.len _ _ _ _ g]at e;exact e.symm
 refine Js (Vx  I.kIn M.makes M.init (beq_iff_eq.mp M.fn) (mx (F.run _ _ _ _ _ _ _ _ _ (j.make C us [])
  (c.env0.make C us []) (l _ _ c.kIn y) i g) λr z a=>?_))
 cases r with
 |error e=>exact n _ d _ _ e z c a
 |ok A =>
  cases A with
  |ret u =>
   refine u2 ?_<|c.after a;intro v B [D,J,rfl,q3];exact{J,x2 (V.ref _) B ⟨D,rfl,q3⟩}
  |next=>exact jy a
  |brk=>exact jy a
  |cont=>exact jy a
def Wv(M:Mk X.K C f)(F:FnOk X.prog X.w X.K X.mg X.base CX k f fd ps sp)(c:Room (k+1) X.A)(d:Gl X x)(g:X.mg x=some (.ref C))(i:Binds X.K fd ps ds)(hd:Vals EO ds)(j:HF CX X E)
  (l:PA X (e::es) t) (a:(x ==("__debug__":Str))=false:=by decide) (he:az (e::es) X.env=(false,eval e X.env)::az es X.env:=by rfl) (n:(jj pos<|az es X.env).any (·.1)=false:=by rfl) :
  PE X (.Call (.Name x p) (e::es) [] pos) (NG C sp EO E t):=λv s u H Q I h=>t9 (MA I d g (W.callWith_K  I.ok.mod.kin M.kp (AO (l _ _ s u H _ I h) (by intro us w [vs,y,b,r,q];exact{b.kIn,(Wq M F c i hd j b r q)})) he n) a)
end
section
variable{X:Cx}{CX:IE}{k:Nat}{f C:Addr}{fd:gx}{ps ks:zD}{sp:Sp}{E:St->XK}{x m:Str}{p pos CW kpos:Pos}{e o:Expr}{es:xD}{kws:List Be}{te ta:TE}{t tk:TA}{nm:Option Str}
structure z5v(K:W.Frag)(fd:gx)(ps ks:zD)(g:uD->uD->uD)(gV:cF->cF->cF):Prop where
 to:∀ (s:π) (us ws:uD),K.In s.heap->(g us ws).length=ps.length->xm s fd {us,ks.zip ws} (ps.zip<|g us ws)
 rel:∀ {vs:cF} {us:uD} {zs:cF} {ws:uD},Vals vs us->Vals zs ws->Vals (gV vs zs) (g us ws)
variable{g:uD->uD->uD}{gV:cF->cF->cF}
end
structure FnScope(N P:zD)(sc:Scope):Prop where
 kind:sc.kind=.function
 co:sc.isCoroutine=false
 gen:sc.isGenerator=false
 nd:N.Nodup
 pre:N.take P.length=P
 par:∀ x∈P,sc.names.lookup x=some .local\/sc.names.lookup x=some .cell
 nofree:∀ y∈sc.names,y.2≠.free
theorem nX{kindOf:Str->Option yi}:∀ {binds:wA} {m:uB},(∀ v,(x,v)∉binds)->bindL kindOf binds m x=m x
 | [],_,_=>rfl
 |(n,v)::r,m,h=>by
  unfold bindL;rw[nX λw a=>h w<|τ _ a];split
  have:x≠n:=by rintro rfl;exact h v χ
  simp[this]
  rfl
theorem nY{kindOf:Str->Option yi}:∀ {binds:wA} {m:uB},(∀ v,(x,v)∉binds)->bindC kindOf binds m x=m x
 | [],_,_=>rfl
 |(n,v)::r,m,h=>by
  unfold bindC;rw[nY λw a=>h w<|τ _ a];split
  rfl
  have:x≠n:=by rintro rfl;exact h v χ
  simp[this]
theorem n0{kindOf:Str->Option yi}:∀ {P:zD} {vs:uD} {i:Nat} {m:uB},P.Nodup->P[i]? =some x->vs[i]? =some v->kindOf x=some .local ->
  bindL kindOf (P.zip vs) m x=some v
 | [],_,_,_,_,h,_,_=>by simp at h
 |_::_,[],_,_,_,_,h,_=>by simp at h
 |p::P,w::vs,0,m,nd,h1,h2,a=>by
  simp at h1 h2;subst h1 h2
  show bindL _ ((p,w)::P.zip vs) m p=_;unfold bindL;rw[nX λv b=>(ic.mp nd).1 (ze b).1,if_pos a];simp
 |p::P,w::vs,i+1,m,nd,h1,h2,a=>by
  unfold bindL;exact n0  (ic.mp nd).2 (h1) (h2) a
theorem oE{kindOf:Str->Option yi}:∀ {P:zD} {vs:uD} {i:Nat} {m:uB},P.Nodup->P[i]? =some x->vs[i]? =some v->kindOf x≠some .local ->
  bindC kindOf (P.zip vs) m x=some v
 | [],_,_,_,_,h,_,_=>by simp at h
 |_::_,[],_,_,_,_,h,_=>by simp at h
 |p::P,w::vs,0,m,nd,h1,h2,a=>by
  simp at h1 h2;subst h1 h2
  show bindC _ ((p,w)::P.zip vs) m p=_;unfold bindC;rw[nY λv b=>(ic.mp nd).1 (ze b).1,if_neg a];simp
 |p::P,w::vs,i+1,m,nd,h1,h2,a=>by
  unfold bindC;exact oE  (ic.mp nd).2 (h1) (h2) a
def AW(N:zD)(vs:cF):St:=vs.map some++bd (N.length-vs.length) none
def IZ(CX:IE)(P:bw)(w:World)(K:W.Frag)(mg:uB)(base:Heap)(N:zD)(a:Str)(scope:Scope)(f:Addr)(c:Value)(A:dr)(outer:cE)(s:π)(H:Hp)(E:XK):Cx where
 prog:=P
 w:=w
 K:=K
 mg:=mg
 base:=base
 A:=A.deeper<|x_ a scope s.heap.objs.size f c
 N:=N
 s₀:=s
 H₀:=H
 env:=x_ a scope s.heap.objs.size f c
 outer:=outer
 stack:=x_ a scope s.heap.objs.size f c::outer
 ex:=[]
 calm:=true
 fn:=λ_=>true
 pn:=[]
 xe:=λe d=>wpAny (model P w) (A.deeper<|x_ a scope s.heap.objs.size f c) (leaving (x_ a scope s.heap.objs.size f c) e) (λ_ b=>CX outer H s E e b) (λg b=>CX outer H s E g b) d
def oF{a:Scope}(h:a.names.lookup x=some .cell):∃ c,(Li n a.names []).lookup x=some c:=dt.mp<|W.cellsFrom_some _ n [] (.inl h)
def Ww{CX:IE}{P:bw}{w:World}{K:W.Frag}{mg:uB}{base:Heap}{N ps:zD}{d:Str}{scope:Scope}{f:Addr}{D:Value}{A:dr}{outer:cE}{s I:π}{H:Hp}{E:XK}{us:uD}{vs:cF}
  (S:FnScope N ps scope) (hd:A.handled=none) (g:Env0 P w K mg base A outer s H) (M:vs.length=ps.length) (r:Vals vs us)
  (x:InCallC s s.heap.objs.size (bindL (x_ d scope s.heap.objs.size f D).kindOf (ps.zip us) λ_=>none) (Li (s.heap.objs.size+1) scope.names []) (bindC (x_ d scope s.heap.objs.size f D).kindOf (ps.zip us) λ_=>none) I) :
  Inv (IZ CX P w K mg base N d scope f D A outer s H E) [] (AW N vs) H I:=by
 have T:ps.length<=N.length:=by have:=congrArg g_ S.pre;rw[df]at this;lia
 refine u2 ?_ x.done;intro h1 tk [rfl,J]
 have j:∀ b:Addr,b∉(IZ CX P w K mg base N d scope f D A outer s H E).ex:=λb z=>absurd (show b∈([])from z) (by simp);refine⟨{g.mod,S.kind,rfl,rfl,ο _,λy z c h1 h2=>(name_of_addr x.apart (PySem.mem_of_lookup h1) (PySem.mem_of_lookup h2)),λy l=>?_,λy c t h=>(js<|x.above y c<|PySem.mem_of_lookup h),λt=>hd,Around.frames_deeper g.frames,.inr ⟨rfl,rfl⟩,λb z=>absurd z<|j b,g.bs,g.bsz,λb t t=>j b,λb z=>absurd z<|j b,g.funs,g.frf},
  rfl,g.bare,Un.kept J,{_,x.toInCall.ns,λi y v h1 h2 h3=>?_},λy c h=>{_,x.cell y c h},g.hok.fresh<|ο _,λy c h=>(g.hok.fresh<|js<|x.above y c<|PySem.mem_of_lookup h),λp n=>absurd (show p∈([])from n) (by simp),g.hok.kept J,?_⟩
 let l||l:=l
 exact oF l;exact absurd rfl<|S.nofree _<|PySem.mem_of_lookup l
 have o:i<vs.length:=by
  unfold AW at h2;by_cases o:i<vs.length;exact o;rw[cg (by simpa using o),yj]at h2;split at h2<;>cases h2
 have O:vs[i]? =some v:=by
  unfold AW at h2;rw[bg (by simpa using o),υ]at h2;cases e:vs[i]? with
  |none=>rw[e]at h2;cases h2
  |some a=>rw[e]at h2;cases h2;rfl
 have n:ps[i]? =some y:=by
  rw[<-S.pre,List.getElem?_take_of_lt<|M ▸ o];exact h1
 have B:ps.Nodup:=by rw[<-S.pre];exact S.nd.sublist<|D_ _ _
 let[u,L,Q]:=r.get O;refine{u,Q,?_};rcases S.par y (η n)with k|k
 exact .inl {k,n0 B n L k};let[c,e]:=oF  k;refine .inr {.inl k,c,e,?_}
 have q:=x.cell y c e;rw[oE B n L (by show scope.names.lookup y≠_;rw[k];decide)]at q;exact q;unfold AW
 show _=N.length;rw[ai,ε,uo]
 lia
def Wx{CX:IE}{P:bw}{w:World}{K:W.Frag}{mg:uB}{base:Heap}{k:Nat}{f:Addr}{name a:Str}{c:Arguments}{body:List Stmt}{scope:Scope}{O kV l pm j ct Y:Value}{T od:Option Addr}
  {D:Array (Option Value)} {N ps:zD} {sp:Sp} (lk:K.lookup f=some {Y,od,.func<|W.fnOf name a c body scope O kV l pm T j ct,D}) (GW:W.codeIn K j a=true) (S:FnScope N ps scope)
  (len:∀ vs H Q E,sp vs H Q E->vs.length=ps.length)
  (mQ:∀ (A:dr) (outer:cE) (s:π) (H:Hp) (vs:cF) (Q:VK) (E:XK),Room k (A.deeper<|x_ a scope s.heap.objs.size f j)->sp vs H Q E ->
   ∃ t,E8 (IZ CX P w K mg base N a scope f j A outer s H E) body t/\t { nx:=λz g=>Q .non g,rt:=Q } (AW N vs) H) :
  FnOk P w K mg base CX (k+1) f (W.fnOf name a c body scope O kV l pm T j ct) ps sp:=by
 refine{len,λA outer s H args us vs Q E I p hb r B=>?_}
 have U:=p.mod.kin.keeps λb o e=>(p.bs b o e).1
 have i:∀ y∈ps.zip us,scope.names.lookup y.1=some _\/(scope.names.lookup y.1=some _/\((Li (s.heap.objs.size+1) _ []).lookup y.1).isSome=true):=λ⟨n,v⟩ hy=>by
  let q||q:=S.par n (ze hy).1
  exact .inl q;exact .inr {q,W.cellsFrom_some _ _ _<|.inl q}
 refine codeAny_call_function I.depth (U _ _ lk) rfl S.co S.gen rfl (W.codeRec_of U GW) (hb _ _ _ _<|wpAny_newFunctionEnv_cells S.kind i λenv he s1 x=>?_);subst he;let[t,ht,hq]:=mQ A _ s H vs Q E (I.deeper _) B;refine{(p.mod.nolimit.keeps λb o e=>(p.bs b o e).1).keeps x.toInCall.keep,codeAny_func<|o_ (ht [] s1 _ H _ (Ww S I.hd p (len _ _ _ _ B) r x) hq) (λfl L hs=>?_) λe L hs=>hs}
 have fin:∀ {d:St} {g:Hp} {v:V} {u:Value},Inv (IZ CX P w K mg base N a scope f j A _ s H E) [] d g L->RelV v u->Q v g->CE outer P w H s Q u L :=
  λ{d g v u} J M q=>x2 v g ⟨J.os,J.bare,J.base,J.hok,M,q⟩
 cases fl with
 |ret u =>
  revert hs;apply u3;intro v d g [J,M,q];exact fin J M q
 |next =>
  revert hs;apply u2;intro d g [J,q];exact fin (v:=V.non)  J rfl q
 |brk =>
  revert hs;apply u2;intro z z [z,q];exact jy q
 |cont =>
  revert hs;apply u2;intro z z [z,q];exact jy q
section
variable{X:Cx}{x:Str}{p pos:Pos}{e:Expr}{es:xD}{t:TA}{id T:String}{r:cF->Hp->VK->Prop}
def CA(r:cF->Hp->VK->Prop)(t:TA):TE:=λa H Q=>t a H λvs b=>r vs b Q
def NH(c:EG X (.builtin id) r)(d:Gl X x)(g:X.mg x=none)(i:uc x=some (.builtin id))(j:PA X (e::es) t)(l:x≠"__name__":=by decide)(a:(x ==("__debug__":Str))=false:=by decide)
  (he:az (e::es) X.env=(false,eval e X.env)::az es X.env:=by rfl) (n:(jj pos<|az es X.env).any (·.1)=false:=by rfl):PE X (.Call (.Name x p) (e::es) [] pos) (CA r t):=λw s b H Q I h=>t9 (OY I d g i (PyProof.Rows.callWith_builtin1 (AO (j _ _ s b H _ I h) (by intro us o [vs,q,u,v,q1];exact c _ o b q vs us Q u v q1)) he n) l a)
def NI(c:EG X (.type T) r)(d:Gl X x)(g:X.mg x=none)(i:uc x=some (.type T))(j:PA X (e::es) t)(l:x≠"__name__":=by decide)(a:(x ==("__debug__":Str))=false:=by decide)
  (he:az (e::es) X.env=(false,eval e X.env)::az es X.env:=by rfl) (n:(jj pos<|az es X.env).any (·.1)=false:=by rfl):PE X (.Call (.Name x p) (e::es) [] pos) (CA r t):=λw s b H Q I h=>t9<|OY I d g i (jt (AO (j _ _ s b H _ I h) λus o ⟨vs,q,u,v,q1⟩=>c _ o b q vs us Q u v q1) he n) l a
end
end L2
namespace HT
open PySem PyProof.Rows
section
open PySem.SeqAt
open PySem.AutoSeq1 (wpAny_loadPart')
open PySem.MeetsSeq PySem.MeetsSeq2 PySem.MeetsSeq3
end
section
variable{prog:bw}{w:World}{A:dr}{E:yB}{s:π}
def cat_tup(q:IsTup s.heap t vs.toArray)(r:IsTup s.heap b ws.toArray)(j:vs≠[])
  (h1:ws=[]->Q (.ref t) s) (h2:ws≠[]->Q (.ref s.heap.objs.size) { s with heap:=s.heap.push { cls:=.type "tuple",data:=.seq (vs++ws).toArray } })
  (hsz:vs.length+ws.length<=sizeLine):wpAny (model prog w) A (jd .Add (.ref t) (.ref b)) Q E s:=by
 let[[cls,dd,data,l],c,u,n,hd]:=id q;let[[o,v,data2,x],a,g,p,i]:=id r;subst u hd g i
 have e:vs.toArray++ws.toArray=(vs++ws).toArray:=by simp
 by_cases d:ws=[];exact Ea ⟨_,c,rfl⟩ ⟨_,a,rfl⟩ yk Ca PySem.F.slot_tuple_add PySem.F.entry_tuple_add (PySem.F.args_tuple_add_2 _ _)
  (tuple_addW1 t b _ _ n p dd _ l _ (by simpa using j) (by simp[d])) {c,a,h1 d}
 refine Ea ⟨_,c,rfl⟩ ⟨_,a,rfl⟩ yk Ca PySem.F.slot_tuple_add PySem.F.entry_tuple_add (PySem.F.args_tuple_add_2 _ _)
  (tuple_addW2 t b _ _ n p dd _ l _ (by simpa using j) (by simpa using d) (by exact hsz)) {c,a,?_}
 rw[e];exact h2 d
def sIx(n d:Nat):Option Int->Nat
 |none=>d
 |some v=>if v<0 then(v+(n:Int)).toNat else min v.toNat n
def sIx_none(n d:Nat):sIx n d none=d:=rfl
def clip_eq(v:Int)(n d:Nat):(if v<0 then max (v+(n:Int)) 0 else min v (n:Int))=((sIx n d (some v):Nat):Int):=by
 show _=(((if v<0 then(v+n).toNat else min v.toNat n):Nat):Int);by_cases a:v<0;rw[if_pos a,if_pos a,Int.ofNat_toNat]
 have e:=fu<|wo.mp a;rw[if_neg a,if_neg a];let h||h:=Nat.le_total v.toNat n
 rw[nq h,e];exact Iq<|e ▸ kx.mpr h;rw[Ha h];exact Int.min_eq_right<|e ▸ kx.mpr h
def Wy(lo a:Option Int)(n:Nat):w_ lo a 1 (n:Int)=(((sIx n 0 lo:Nat):Int),((sIx n n a:Nat):Int)):=by
 refine Prod.ext ?_ ?_;cases lo with
 |none=>rfl
 |some v=>exact clip_eq v n 0
 cases a with
 |none=>rfl
 |some v=>exact clip_eq v n n
def Wz(i j:Nat):xa (i:Int) (j:Int) 1=j-i:=by
 show(if(i:Int)<j then((j:Int)-i-1)/1+1 else 0).toNat=_;by_cases h:(i:Int)<j;rw[if_pos h,Int.ediv_one,Int.sub_add_cancel,Int.toNat_sub];rw[if_neg h];exact(zk<|kx.mp<|wo.mp h).symm
def oI(p:zw v o)(h:Q o s):wpAny (model prog w) A (Ir v) Q E s:=by
 cases p with
 |none=>exact slicePart_none h
 |int i t=>exact slicePart_int h
def Xb{d:Addr}{e g:Value}{lo c:Option Int}{n:Nat}{Q:Int × Int × Nat->π->Prop}(hs:s.heap.IsSliceOf d e g .none)(i:zw e lo)(j:zw g c)
  (h:Q (((sIx n 0 lo:Nat):Int),1,sIx n n c-sIx n 0 lo) s):wpAny (model prog w) A (Jt (.ref d) (pure (n:Int))) Q E s:=by
 let[os,a,l,b]:=id hs;refine δ<|δ<|jk a b  rfl (δ<|jk a b  rfl (δ<|jk a b  rfl (ξ<|δ<|slicePart_none<|δ<|oI i<|δ<|oI j<|δ<|ξ ?_)))
 show wpAny _ _ (match w_ lo c 1 n with|(lo,c)=>pure (lo,(1:Int),xa lo c 1)) _ _ s;rw[Wy lo c n]
 show wpAny _ _ (pure _) _ _ s;rw[Wz];exact ξ h
def Xc(xs:Array Value)(i k:Nat):((ρ k).filterMap λ(m:Nat)=>xs[((i:Int)+(m:Int)*1).toNat]?).toArray=((xs.toList.drop i).take k).toArray:=by
 have e:(λ(m:Nat)=>xs[(i+(m:Int)*1).toNat]?)=λm=>xs[i+m]? :=by
  funext m
  have:(i+(m:Int)*1).toNat=i+m:=by lia
  rw[this]
 have:=pick_run xs i k;rw[e];rw[List.filterMap_map]at this
 have a:((λx=>xs[x]?) ∘ λx=>i+x)=λm=>xs[i+m]? :=rfl;rw[a]at this;rw[this]
def getItem_tuple_cut{t j:Addr}{a:Array Value}{l n:Value}{lo c:Option Int}{Q:yB}(d:IsTup s.heap t a)(hs:s.heap.IsSliceOf j l n .none)(o:zw l lo)(p:zw n c)
  (r:¬ (sIx a.size 0 lo=0/\sIx a.size a.size c=a.size))
  (h:Q (.ref s.heap.objs.size) { s with heap:=s.heap.push { cls:=.type "tuple",data:=.seq ((a.toList.drop<|sIx a.size 0 lo).take (sIx a.size a.size c-sIx a.size 0 lo)).toArray } })
  (hsz:a.size<=sizeLine):wpAny (model prog w) A (yq (.ref t) (.ref j)) Q E s:=by
 let[os,e,g,u]:=id hs
 have b:sizeOk (.seq ((a.toList.drop<|sIx a.size 0 lo).take (sIx a.size a.size c-sIx a.size 0 lo)).toArray):=by
  show((a.toList.drop _).take _).toArray.size<=sizeLine;rw[aw];exact ψ (vk ..) (by rw[il];exact ψ (Nat.sub_le ..) hsz)
 unfold yq
 try with_reducible refine fm ?_
 refine δ (wpAny_sequenceKey d.typeIs (by decide) ?_);refine δ (dg  d.typeIs jq
  (di jq d.typeIs entry_tuple_getitem ?_<|args_tuple_getitem _ _))
 show wpAny _ _ (Ju _>>=_) _ _ s;refine δ<|tupleItemsOf_ d<|δ<|v_ ⟨os,e,g⟩ (δ<|Xb hs o p ?_)
 have i:¬ ((((sIx a.size 0 lo):Int)==0&&(1:Int)==1&&(sIx a.size a.size c-sIx a.size 0 lo)==a.size)=true):=by
  intro q;rw[bx,bx]at q
  have q1:=eq_of_beq q.1.1
  have q2:=eq_of_beq q.2;exact r {ce q1,by omega}
 show wpAny _ _ (if(((sIx _ 0 lo):Int)==0&&1==1&&(sIx _ _ c-sIx _ 0 lo)==a.size)=true then _ else _) _ _ s;rw[if_neg i,Xc]
 first
  |exact δ  _
  |exact δ  (dk (δ<|ξ<|ξ {_,rfl,ξ h}) b)
  |exact δ _
  |exact δ _
end
end HT
namespace L2
abbrev TO:=St->Hp->(Option Int->Hp->Prop)->Prop
def PO(X:Cx)(e:Option Expr)(t:TO):Prop :=
 ∀ (b:yA) (s:π) (a:St) (H:Hp) (Q:Option Int->Hp->Prop),Inv X b a H s->t a H Q ->
  wpAny (model X.prog X.w) X.A (evalPart e X.env) (λu d=>∃ o c,Inv X b a c d/\zw u o/\Q o c) X.xe s
def K0:TO:=λ_ H Q=>Q none H
def O8(t:TE):TO:=λa H Q=>t a H λx b=>∃ i,x=.int i/\Q (some i) b
section
variable{X:Cx}{e:Expr}{te:TE}{lo hi:Option Expr}{tl th:TO}{pos p2:Pos}
def Xd:PO X none K0:=λa s b H Q I h=>ξ<|x2 _ H {I,.none,h}
def Xg(h:PE X e te):PO X (some e) (O8 te):=by
 refine λl s b H Q I c=>AO (h _ s b H _ I c) λu n a=>?_;let[x,d,g,j,[i,rfl,q]]:=a;let[t,rfl]:=j;exact x2 _ d {g,.int i t,q}
def SlR(X:Cx)(r:V->Option Int->Option Int->Hp->VK->Prop):Prop :=
 ∀ (a:yA) (s:π) (b:St) (H:Hp) (x:V) (v c d:Value) (lo hi:Option Int) (g:Addr) (Q:VK),Inv X a b H s->RelV x v->s.heap.IsSliceOf g c d .none->zw c lo->zw d hi->r x lo hi H Q ->
  ∃ T id,J_ (.type T) "__getitem__"=pure (some<|.builtin id)/\s.TypeIs v T/\wpAny (model X.prog X.w) X.A (yq v<|.ref g) (EP X a b Q) X.xe s
def SlR.or(h:SlR X r)(h':SlR X l):SlR X (λx lo hi H Q=>r x lo hi H Q\/l x lo hi H Q):=by
 intro n s a H x v b c lo hi d Q I g hs i j q;let q||q:=q
 exact h _ s a H x v b c lo hi d Q I g hs i j q;exact h' _ s a H x v b c lo hi d Q I g hs i j q
def K1(r:V->Option Int->Option Int->Hp->VK->Prop)(te:TE)(tl th:TO):TE:=λa H Q=>te a H λx b=>tl a b λl c=>th a c λu d=>r x l u d Q
def Xh(n:SlR X r)(he:PE X e te)(o:PO X lo tl)(p:PO X hi th):PE X (.Subscript e (.Slice lo hi none p2) pos) (K1 r te tl th):=by
 refine λAA s a H Q I h=>C_<|AO (he _ s a H _ I h) λv w ⟨x,y,z,A,q1⟩=>(wpAny_Slice<|AO (o _ w a y _ z q1) λd B ⟨l,D,E,J,q2⟩=>AO (p _ B a D _ E q2) λg i c=>?_);let[u,j,L,M,q3]:=c
 have N:Inv X _ a j { i with heap:=i.heap.push { cls:=.type "slice",data:=.fields #[d,g,.none] } }:=L.kept  λb ob q=>ν _ q;refine ξ<|u2 ?_<|n _ _ a j x v d g l u _ Q N A (Mu ..) J M q3;intro T id [O,U,Y];exact tail_any  U O Y (by with_unfolding_all rfl)
def GJ(xs:cF)(lo hi:Option Int):cF:=(xs.drop<|HT.sIx xs.length 0 lo).take (HT.sIx xs.length xs.length hi-HT.sIx xs.length 0 lo)
def oJ(xs:cF)(lo hi:Option Int):(GJ xs lo hi).length<=xs.length:=ψ (vk ..) (by rw[il];exact Nat.sub_le ..)
def oM(K:W.Frag):V->Option Int->Option Int->Hp->VK->Prop:=λx lo hi H Q=>∃ a xs,x=.ref a/\SqT K H a xs /\
 ¬ (HT.sIx xs.length 0 lo=0/\HT.sIx xs.length xs.length hi=xs.length)/\∀ p,H p=none->Q (.ref p) (upd H p<|.tup<|GJ xs lo hi)
def Xj:SlR X (oM X.K):=by
 intro u s w H x v y z lo hi A Q I g hs i j h;revert h;apply u2;intro a xs [rfl,l,n,q];subst g;let[p,r,d,hz]:=I.tuple l
 have c:p.toArray.size=xs.length:=r.length.symm;refine x2 _ _ {jq.lookup,d.typeIs,(HT.getItem_tuple_cut d hs i j (by rw[c];exact n) ?_ (by rw[c];exact hz))};rw[c];exact x2 (.ref _) _ {I.laid  (o:=.tup _) (λb ob q=>ν _ q) (ο _) {ψ (oJ xs lo hi) hz,_,(r.drop _).take _,Ln _ _},rfl,q _<|I.hok.fresh<|ο _}
def WZ(K:W.Frag):R2:=λx y H Q=>∃ a b xs ys,x=.ref a/\y=.ref b/\SqT K H a xs/\SqT K H b ys/\xs≠[]/\xs.length+ys.length<=sizeLine /\
 (ys=[]->Q (.ref a) H)/\(ys≠[]->∀ p,H p=none->Q (.ref p) (upd H p<|.tup<|xs++ys))
def Vals.nil_iff(r:Vals xs us):us=[]↔xs=[]:=by
 cases r with
 |nil=>simp
 |cons _ _=>simp
def Xk:CC X (jd .Add) (WZ X.K):=by
 intro r s A H x y v u Q I g i h;revert h;apply u4;intro a b xs ys [rfl,rfl,j,l,n,hz,q1,q2];subst g;let[B,d,p,t]:=I.tuple j;subst i;let[D,c,p2,t]:=I.tuple l;exact HT.cat_tup p p2 (λz=>n<|d.nil_iff.mp z) (λz=>x2 (.ref a) H {I,rfl,q1<|c.nil_iff.mp z}) (λz=>(x2 (.ref _) _ {I.laid  (o:=.tup _) (λb ob q=>ν _ q) (ο _) {by rw[ai];exact hz,_,d.append c,Ln _ _},rfl,q2 (λw=>z<|c.nil_iff.mpr w) _ (I.hok.fresh<|ο _)})) (by rw[<-d.length,<-c.length];exact hz)
end
def HG(n:Nat)(i:Int):Option Nat:=if 0<=i then(if i<n then some i.toNat else none)else if -(n:Int)<=i then some (i+n).toNat else none
def J6{α :Type}(xs:List α)(i:Int):Option α :=(HG xs.length i).bind λj=>xs[j]?
def oN(h:HG n i=some j):seqIndex? i n=some j/\j<n/\ -(n:Int)<=i/\i<n:=by
 unfold HG at h;by_cases h0:0<=i;rw[if_pos h0]at h;by_cases h1:i<n;rw[if_pos h1]at h
 have e:=ι h;exact{by rw[Ik h0 h1,e],by omega,by omega,h1};rw[if_neg h1]at h;cases h;rw[if_neg h0]at h;by_cases h1: -n<=i;rw[if_pos h1]at h
 have e:=ι h;exact{by rw[Ee (by omega) h1,e],by omega,h1,by omega};rw[if_neg h1]at h;cases h
def W1{α :Type}{xs:List α}{i:Int}{v: α}(h:J6 xs i=some v):∃ j,seqIndex? i xs.length=some j/\xs[j]? =some v/\j<xs.length/\ -(xs.length:Int)<=i/\i<xs.length:=by
 unfold J6 at h;cases e:HG _ i with
 |none=>rw[e]at h;cases h
 |some j =>
  rw[e]at h;let[h1,h2,h3,h4]:=oN e;exact⟨j,h1,h,h2,h3,h4⟩
def SU{α :Type}{xs:List α}{j:Nat}{v: α}(h:xs[j]? =some v):J6 xs (j:Int)=some v:=by
 have e:HG xs.length j=some j:=by
  unfold HG;rw[if_pos (i0),if_pos<|dn.mpr<|(ζ.mp h).1];simp
 unfold J6;rw[e];exact h
def oO(b:Expr):Prop:=∀ o i,zx b false o i=operate [o,i] (yq o i)
def IxR(X:Cx)(r:R2):Prop :=
 ∀ (value slice:Expr) (a:yA) (s:π) (b:St) (H:Hp) (x y:V) (v u:Value) (Q:VK),Inv X a b H s->RelV x v->RelV y u->r x y H Q ->
  zx slice false v u=operate [v,u] (yq v u)->wpAny (model X.prog X.w) X.A (subscriptTail value slice v u) (EP X a b Q) X.xe s
def MG(X:Cx)(id:String)(r:V->cF->Hp->VK->Prop):Prop :=
 ∀ (a:yA) (s:π) (b:St) (H:Hp) (x:V) (xs:cF) (v:Value) (us:uD) (Q:VK),Inv X a b H s->RelV x v->Vals xs us->r x xs H Q ->
  wpAny (model X.prog X.w) X.A (call (.builtin id) (v::us)) (EP X a b Q) X.xe s
section
variable{X:Cx}{a b:Expr}{ta tb:TE}{pos:Pos}
def IxR.or(h:IxR X r)(h':IxR X g):IxR X (λx y H Q=>r x y H Q\/g x y H Q):=by
 intro value slice i s c H x y v u Q I d e q hs;let q||q:=q
 exact h _ _ _ s c H x y v u Q I d e q hs;exact h' _ _ _ s c H x y v u Q I d e q hs
def oP(c:IxR X r)(d:PE X a ta)(e:PE X b tb)(hs:oO b):PE X (.Subscript a b pos) (AD r ta tb):=λp s g H Q I h=>C_<|WS d e I h λv u i x y j l n o q=>c a b _ i g j x y v u Q l n o q<|hs _ _
def oQ(K:W.Frag):R2:=λx y H Q=>∃ p xs i v,x=.ref p/\y=.int i/\SqL K H p xs/\J6 xs i=some v/\Q v H
def oR(K:W.Frag):R2:=λx y H Q=>∃ p xs i v,x=.ref p/\y=.int i/\SqT K H p xs/\J6 xs i=some v/\Q v H
def oU:R2:=λx y H Q=>∃ z i c,x=.str z/\y=.int i/\z.length<=sizeLine/\J6 z.cps.toList i=some c/\Q (.str {#[c]}) H
def Xl:IxR X (oQ X.K):=by
 intro value slice E s n H x y v u Q I o A h hs;revert h;apply u4;intro p xs i z [rfl,rfl,B,he,q];subst o;let[D,r,c,hz]:=I.list B;let[j,h1,h2,h3,h4,h5]:=W1 he;let[t,rfl]:=A;let[w,g,d]:=r.get h2
 have l:=r.length
 have J:=O3
 have fin:EP X _ n Q w s:=x2 z H ⟨I,d,q⟩;by_cases h0:0<=i
 have e:i.toNat=j:=by
  rw[Ik h0 h5]at h1;exact ι h1
 exact item_listR c.isList h0 (by lia) (by rw[e];simpa using g) fin hs
 have e:(i+D.toArray.size).toNat=j:=by
  rw[Ee (by omega) h4]at h1;rw[aw,<-l];exact ι h1
 exact yr  c.isList.typeIs Ef.lookup
  (wpAny_getItem_list_neg  c.isList (by omega) (by rw[aw]<;>exact l ▸ h4) (by lia) (by rw[e];simpa using g) ⟨rfl,fin⟩) hs
def Xm:IxR X (oR X.K):=by
 intro value slice o s A H x y v u Q I e g h hs;revert h;apply u4;intro p xs i z [rfl,rfl,l,he,q];subst e;let[B,r,d,hz]:=I.tuple l;let[j,h1,h2,h3,h4,h5]:=W1 he;let[t,rfl]:=g;let[w,n,c]:=r.get h2
 have D:=O3;exact yr  d.typeIs jq.lookup
  (getItem_tuple   d (by lia) (by lia) (by rw[aw,<-r.length];exact h1) (by simpa using n) {rfl,(x2 z H ⟨I,c,q⟩)}) hs
def Xp:IxR X oU:=by
 intro value slice l s n H x y v u Q I d e h hs;revert h;apply u3;intro z i c [rfl,rfl,hz,he,q];let[t,rfl]:=d;let[t',rfl]:=e;let[j,h1,h2,h3,h4,h5]:=W1 he
 have g:z.cps.toList.length=z.length:=by simp[yt]
 rw[g]at h1 h4 h5
 have o:=O3;exact tail_any (my s z t) slot_str_getitem.lookup (getItem_str  (by
  rw[(decide_eq_false (by omega)),(decide_eq_false (by omega)),n_]) (by rw[h1];simpa using h2) (x2 (.str _) H {I.tok _,⟨_,rfl⟩,q})) hs
def oV(K:W.Frag):R2:=λx y H Q=>oQ K x y H Q\/oR K x y H Q\/oU x y H Q
def Xq:IxR X (oV X.K):=Xl.or<|Xm.or Xp
def Xv(c:uD)(n j:Nat)(u:Value):gb (·.setIfInBounds j u) { cls:=.type "list",data:=.seq c.toArray n }={ cls:=.type "list",data:=.seq (c.set j u).toArray n }:=by
 simp[gb]
def Inv.lst{d:yA}{g:St}{H:Hp}{s:π}{p:Addr}{xs:cF}(I:Inv X d g H s)(h:H p=some (.lst xs)) :
  ∃ (c:uD) (n:Nat),Vals xs c/\s.heap.get? p=some { cls:=.type "list",data:=.seq c.toArray n }/\xs.length<=sizeLine:=by
 let[z,c,n,r,e]:=I.hok p _ h;exact x2 _ n ⟨r,e,z⟩
def Inv.lstUpd{s:π}{xs ys:cF}{d c:uD}{f:Obj->Obj}(I:Inv X i j H s)(h:H p=some (.lst xs))
  (l:s.heap.get? p=some { cls:=.type "list",data:=.seq d.toArray n }) (hf:f { cls:=.type "list",data:=.seq d.toArray n }={ cls:=.type "list",data:=.seq c.toArray g }) (r:Vals ys c) (hz:ys.length<=sizeLine) (t:Nat) :
  Inv X i j (upd H p<|.lst ys) { s with heap:=s.heap.update p f,toks:=t }:=by
 have e:(s.heap.update p f).get? p=some { cls:=.type "list",data:=.seq c.toArray g }:=by
  rw[cy f l (by rw[hf]<;>rfl),hf]
 exact I.write   (by rw[h];trivial) (.inl rfl) (λb u o q=>(cm _ _<|fi o).trans q) ⟨_,e⟩ ({hz,x2 _ g ⟨r,e⟩})
def oX:V->V->V->Hp->(Hp->Prop)->Prop:=λo i v H Q=>∃ p xs k j,o=.ref p/\i=.int k/\H p=some (.lst xs)/\HG xs.length k=some j/\Q (upd H p<|.lst<|xs.set j v)
def Xw:WP X oX:=by
 intro D s w H o i v E iv u Q I x y z h;revert h;apply u4;intro p xs k j [rfl,rfl,g,A,q];subst x;let[t,rfl]:=y;refine u2 ?_<|I.lst g;intro B n [r,c,hz];let[h1,h2,h3,h4]:=oN A
 have d:=r.length
 have J:=O3
 have l:Inv X _ w _ _ :=
  I.lstUpd g c (Xv _ n j u) (r.set z j) (by rw[kj];exact hz) s.toks
 by_cases h0:0<=k
 have e:k.toNat=j:=by
  rw[Ik h0 h4]at h1;exact ι h1
 exact W.ki_setAt c h0 (by lia) (by rw[aw,<-d];exact h4) (by rw[e];exact⟨_,l,q⟩)
 have e:(k+B.toArray.size).toNat=j:=by
  rw[Ee (by omega) h3]at h1;rw[aw,<-d];exact ι h1
 exact W.ki_setBack c (by omega) (by rw[aw,<-d];exact h3) (by lia) (by rw[e];exact⟨_,l,q⟩)
def oY(i:Int)(n d:Nat):max 0 (min (if i<0 then i+n else i) n)=((HT.sIx n d (some i):Nat):Int):=by
 rw[<-HT.clip_eq i n d];by_cases h:i<0;rw[if_pos h,if_pos h,Iq (Int.add_le_of_le_sub_right (by rw[Int.sub_self];exact Du h)),Int.max_comm];rw[if_neg h,if_neg h,Int.max_eq_right];exact Int.le_min.mpr {wo.mp h,jx _}
def Xx(lo c:Option Int)(n:Nat):(Il lo c none n).1=((HT.sIx n 0 lo:Nat):Int)/\(Il lo c none n).2.1=((HT.sIx n n c:Nat):Int)/\(Il lo c none n).2.2=1:=by
 refine{?_,?_,rfl};cases lo with
 |none=>rfl
 |some i=>exact oY i n 0
 cases c with
 |none=>rfl
 |some i=>exact oY i n n
def Xy(c:uD)(lo d:Option Int):slicePick c.toArray lo d none=((c.drop<|HT.sIx c.length 0 lo).take (HT.sIx c.length c.length d-HT.sIx c.length 0 lo)).toArray:=by
 let[h1,h2,h3]:=Xx lo d _;unfold slicePick;rw[h1,h2,h3];simp only[sliceRange_one,pick_run]<;>rfl
def oZ(K:W.Frag):V->Option Int->Option Int->Hp->VK->Prop:=λx lo c H Q=>∃ a xs,x=.ref a/\SqL K H a xs/\∀ p,H p=none->Q (.ref p) (upd H p<|.lst<|GJ xs lo c)
def Xz:SlR X (oZ X.K):=by
 intro n s p H x v u w lo e y Q I g hs i j h;revert h;apply u2;intro a xs [rfl,l,q];subst g;let[z,r,c,hz]:=I.list l
 have d:=r.length;refine x2 _ _ {Ef.lookup,c.isList.typeIs,(wpAny_getItem_list_slice c.isList hs i j .none (by simp) ?_ (by rw[aw]<;>exact d ▸ hz))};rw[Xy,<-d];exact x2 (.ref _) _ {I.laid  (o:=.lst _) (λb ob q=>ν _ q) (ο _) ({ψ (oJ xs lo e) hz,x2 _ 0 {(r.drop _).take _,ae _ rfl}}),rfl,q _<|I.hok.fresh<|ο _}
def JA:V->Bool
 |.non=>true
 |.bl _=>true
 |.int _=>true
 |.str _=>true
 |_=>false
def J8:V->V->Bool
 |.non,.non=>true
 |.bl a,.bl b=>a==b
 |.bl a,.int b=>(if a then 1 else 0)==b
 |.int a,.bl b=>a ==(if b then 1 else 0)
 |.int a,.int b=>a==b
 |.str a,.str b=>a==b
 |_,_=>false
def Yb(d:RelV y u)(c:RelV x v)(g:JA y=true)(e:JA x=true):M_ A s u v (J8 y x):=by
 cases y with
 |non =>
  cases d;cases x with
  |non=>subst c;exact SeqAt.EqAt.same _
  |bl b=>subst c;exact SeqAt.EqAt.none_bool b
  |int b=>let[t,rfl]:=c;exact SeqAt.EqAt.none_int b t
  |str b=>let[t,rfl]:=c;exact SeqAt.EqAt.none_str b t
  |_=>exact absurd (e) ax
 |bl a =>
  subst d;cases x with
  |non=>subst c;exact SeqAt.EqAt.bool_none a
  |bl b=>subst c;exact SeqAt.EqAt.bool_bool a b
  |int b=>let[t,rfl]:=c;exact SeqAt.EqAt.bool_int a b t
  |str b=>let[t,rfl]:=c;exact SeqAt.EqAt.bool_str a b t
  |_=>exact absurd (show false=true from e) ax
 |int a =>
  let[t',rfl]:=d;cases x with
  |non=>cases c;exact SeqAt.EqAt.int_none a t'
  |bl b=>cases c;exact SeqAt.EqAt.int_bool a t' b
  |int b=>let[t,rfl]:=c;exact SeqAt.EqAt.int_int a t' b t
  |str b=>let[t,rfl]:=c;exact Cr a t' b t
  |_=>exact absurd (show false=true from e) ax
 |str a =>
  let[t',rfl]:=d;cases x with
  |non=>cases c;exact SeqAt.EqAt.str_none a t'
  |bl b=>cases c;exact SeqAt.EqAt.str_bool a t' b
  |int b=>let[t,rfl]:=c;exact Cs a t' b t
  |str b=>let[t,rfl]:=c;exact SeqAt.EqAt.str_str a t' b t
  |_=>exact absurd (show false=true from e) ax
 |_=>exact absurd (show false=true from g) ax
def O9(x:V)(u:Value):Bool:=match u with
 |.none=>J8 .non x
 |.bool b=>J8 (.bl b) x
 |.int i _=>J8 (.int i) x
 |.str z _=>J8 (.str z) x
 |_=>false
def o0(r:RelV y u)(f:JA y=true):O9 x u=J8 y x:=by
 cases y with
 |non=>subst r;rfl
 |bl b=>subst r;rfl
 |int i=>let[t,rfl]:=r;rfl
 |str z=>let[t,rfl]:=r;rfl
 |_=>exact absurd (f) ax
def o5:∀ {xs:cF} {us:uD},Vals xs us->xs.all JA=true->us.any (O9 x)=xs.any λy=>J8 y x:=λh f=>by
 induction h with
 |nil=>rfl
 |cons r t c =>
  rw[ve,bx]at f;rw[sj,sj,o0 r f.1,c f.2]
theorem W2(d:RelV x v)(e:JA x=true):∀ {xs:cF} {us:uD},Vals xs us->xs.all JA=true->∀ u∈us,M_ A s u v (O9 x u)
 |_,_,.nil,_=>λu c=>by cases c
 |y::xs,u::us,.cons r t,f=>λg c=>by
  rw[ve,bx]at f;let rfl||c:=aj.mp c
  rw[o0 r f.1];exact Yb r d f.1 e;exact W2 d e t f.2 g c
def NJ(x:V)(xs:cF):Bool:=xs.any λy=>J8 y x
def o6(K:W.Frag)(neg:Bool):R2:=λx y H Q=>∃ p xs,y=.ref p/\(SqL K H p xs\/SqT K H p xs)/\JA x=true/\xs.all JA=true/\Q (.bl<|if neg then !NJ x xs else NJ x xs) H
def Yc:CC X (dz .In) (o6 X.K false):=by
 intro n s o H x y v u Q I i l h;revert h;apply u2;intro p xs [rfl,c,j,fs,q];subst l;let c||c:=c
 let[d,r,e,hz]:=I.list c;refine SeqAt.in_listAt _ e.isList (λw g=>W2 i j r fs w (by simpa using g)) (x2 (.bl _) H {I,rfl,?_});rw[show d.toArray.any _=d.any (O9 x) by simp,o5 r fs];exact q;let[d,r,e,hz]:=I.tuple c;refine He _ e (λw g=>W2 i j r fs w (by simpa using g)) (x2 (.bl _) H {I,rfl,?_});rw[show d.toArray.any _=d.any (O9 x) by simp,o5 r fs];exact q
def Yd:EG X (.type "list") (λxs H Q=>∃ p ys,xs=[.ref p]/\(SqL X.K H p ys\/SqT X.K H p ys)/\∀ l,H l=none->Q (.ref l) (upd H l<|.lst ys)):=by
 intro A s y H xs us Q I r h;revert h;apply u2;intro p ys [rfl,g,q]
 have fin:∀ (j:List _),Vals ys _->ys.length<=sizeLine->∀ (h':Heap) (d:Nat),(∀ b x,s.heap.get? b=some x->h'.get? b=some x) ->
   h'.get? _=some _->EP X _ y Q _ { s with heap:=h' }:=λj c hz h' d i e =>
  {.ref _,_,I.laid  i (ο _) (show ObjOk _ _ _ h' _ (.lst ys)from{hz,x2 j d ⟨c,e⟩}),rfl,q _<|I.hok.fresh<|ο _}
 let[u,rfl,rfl]:=GI r;let g||g:=g
 let[j,c,z,hz]:=I.list g;let[o,v,w,n,hd]:=z.isList;exact call_list_seq p (.inl rfl) v w hd (λh' d i e=>fin _ c hz h' d i e) (by simp only[aw]<;>exact c.length ▸ hz);let[j,c,[o,v,w,n,hd],hz]:=I.tuple g;exact call_list_seq p (.inr rfl) v w hd (λh' d i e=>fin _ c hz h' d i e) (by simp only[aw]<;>exact c.length ▸ hz)
def Yg:EG X (.type "tuple") (λxs H Q=>∃ p ys,xs=[.ref p]/\((SqL X.K H p ys/\∀ l,H l=none->Q (.ref l) (upd H l<|.tup ys))\/(SqT X.K H p ys/\Q (.ref p) H))):=by
 intro x s i H xs us Q I r h;revert h;apply u2;intro p ys [rfl,h];let[u,rfl,rfl]:=GI r;let[c,q]||[c,q]:=h
 let[n,d,g,hz]:=I.list c;refine call_tuple_list g.isList (λh' v=>?_) (by simp only[aw]<;>exact d.length ▸ hz)
 have j:Inv X _ i H { s with heap:=h' }:=I.kept  v
 have w:Inv X _ i (upd H _<|.tup ys) { s with heap:=h'.push _ } :=
  j.laid  (λb o e=>ν _ e) (ο _) ({hz,_,d,Ln _ _})
 exact x2 (.ref _) _ {w,rfl,q _<|j.hok.fresh<|ο _};let[n,d,g,hz]:=I.tuple c;exact call_tuple_same g<|x2 (.ref p) H ⟨I,rfl,q⟩
def PD(K:W.Frag)(T:String)(x:V)(H:Hp):Prop:=match x with
 |.str _=>T="str"
 |.int _=>T="int"
 |.ref p=>(T="list"/\∃ xs,SqL K H p xs)\/(T="tuple"/\∃ o,K.lookup p=some o/\o.cls=.type "tuple"/\o.dict=none) ∨
   (T="dict"/\((∃ kvs,H p=some (.dK kvs))\/∃ kvs,H p=some (.dT kvs)))\/(T="set"/\∃ S n,H p=some (.set S n))
 |_=>False
def o7(I:Inv X u w H s)(r:RelV x v)(ty:PD X.K T x H) :
  s.TypeIs v T/\∀ a,v=.ref a->∃ ob,s.heap.get? a=some ob/\ob.dict=none:=by
 cases x with
 |str z =>
  let[t,rfl]:=r;cases (ty);exact{my s z t,λ_ e=>nomatch e}
 |int i =>
  let[t,rfl]:=r;cases (ty);exact{yu s i t,λ_ e=>nomatch e}
 |ref p =>
  subst r;let[rfl,xs,l]||[rfl,o,d,q,hd]||[rfl,d]||[rfl,S,n,d]:=ty
  let[y,_,j,_]:=I.list l;refine{j.isList.typeIs,λa e=>?_};cases e;revert j;apply u2;intro o n [e,c,hd,_];exact⟨o,e,hd⟩;refine{{o,I.kIn p o d,q},λa e=>?_};cases e;exact{o,I.kIn _ o d,hd}
  have z:∃ o,s.heap.get? p=some o/\o.ExactDict:=by
   let[kvs,d]||[kvs,d]:=d
   let[_,_,_,_,o,_,_,e,ex,_]:=I.hok p _ d;exact⟨o,e,ex⟩;let[_,_,_,_,o,_,_,e,ex,_]:=I.hok p _ d;exact⟨o,e,ex⟩
  let[o,e,ex]:=z;refine{⟨o,e,ex.1⟩,λa g=>?_};cases g;exact⟨o,e,ex.2.1⟩;refine u4 ?_<|I.hok p _ d;intro o _ _ _ [e,ex,_];refine{⟨o,e,ex.1⟩,λa g=>?_};cases g;exact⟨o,e,ex.2.1⟩
 |_=>exact jy ty
def W3(K:W.Frag)(T:String)(r:V->cF->Hp->VK->Prop)(to:TE):TE:=λd H Q=>to d H λx c=>PD K T x c/\r x [] c Q
def DZ(K:W.Frag)(T:String)(r:V->cF->Hp->VK->Prop)(to:TE)(t:TA):TE:=λc H Q=>to c H λx d=>PD K T x d/\t c d λxs e=>r x xs e Q
variable{o e:Expr}{es:xD}{to:TE}{t:TA}{name:Str}{CW DK:Pos}{T id:String}{r:V->cF->Hp->VK->Prop}
def Yh(q:PlainAttrs T)(slot:Slot T name id)(g:typeOf (.builtin id)=pure (.type "method_descriptor"))(u:MG X id r)(w:PE X o to)
  (c:si o name X.env (eval o X.env)=eval o X.env:=by rfl) (d:(CW.endLine==DK.line)=true:=by rfl):PE X (.Call (.Attribute o name CW) [] [] DK) (W3 X.K T r to):=by
 refine λj s l H Q I h=>wpAny_Call_method0_late c d<|AO (w j s l H _ I h) λv y i=>?_;let[x,z,n,p,ty,q1]:=i;let[h1,h2]:=o7 n p ty;exact x2 T id {q,slot,g,h1,h2,mz rfl<|PySem.evalArgs_none<|u j y l z x [] v [] Q n p .nil q1}
def MH(w:PlainAttrs T)(slot:Slot T name id)(j:typeOf (.builtin id)=pure (.type "method_descriptor"))(y:MG X id r)(z:PE X o to)(A:PA X (e::es) t)
  (d:si o name X.env (eval o X.env)=eval o X.env:=by rfl)
  (i:((jj DK<|az (e::es) X.env).all (λx=> !x.1)&&(vj DK<|mo [] X.env).all (λx=>x.1.isSome)
   && decide ((e::es).length+([]:List Be).length+(if([]:List Be).isEmpty then 0 else 1)<30))=true:=by rfl)
  (g:(CW.endLine==DK.line)=true:=by rfl) (hs:az (e::es) X.env=(false,eval e X.env)::az es X.env:=by rfl) (c:(jj DK<|az es X.env).any (·.1)=false:=by rfl) :
  PE X (.Call (.Attribute o name CW) (e::es) [] DK) (DZ X.K T r to t):=by
 refine λN s l H Q I h=>wpAny_Call_method_late d i g rfl<|AO (z _ s l H _ I h) λv B n=>?_;let[x,D,p,q,ty,q1]:=n;let[h1,h2]:=o7 p q ty
 have u:=A DK _ B l D _ p q1;refine x2 T id {w,slot,j,h1,h2,?_};rw[hs]at u ⊢;exact mz (by show(false||(jj _ _).any _)=false;rw[c]<;>rfl) (pd (AO u (by intro us E [vs,J,L,M,q2];exact y _ E l J x vs v us Q L q M q2)))
end
def SV(X:Cx)(id:String)(r:V->cF->Hp->VK->Prop):Prop :=
 ∀ (a:yA) (s:π) (b:St) (H:Hp) (x:V) (xs:cF) (v:Value) (us:uD) (Q:VK),Inv X a b H s->RelV x v->Vals xs us->r x xs H Q ->
  wpAny (model X.prog X.w) X.A (call (.builtin id) (v::us)) (EP X a b Q) X.xe s
def Vals.one:∀ {x:V} {us:uD},Vals [x] us->∃ u,us=[u]/\RelV x u:=λh=>by
 let[u,m,rfl,r,h]:=SE h;rw[SF h];exact⟨_,rfl,r⟩
theorem Vals.eraseIdx:∀ {xs:cF} {us:uD} (i:Nat),Vals xs us->Vals (xs.eraseIdx i) (us.eraseIdx i)
 |_,_,_,.nil=>.nil
 |_,_,0,.cons _ t=>t
 |_,_,i+1,.cons r t=>.cons r<|Vals.eraseIdx i t
theorem Vals.rep(h:Vals xs us):∀ k:Nat,Vals (bd k xs).flatten (bd k us).flatten
 |0=>.nil
 |k+1=>Vals.append h<|Vals.rep h k
theorem SW(b:uD):∀ (k:Nat) (a:uD),
  yv (λc x2=>c++x2) a.toArray (bd k b.toArray)=(a++(bd k b).flatten).toArray
 |0,a=>by simp
 |k+1,a=>by
  have e:a.toArray++b.toArray=(a++b).toArray:=by simp
  have d:(a++b)++(bd k b).flatten=a++(bd (k+1) b).flatten:=by
   rw[l_,ir,dw]
  rw[<-d,<-SW _ k _,<-e,l_,gg]
section
variable{X:Cx}{AA:yA}{σ:St}{H:Hp}{s:π}{l b:Addr}{xs ys zs:cF}
def Inv.lset{c a:uD}{n:Nat}{f:Array Value->Array Value}{t':Nat}(I:Inv X AA σ H s)(d:H l=some (.lst xs))
  (e:s.heap.get? l=some { cls:=.type "list",data:=.seq c.toArray n }) (hf:f c.toArray=a.toArray) (g:Vals ys a) (hz:ys.length<=sizeLine) :
  Inv X AA σ (upd H l<|.lst ys) { s with heap:=s.heap.update l<|gb f,toks:=t' }:=by
 have q:=PySem.IsL.update e f;rw[hf]at q;exact I.write   (by rw[d];exact trivial) (.inl rfl) (λo u i j=>(cm _ _<|fi i).trans j) ⟨_,q⟩ ({hz,x2 _ _ ⟨g,q⟩})
def Inv.lnew(I:Inv X AA σ H s)(a:Vals ys c)(hz:ys.length<=sizeLine) :
  Inv X AA σ (upd H s.heap.objs.size<|.lst ys) { s with heap:=s.heap.push { cls:=.type "list",data:=.seq c.toArray },toks:=t' } :=
 I.laid (λz z q=>ν _ q) (ο _) {hz,x2 _ 0 {a,ae _ rfl}}
def Inv.fresh(I:Inv X AA σ H s):H s.heap.objs.size=none:=I.hok.fresh<|ο _
def Inv.lstM(I:Inv X AA σ H s)(c:H l=some (.lst xs)):xs.length<=sizeLine/\∃ (a:uD) (n:Nat),Vals xs a/\xs.length=a.length/\s.heap.get? l=some { cls:=.type "list",data:=.seq a.toArray n }:=by
 let[z,a,n,r,e]:=I.hok l _ c;exact{z,x2 _ n ⟨r,r.length,e⟩}
def o8{n:Nat}(h:n<=sizeLine):li n=false:=decide_eq_false<|Je.mpr h
end
section
variable{X:Cx}
def o9:V->cF->Hp->VK->Prop:=λx vs H Q=>∃ l xs y,x=.ref l/\vs=[y]/\H l=some (.lst xs)/\xs.length<sizeLine/\Q .non (upd H l<|.lst<|xs++[y])
def Yj:SV X "list.append" o9:=by
 intro i s j H x vs v us Q I b c h;revert h;apply u3;intro l xs y [rfl,rfl,a,hz,q];subst b;let[u,rfl,d]:=c.one;let[z,o,n,r,g,e]:=I.lstM a;refine iu F.slot_list_append ⟨_,e,rfl⟩ F.entry_list_append (F.args_list_append_2 _ _) (PySem.list_append l _ n u<|oB (cf (ba g.symm) hz) rfl) {e,(x2 (.non) _ {I.lset  a e (by simp) (r.append<|.cons d .nil) ?_,rfl,q})};rw[ai];exact hz
def W8:R2:=λx y H Q=>∃ l b xs a,x=.ref l/\y=.ref b/\H l=some (.lst xs)/\H b=some (.lst a)/\xs.length+a.length<=sizeLine/\∀ p,H p=none->Q (.ref p) (upd H p<|.lst<|xs++a)
def Yk:CC X (jd .Add) W8:=by
 intro D s E H x y v u Q I d g h;revert h;apply u4;intro l b xs J [rfl,rfl,i,j,hz,q];subst d;let[z,a,n,r,o,e]:=I.lstM i;subst g;let[L,c,M,p,w,A]:=I.lstM j
 have B:a.toArray++c.toArray=(a++c).toArray:=by simp
 refine PySem.P.add_list e A ?_ (by rw[aw,aw];exact o ▸ w ▸ hz);rw[B];exact x2 (.ref _) _ {I.lnew  (r.append p) (by rw[ai];exact hz),rfl,q _ I.fresh}
def W9:R2:=λx y H Q=>∃ l k xs,x=.ref l/\y=.int k/\H l=some (.lst xs)/\ -(2^63)<=k/\k<2^63/\xs.length*k.toNat<=sizeLine /\
 ∀ p,H p=none->Q (.ref p) (upd H p<|.lst (bd k.toNat xs).flatten)
def pA{α :Type}(xs:List α)(k:Nat):(bd k xs).flatten.length=k*xs.length:=by
 induction k with
 |zero=>simp
 |succ k a=>rw[l_,ir,ai,a,uf,ug]
def Yl:CC X (jd .Mult) W9:=by
 intro J s L H x y v u Q I j o h;revert h;apply u3;intro l k xs [rfl,rfl,p,h1,h2,hz,q];subst j;let[t,rfl]:=o;let[z,b,n,r,w,e]:=I.lstM p
 have A:b.toArray.size*k.toNat<=sizeLine:=by rw[aw,<-w];exact hz
 have d:¬ b.toArray.size*k.toNat >(2^63-1)/8:=by
  have:sizeLine<=(2^63-1)/8:=by decide
  lia
 have g:¬ (!Builtin.List.listFitsIndex k)=true:=by
  rw[fitsIndex_both h1 h2];exact ax
 have c:¬ li (b.toArray.size*k.toNat)=true:=by
  rw[o8 A];exact ax
 have i:yv (λB x2=>B++x2) #[] (bd (if b.toArray.isEmpty=true then 0 else k.toNat) b.toArray)=(bd k.toNat b).flatten.toArray:=by
  have D:=λm=>by
   have:=SW b m [];rw[ko]at this;exact this
  rw[D];cases b with
  |nil=>simp
  |cons a M=>rw[if_neg (by simp)]
 refine xb   (by decide) ⟨_,e,rfl⟩ (λE=>yu E k t) noFill_list_mul F.fills_int_mul F.slot_int_rmul repeat_list F.slot_int_index.lookup
  (iu F.slot_int_rmul (yu s k t) F.entry_int_rmul (F.args_int_rmul_2 _ _) (int___rmul___int_list k t l _ n)
   {e,rfl,⟨_,e,rfl⟩,iu F.slot_list_mul ⟨_,e,rfl⟩ F.entry_list_mul (F.args_list_mul_2 _ _) (AutoListH.list___mul___list_int_3 l _ n k t g d c) {e,?_}})
 rw[i];exact x2 (.ref _) _ {I.lnew  (r.rep _) (by rw[pA,dq];exact hz),rfl,q _ I.fresh}
end
section
variable{prog:bw}{w:World}{A:dr}{E:yB}{s:π}
set_option maxRecDepth 100000 in
end
section
variable{X:Cx}
end
section
variable{κ :Type}[DecidableEq κ]
def BE(kvs:List (κ × V))(k: κ):Option V:=(kvs.find? λa=>decide<|a.1=k).map (·.2)
def CD(kvs:List (κ × V))(k: κ)(v:V):List (κ × V) :=
 if(kvs.any λa=>decide<|a.1=k)=true then kvs.map (λa=>if a.1=k then(a.1,v)else a)else kvs++[(k,v)]
def XA:BE ([]:List (κ × V)) k=none:=rfl
def HH{p: κ × V}{r:List (κ × V)}{k: κ}(e:p.1=k):BE (p::r) k=some p.2:=by simp[BE,e]
def HI{p: κ × V}{r:List (κ × V)}{k: κ}(e:¬ p.1=k):BE (p::r) k=BE r k:=by simp[BE,e]
theorem K2(k: κ):∀ kvs:List (κ × V),(kvs.any λa=>decide<|a.1=k)=(BE kvs k).isSome
 | []=>rfl
 |p::r=>by
  rw[sj];by_cases e:p.1=k;simp only[HH e,decide_eq_true e,pz,Option.isSome_some];rw[HI e,decide_eq_false e];exact K2 k r
theorem pB(k j: κ)(y:V):∀ kvs:List (κ × V),BE (kvs.map λa=>if a.1=k then(a.1,y)else a) j=(BE kvs j).map λx=>if j=k then y else x
 | []=>rfl
 |p::r=>by
  have b:=pB k j y r;rw[ci];by_cases h:p.1=k;rw[if_pos h];by_cases e:p.1=j;rw[HH (p:=(p.1,y)) e,HH e,sy,if_pos<|e.symm.trans h];rw[HI (p:=(p.1,y)) e,HI e,b];rw[if_neg h];by_cases e:p.1=j;rw[HH  e,HH e,sy,if_neg<|λz=>h<|e.trans z];rw[HI  e,HI e,b]
theorem pC(k j: κ)(y:V):∀ kvs:List (κ × V),BE kvs k=none->BE (kvs++[(k,y)]) j=if j=k then some y else BE kvs j
 | [],_=>by
  by_cases e:k=j;rw[if_pos e.symm];exact HH  e;rw[if_neg (λz=>e z.symm)];exact HI  e
 |p::r,a=>by
  have b:¬ p.1=k:=λz=>by rw[HH z]at a;cases a
  rw[p_];rw[HI b]at a;by_cases e:p.1=j;rw[HH e,HH e,if_neg<|λz=>b<|e.trans z];rw[HI e,HI e,(pC k j y r a)]
def HJ(kvs:List (κ × V))(k j: κ)(y:V):BE (CD kvs k y) j=if j=k then some y else BE kvs j:=by
 unfold CD;by_cases a:(kvs.any λb=>decide<|b.1=k)=true;rw[if_pos a,pB];rw[K2]at a;by_cases e:j=k;let[x,c]:=dt.mp a;rw[if_pos e,e,c,sy,if_pos rfl];rw[if_neg e];cases BE _ j with
 |none=>rfl
 |some x=>rw[sy,if_neg e]
 rw[if_neg a];refine pC k j y _ ?_;rw[K2]at a;cases q:BE _ k with
 |none=>rfl
 |some x=>rw[q]at a;exact(a rfl).elim
def HK(kvs:List (κ × V))(k: κ)(v:V):(CD kvs k v).length<=kvs.length+1:=by
 unfold CD;split;rw[ε];exact jv _;rw[ai,b_];exact fe _
def XB{kvs:List (κ × V)}{k: κ}(v:V)(h:BE kvs k=none):CD kvs k v=kvs++[(k,v)]:=by
 unfold CD;rw[K2,h];exact if_neg (by decide)
def RelO.isSome_eq(r:RelO o u):o.isSome=u.isSome:=by
 cases o with
 |none=>cases u with
  |none=>rfl
  |some _=>exact(r).elim
 |some _=>cases u with
  |none=>exact(r).elim
  |some _=>rfl
theorem RelO.getD(r:RelO o u)(a:RelV d b):RelV (o.getD d) (u.getD b):=by
 cases o with
 |none=>cases u with
  |none=>exact a
  |some _=>exact(r).elim
 |some _=>cases u with
  |none=>exact(r).elim
  |some _=>exact r
def KV.val{kvs:List (κ × V)}{vs:List (κ × Value)}(r:KV kvs vs)(k: κ):RelO (BE kvs k) (Ei vs k):=by
 induction r with
 |nil=>exact tz
 |@cons p q ps a h t c =>
  let[h1,h2]:=h;by_cases e:p.1=k
  have b:Ei (q::a) k=some q.2:=by simp[Ei,(h1.symm.trans e)]
  rw[HH e,b];exact h2
  have d:¬ q.1=k:=λz=>e<|h1.trans z
  have b:Ei (q::a) k=Ei a k:=by simp[Ei,d]
  rw[HI e,b];exact c
theorem KV.any{kvs:List (κ × V)}{vs:List (κ × Value)}(r:KV kvs vs)(k: κ):(kvs.any λa=>decide<|a.1=k)=vs.any λa=>decide (a.1=k):=by
 induction r with
 |nil=>rfl
 |cons h t b=>rw[sj,sj,b,h.1]
def KV.repl(r:KV kvs vs)(k: κ)(b:RelV y u) :
  KV (kvs.map λa=>if a.1=k then(a.1,y)else a) (vs.map λa=>if a.1=k then(a.1,u)else a):=by
 induction r with
 |nil=>exact .nil
 |@cons p q ps d h t c =>
  rw[ci,ci];refine .cons ?_ c;let[h1,h2]:=h;by_cases e:p.1=k;rw[if_pos e,if_pos<|h1.symm.trans e];exact⟨h1,b⟩;rw[if_neg e,if_neg<|λz=>e<|h1.trans z];exact⟨h1,h2⟩
def KV.put(r:KV kvs vs)(k: κ)(a:RelV y u):KV (CD kvs k y) (stored vs k u):=by
 unfold CD stored;rw[r.any k];by_cases e:(vs.any λb=>decide<|b.1=k)=true;rw[if_pos e,if_pos e];exact r.repl k a;rw[if_neg e,if_neg e];exact Paired.snoc r ⟨rfl,a⟩
def KV.length{kvs:List (κ × V)}{vs:List (κ × Value)}(r:KV kvs vs):kvs.length=vs.length:=Paired.length r
end
def MI(r:RelV (kV k) u):(DL P w).is k u=true:=by
 cases k with
 |inl i=>let[t,rfl]:=(r);exact Qz P w i t
 |inr x=>let[t,rfl]:=(r);exact Rb P w x t
theorem pD:∀ {a:List AM} {us:uD},Vals (a.map kV) us->ItemsAre (DL P w) a us
 | [],_,r=>by cases r;exact .nil
 |k::a,_,r=>by
  cases r with
  |cons h t=>exact .cons (MI h) (pD t)
abbrev KT(H:Hp):vA->bA->Prop:=Paired λp q=>p.1=q.1/\H q.2.1=some (.tup<|p.1.map kV)/\RelV p.2 q.2.2
def KT.val{H:Hp}{kvs:vA}{xs:bA}(r:KT H kvs xs)(k:List AM):RelO (BE kvs k) ((atKey xs k).map (·.2)):=by
 induction r with
 |nil=>exact tz
 |@cons p q ps a h t c =>
  let[h1,y,h2]:=h;by_cases e:p.1=k
  have b:atKey (q::a) k=some q.2:=by simp[atKey,(h1.symm.trans e)]
  rw[HH e,b];exact h2
  have d:¬ q.1=k:=λz=>e<|h1.trans z
  have b:atKey (q::a) k=atKey a k:=by simp[atKey,d]
  rw[HI e,b];exact c
def KT.repl(r:KT H kvs xs)(k:List AM)(b:RelV y u) :
  KT H (kvs.map λa=>if a.1=k then(a.1,y)else a) (xs.map<|putAt k u):=by
 induction r with
 |nil=>exact .nil
 |@cons p q ps d h t c =>
  rw[ci];let[h1,h2,h3]:=h;refine .cons ?_ c;unfold putAt;by_cases e:p.1=k;rw[if_pos e,if_pos<|h1.symm.trans e];exact⟨h1,h2,b⟩;rw[if_neg e,if_neg<|λz=>e<|h1.trans z];exact⟨h1,h2,h3⟩
def KT.put(r:KT H kvs xs)(k:List AM)(c:H b=some (.tup<|k.map kV))(a:RelV y u) :
  KT H (CD kvs k y) (xn xs k b u):=by
 have e:(kvs.any λd=>decide<|d.1=k)=(atKey xs k).isSome:=by
  rw[K2,(r.val k).isSome_eq,uh]
 unfold CD xn;rw[e];by_cases q:(atKey xs k).isSome=true;rw[if_pos q,if_pos q];exact r.repl k a;rw[if_neg q,if_neg q];exact Paired.snoc r ⟨rfl,c,a⟩
def KT.keeps(r:KT H kvs xs)(a:∀ b ys,H b=some (.tup ys)->c b=some (.tup ys)):KT c kvs xs :=
 Paired.mapP r λy y z=>{z.1,a _ _ z.2.1,z.2.2}
section
variable{P:bw}{w:World}{H:Hp}{h:Heap}{a:Addr}
def pE(ok:HOk P w H h)(e:Rd H a u):ObjOk P w H h a u:=e.ok ok
def J9(ok:HOk P w H h)(e:Rd H a (.dK kvs)):kvs.length<=sizeLine/\(a==f_)=false/\∃ vs,KV kvs vs/\h.DictOf (DL P w) a vs :=
 pE ok e
def PJ(ok:HOk P w H h)(e:H a=some (.dK kvs)):kvs.length<=sizeLine/\(a==f_)=false/\∃ vs,KV kvs vs/\h.DictOf (DL P w) a vs:=J9 ok<|.inl e
def K3(ok:HOk P w H h)(e:H a=some (.tup<|b.map kV)):(py<|DL P w).is h b a:=by
 let[z,c,r,o,h1,h2,n,h3]:=(ok a _ e)
 exact x3 o _ n {h1,h2,h3,pD r}
def K4(ok:HOk P w H h)(e:Rd H a (.dT kvs)):kvs.length<=sizeLine/\(a == f_)=false /\
  ∃ xs,KT H kvs xs/\h.DictOfH (py<|DL P w) a xs:=by
 let[z,y,xs,r,o,d,g,h1,h2,h3,h4,h5]:=(pE ok e)
 refine{z,y,xs,r,x3 o d g {h1,h2,h3,h4,λx b=>?_,h5}}
 have all:∀ {l:List _} {m:List _},KT H l m->∀ x∈m,(py<|DL P w).is h x.1 x.2.1:=by
  intro l m q
  induction q with
  |nil=>intro x b;exact nomatch b
  |@cons p q ps j c t i =>
   intro x b;let e||b:=aj.mp b
   subst e;exact K3 ok (by rw[<-c.1];exact c.2.1);exact i x b
 exact all r x b
def SY(ok:HOk P w H h)(e:H a=some (.dT kvs)):kvs.length<=sizeLine/\(a==f_)=false /\
  ∃ xs,KT H kvs xs/\h.DictOfH (py<|DL P w) a xs:=K4 ok<|.inl e
end
def DGet(H:Hp)(a:Addr)(y:V)(r:Option V):Prop :=
 (∃ kvs k,Rd H a (.dK kvs)/\y=kV k/\r=BE kvs k)\/∃ kvs k b,Rd H a (.dT kvs)/\y=.ref b/\H b=some (.tup<|k.map kV)/\r=BE kvs k
def DPut(H:Hp)(a:Addr)(y v:V)(c:Hp):Prop :=
 (∃ kvs k,H a=some (.dK kvs)/\y=kV k/\kvs.length<sizeLine/\c=upd H a (.dK<|CD kvs k v)) ∨
 ∃ kvs k b,H a=some (.dT kvs)/\y=.ref b/\H b=some (.tup<|k.map kV)/\kvs.length<sizeLine/\c=upd H a (.dT<|CD kvs k v)
def DGet.k{H:Hp}{a:Addr}{kvs:vC}{k:AM}(e:H a=some (.dK kvs)):DGet H a (kV k) (BE kvs k):=.inl<|x2 _ k {.inl e,rfl,rfl}
def DGet.t{H:Hp}{a b:Addr}{kvs:vA}{k:List AM}(e:H a=some (.dT kvs))(c:H b=some (.tup<|k.map kV)):DGet H a (.ref b) (BE kvs k):=.inr<|x3 _ k b {.inl e,rfl,c,rfl}
def DPut.k{H:Hp}{a:Addr}{kvs:vC}{k:AM}{v:V}(e:H a=some (.dK kvs))(b:kvs.length<sizeLine):DPut H a (kV k) v (upd H a<|.dK<|CD kvs k v):=.inl<|x2 _ k ⟨e,rfl,b,rfl⟩
def DPut.t{H:Hp}{a b:Addr}{kvs:vA}{k:List AM}{v:V}(e:H a=some (.dT kvs))(c:H b=some (.tup<|k.map kV))(d:kvs.length<sizeLine) :
  DPut H a (.ref b) v (upd H a<|.dT<|CD kvs k v):=.inr<|x3 _ k b ⟨e,rfl,c,d,rfl⟩
section
variable{X:Cx}{AA:yA}{σ:St}{H:Hp}{s:π}{a:Addr}{y v:V}{u r:Value}{o:Option V}{A:dr}{E:yB}
def Inv.big(I:Inv X AA σ H s):f_<s.heap.objs.size:=wa (by decide) ((I.mod.glob.keeps I.bk).lt)
def Ym(w:A.units+1<cLine)(I:Inv X AA σ H s)(g:DGet H a y (some v))(n:RelV y u)(h:∀ d q,Inv X AA σ H q->RelV v d->Q d q) :
  wpAny (model X.prog X.w) A (yq (.ref a) u) Q E s:=by
 let[kvs,k,e,i,l]||[kvs,k,b,e,i,x,l]:=g
 let[z,hd,vs,rel,dd]:=J9 I.hok e;let[d,j,c]:=RelO.some_of   (by rw[l];exact rel.val k);subst i;exact wpAny_getItem_of (MI n) dd.mapOf j (h d _ (I.tok _) c);subst i;let[z,hd,xs,rel,dd]:=K4 I.hok e;let[d,j,c]:=RelO.some_of   (by rw[l];exact rel.val k);cases (n);let[p,B,D]:=af.mp j;refine wpAny_getItem_heap (jg w) (K3 I.hok x) dd B ?_;rw[D];exact h d _ (I.tok _) c
def Yp(j:A.units+1<cLine)(I:Inv X AA σ H s)(g:DGet H a y o)(d:RelV y u)(h:∀ i,Inv X AA σ H i->Q (.bool o.isSome) i) :
  wpAny (model X.prog X.w) A (dz .In u<|.ref a) Q E s:=by
 let[kvs,k,e,c,l]||[kvs,k,b,e,c,n,l]:=g
 subst c;let[z,hd,vs,rel,dd]:=J9 I.hok e;refine wpAny_in_of (MI d) hd dd.mapOf ?_;rw[<-(rel.val k).isSome_eq,<-l];exact h _<|I.tok _;subst c;let[z,hd,xs,rel,dd]:=K4 I.hok e;cases (d)
 have q:=(rel.val k).isSome_eq;refine wpAny_in_heap (jg j) (K3 I.hok n) hd dd ?_;rw[uh]at q;rw[<-q,<-l];exact h _<|I.tok _
def Yq(j:A.units+1<cLine)(I:Inv X AA σ H s)(g:DGet H a y o)(d:RelV y u)(h:∀ i,Inv X AA σ H i->Q (.bool<|!o.isSome) i) :
  wpAny (model X.prog X.w) A (dz .NotIn u<|.ref a) Q E s:=by
 let[kvs,k,e,c,l]||[kvs,k,b,e,c,n,l]:=g
 subst c;let[z,hd,vs,rel,dd]:=J9 I.hok e;refine wpAny_notIn_of (MI d) hd dd.mapOf ?_;rw[<-(rel.val k).isSome_eq,<-l];exact h _<|I.tok _;subst c;let[z,hd,xs,rel,dd]:=K4 I.hok e;cases (d)
 have q:=(rel.val k).isSome_eq;refine wpAny_notIn_heap (jg j) (K3 I.hok n) hd dd ?_;rw[uh]at q;rw[<-q,<-l];exact h _<|I.tok _
def SZ(I:Inv X AA σ H s)(c:OX (H a))(hs:gk a s.heap h')(he:∃ q,h'.get? a=some q)(new:ObjOk X.prog X.w (upd H a ob) h' a ob) :
  Inv X AA σ (upd H a ob) { s with heap:=h',toks:=t' } :=
 I.write   c (.inl rfl) (λb q d z=>(hs.2 b d).trans z) he new
def pF(z:kvs.length<=sizeLine)(hd:(a==f_)=false)(rel:KV kvs vs)(dd:h'.DictOf (DL P w) a vs) :
  ObjOk P w b h' a (.dK kvs):=⟨z,hd,vs,rel,dd⟩
def Yv(J:A.units+1<cLine)(I:Inv X AA σ H s)(g:DPut H a y v L)(p:RelV y u)(w:RelV v r)(h:∀ x,Inv X AA σ L x->Q () x) :
  wpAny (model X.prog X.w) A (Me (.ref a) u r) Q E s:=by
 let[kvs,k,e,j,l,n]||[kvs,k,b,e,j,B,l,n]:=g
 let[z,hd,vs,rel,dd]:=PJ I.hok e;subst j n;exact wpAny_setItem_pairs (hsz:=(by rw[<-rel.length];exact z)) (MI p) dd λh' d hs=>h _ (SZ I (by rw[e];exact tz) hs (let ⟨q,_,_,i,_⟩:=d;⟨q,i⟩) (pF (ψ (HK _ k v) l) hd (rel.put k w) d));subst j n;let[z,hd,xs,rel,dd]:=SY I.hok e;cases (p);refine wpAny_setItem_heap (hsz:=(by rw[<-Paired.length rel];exact z)) (jg J) (K3 I.hok B) dd λh' d hs=>h _ ?_;revert d;apply u3;intro q M N [i,h2,h3,h4,_,h5];refine SZ I (by rw[e];exact tz) hs ⟨q,i⟩ {(ψ (HK _ k v) l),hd,_,(rel.put k B w).keeps λc ys D=>?_,x3 q M N ⟨i,h2,h3,h4,h5⟩};rw[AI (BI D e (λz=>nomatch z))];exact D
end
section
variable{X:Cx}{AA:yA}{σ:St}{H:Hp}{s:π}{a:Addr}{kvs:vC}{k:AM}{u:Value}{A:dr}{E:yB}
end
def pG(i:Expr):Prop:=∀ a iv,zx i false a iv=operate [a,iv] (yq a iv)
def Yw{prog:bw}{w:World}{A:dr}{E:yB}{s:π}{env:Env}{value slice:Expr}{pos:Pos}{T id:String}{Q:yB}
  (j:J_ (.type T) "__getitem__"=pure (some<|.builtin id)) (hs:pG slice)
  (h:wpAny (model prog w) A (eval value env) (λo c=>wpAny (model prog w) A (eval slice env) (λi a=>a.TypeIs o T/\wpAny (model prog w) A (yq o i) Q E a) E c) E s) :
  wpAny (model prog w) A (eval (.Subscript value slice pos) env) Q E s:=by
 refine C_<|o_ h (λo c e=>o_ e (λi a b=>?_) λz z x=>x) λz z x=>x;let[l,b]:=b
 have fin:wpAny (model prog w) A (zx slice false o i) (λr d=>wpAny (model prog w) A (letTemporaryGo value o r>>=λz=>pure r) Q E d) E a:=by
  rw[hs o i];exact wpAny_operating<|o_ b (λr d g=>δ<|wpAny_letTemporaryGo<|ξ g) λz z x=>x
 refine δ<|δ<|vp l j ?_
 first
  |exact ξ<|δ fin
  |exact δ _
  |exact δ _
def Yx(I:Inv X c d H s)(g:DGet H a y o):s.TypeIs (.ref a) "dict":=by
 let[kvs,k,e,_,_]||[kvs,k,b,e,_,_,_]:=g
 let[z,z,vs,z,dd]:=J9 I.hok e;exact dd.typeIs;let[z,z,xs,z,dd]:=K4 I.hok e;exact dd.typeIs
def PK(d ty:TE):TE:=λb H Q=>d b H λx e=>ty b e λy c=>∃ a v,x=.ref a/\DGet c a y (some v)/\Q v c
def PL(ty d:TE):TE:=λb H Q=>ty b H λy e=>d b e λx c=>∃ a o,x=.ref a/\DGet c a y o/\Q (.bl o.isSome) c
def PN(ty d:TE):TE:=λb H Q=>ty b H λy e=>d b e λx c=>∃ a o,x=.ref a/\DGet c a y o/\Q (.bl<|!o.isSome) c
def PQ(d ty e:TE):TS:=λD b H=>e b H λv g=>d b g λx i=>ty b i λy j=>∃ a c,x=.ref a/\DPut j a y v c/\D.nx b c
section
variable{X:Cx}{o i e value:Expr}{pos pos' tpos:Pos}{td ty tv:TE}
def Yy(l:X.A.units+1<cLine)(n:PE X o td)(p:PE X i ty)(hs:pG i):PE X (.Subscript o i pos) (PK td ty):=by
 refine λJ s d H Q I h=>Yw PySem.F.slot_dict_getitem.lookup hs<|AO (n _ s d H _ I h) λu q ⟨x,r,w,z,q1⟩=>AO (p _ q d r _ w q1) λiv L b=>?_;let[y,B,j,D,a,v,rfl,g,q2]:=b;obtain rfl:u=fh a:=z;exact{Yx j g,Ym l j g D λM N E c=>x2 v B ⟨E,c,q2⟩}
def Yz(d:X.A.units+1<cLine)(j:PE X i ty)(l:PE X o td):PC X .In i o (PL ty td):=by
 refine λD s c H Q I h=>AO (j _ s c H _ I h) λiv n ⟨y,p,q,r,q1⟩=>AO (l _ n c p _ q q1) λu E b=>?_;let[x,v,w,z,a,J,rfl,g,q2]:=b;obtain rfl:u=fh a:=z;exact Yp d w g r λL B=>x2 (.bl _) v ⟨B,rfl,q2⟩
def Zb(d:X.A.units+1<cLine)(j:PE X i ty)(l:PE X o td):PC X .NotIn i o (PN ty td):=by
 refine λD s c H Q I h=>AO (j _ s c H _ I h) λiv n ⟨y,p,q,r,q1⟩=>AO (l _ n c p _ q q1) λu E b=>?_;let[x,v,w,z,a,J,rfl,g,q2]:=b;obtain rfl:u=fh a:=z;exact Yq d w g r λL B=>x2 (.bl _) v ⟨B,rfl,q2⟩
def Zc(d:X.A.units+1<cLine)(j:PE X o td)(l:PE X i ty)(n:PE X value tv)(hs:we value (some<|.Subscript o i pos') pos.line X.env=pure false) :
  PS X (.Assign [.Subscript o i pos'] value pos) (PQ td ty tv):=by
 refine λT s b H D I h=>wpAny_Assign_Subscript (AO (n _ s b H _ I h) λr p ⟨v,q,w,z,q1⟩=>AO (j _ p b q _ w q1) λu B ⟨x,E,J,L,q2⟩=>AO (l _ B b E _ J q2) λiv U c=>?_) hs;let[y,Y,M,N,a,O,rfl,g,q3]:=c;obtain rfl:u=fh a:=L;exact Yv d M g N z λs4 Q=>x2 b O ⟨Q,q3⟩
end
def Zd(h:Heap)(a:f_<h.objs.size):ObjOk P w H (h.push { cls:=.type "dict",data:=.dict #[] }) h.objs.size (.dK []) :=
 {bh _,beq_eq_false_iff_ne.mpr<|fi<|a_ a,[],.nil,Heap.DictOf.new h}
def pH(h:Heap)(a:f_<h.objs.size):ObjOk P w H (h.push { cls:=.type "dict",data:=.dict #[] }) h.objs.size (.dT []) :=
 {bh _,beq_eq_false_iff_ne.mpr<|fi<|a_ a,[],.nil,_,_,0,ae _ rfl,⟨rfl,rfl,rfl⟩,rfl,rfl,jz}
def IF:TE:=λ_ H Q=>∀ p,H p=none->Q (.ref p) (upd H p<|.dK [])
def NK:TE:=λ_ H Q=>∀ p,H p=none->Q (.ref p) (upd H p<|.dT [])
section
variable{X:Cx}{pos:Pos}
def Zg:PE X (.Dict [] [] pos) IF:=λa s b H Q I h =>
 Hf (x2 (.ref _) _ {I.laid    (λz z q=>ν _ q) (ο _) (Zd _ I.big),rfl,h _<|I.hok.fresh<|ο _})
def Zh:PE X (.Dict [] [] pos) NK:=λa s b H Q I h =>
 Hf (x2 (.ref _) _ {I.laid    (λz z q=>ν _ q) (ο _) (pH _ I.big),rfl,h _<|I.hok.fresh<|ο _})
end
def MJ:List (TE × TE)->St->Hp->(List (V × V)->Hp->Prop)->Prop
 | [],_,H,Q=>Q [] H
 |(tk,b)::r,a,H,Q=>tk a H λx c=>b a c λy d=>MJ r a d λps e=>Q ((x,y)::ps) e
abbrev VV:List (V × V)->List (Value × Value)->Prop:=Paired λp q=>RelV p.1 q.1/\RelV p.2 q.2
def S0(X:Cx)(pos:Pos)(keys:List (Option Expr))(values:xD)(a:List (TE × TE)):Prop :=
 ∀ (c:yA) (s:π) (b:St) (H:Hp) (Q:List (V × V)->Hp->Prop),Inv X c b H s->MJ a b H Q ->
  wpAny (model X.prog X.w) X.A (evalPairs<|pairTrees keys values X.env pos) (λvs e=>∃ ps d,Inv X c b d e/\VV ps vs/\Q ps d) X.xe s
def Zj:S0 X pos [] [] []:=λa s b H Q I h=>pairTrees_nil_walk<|x2 [] H {I,.nil,h}
def Zk(c:PE X k tk)(d:PE X v e)(g:S0 X pos i vs a) :
  S0 X pos (some k::i) (v::vs) ((tk,e)::a):=λB s b H Q I h =>
 pairTrees_cons_walk (AO (c _ s b H _ I h) (by intro u j [x,l,n,o,q1];exact AO (d _ j b l _ n q1) (by intro w2 p [y,q,r,w,q2];exact AO (g _ p b q _ r q2) (by intro ws D [ps,z,A,rel,q3];exact x2 _ z {A,.cons ⟨o,w⟩ rel,q3}))))
structure M1(X:Cx)(o:Expr)(m:Str)(CW:Pos)(e:Expr)(DK:Pos):Prop where
 base:si o m X.env (eval o X.env)=eval o X.env
 few:((jj DK<|az [e] X.env).all (λx=> !x.1)&&(vj DK<|mo [] X.env).all (λx=>x.1.isSome)
  && decide (([e]:xD).length+([]:List Be).length+(if([]:List Be).isEmpty then 0 else 1)<30))=true
 line:(CW.endLine==DK.line)=true
 trees:jj DK (az [e] X.env)=[(false,eval e X.env)]
structure M2(X:Cx)(o:Expr)(m:Str)(CW:Pos)(e f:Expr)(DK:Pos):Prop where
 base:si o m X.env (eval o X.env)=eval o X.env
 few:((jj DK<|az [e,f] X.env).all (λx=> !x.1)&&(vj DK<|mo [] X.env).all (λx=>x.1.isSome)
  && decide (([e,f]:xD).length+([]:List Be).length+(if([]:List Be).isEmpty then 0 else 1)<30))=true
 line:(CW.endLine==DK.line)=true
 trees:jj DK (az [e,f] X.env)=[(false,eval e X.env),(false,eval f X.env)]
def NL(H:Hp)(a:Addr):Prop:=(∃ kvs,Rd H a<|.dK kvs)\/∃ kvs,Rd H a<|.dT kvs
def pJ(I:Inv X c g H s)(d:NL H a) :
  s.TypeIs (.ref a) "dict"/\(∀ b,fh a=.ref b->∃ ob,s.heap.get? b=some ob/\ob.dict=none)/\(a==f_)=false:=by
 let[kvs,e]||[kvs,e]:=d
 let[z,hd,vs,z,dd]:=J9 I.hok e;refine{dd.typeIs,λb q=>?_,hd};cases q;revert dd;apply u3;intro ob z z [h1,h2,z];exact⟨ob,h1,h2.2.1⟩;let[z,hd,xs,z,dd]:=K4 I.hok e;refine{dd.typeIs,λb q=>?_,hd};cases q;revert dd;apply u3;intro ob z z [h1,h2,z];exact⟨ob,h1,h2.2.1⟩
section
variable{X:Cx}{AA:yA}{σ:St}{H:Hp}{s:π}{a:Addr}{y d:V}{u r:Value}{o:Option V}{A:dr}{E:yB}
def Zl(p:A.units+1<cLine)(I:Inv X AA σ H s)(g:DGet H a y o)(i:RelV y u)(h:∀ j n,Inv X AA σ H n->RelV (o.getD .non) j->Q j n) :
  wpAny (model X.prog X.w) A (call (.builtin "dict.get") [.ref a,u]) Q E s:=by
 let[kvs,k,e,c,l]||[kvs,k,b,e,c,q,l]:=g
 subst c;let[z,hd,vs,rel,dd]:=J9 I.hok e;refine ui PySem.F.slot_dict_get dd.typeIs PySem.F.entry_dict_get (PySem.F.args_dict_get_2 _ _) (meets_dict_get _ a (MI i) hd) {_,dd.mapOf,h _ _ (I.tok _) ?_};rw[l];exact(rel.val k).getD rfl;subst c;let[z,hd,xs,rel,dd]:=K4 I.hok e;cases (i);refine ui PySem.F.slot_dict_get dd.typeIs PySem.F.entry_dict_get (PySem.F.args_dict_get_2 _ _) (meetsH_dict_get _ a b hd) {jg p,x2 k xs {K3 I.hok q,dd,h _ _ (I.tok _) ?_}};rw[l];exact(rel.val k).getD rfl
def Zm(q:A.units+1<cLine)(I:Inv X AA σ H s)(g:DGet H a y o)(i:RelV y u)(j:RelV d r)(h:∀ n p,Inv X AA σ H p->RelV (o.getD d) n->Q n p) :
  wpAny (model X.prog X.w) A (call (.builtin "dict.get") [.ref a,u,r]) Q E s:=by
 let[kvs,k,e,c,l]||[kvs,k,b,e,c,v,l]:=g
 subst c;let[z,hd,vs,rel,dd]:=J9 I.hok e;refine ui PySem.F.slot_dict_get dd.typeIs PySem.F.entry_dict_get (PySem.F.args_dict_get_3 _ _ _) (meets_dict_get_default _ a (MI i) hd r) {_,dd.mapOf,h _ _ (I.tok _) ?_};rw[l];exact(rel.val k).getD j;subst c;let[z,hd,xs,rel,dd]:=K4 I.hok e;cases (i);refine ui PySem.F.slot_dict_get dd.typeIs PySem.F.entry_dict_get (PySem.F.args_dict_get_3 _ _ _) (meetsH_dict_get_default _ a b hd r) {jg q,x2 k xs {K3 I.hok v,dd,h _ _ (I.tok _) ?_}};rw[l];exact(rel.val k).getD j
end
def S5(e ty:TE):TE:=λb H Q=>e b H λx c=>∃ a,x=.ref a/\NL c a/\ty b c λy d=>∃ o,DGet d a y o/\Q (o.getD .non) d
def XC(e ty tx:TE):TE:=λb H Q=>e b H λx c=>∃ a,x=.ref a/\NL c a/\ty b c λy g=>tx b g λz d=>∃ o,DGet d a y o/\Q (o.getD z) d
section
variable{X:Cx}{o e f:Expr}{CW DK:Pos}{td ty tx:TE}
def Zp(l:X.A.units+1<cLine)(n:PE X o td)(he:PE X e ty)(m:M1 X o "get" CW e DK):PE X (.Call (.Attribute o "get" CW) [e] [] DK) (S5 td ty):=by
 refine λL s i H Q I h=>En m.base m.few m.line PySem.F.plainAttrs_dict PySem.F.slot_dict_get PySem.F.type_dict_get<|AO (n _ s i H _ I h) λu p b=>?_;let[x,q,j,r,a,rfl,d,q1]:=b;obtain rfl:u=fh a:=r;let[v,w,z]:=pJ j d;refine{v,w,?_};rw[m.trees];exact mz rfl (pd (t5 (AO (he _ p i q _ j q1) (by intro iv M [y,B,D,E,N,g,q2];exact xl<|Zl l D g E λO T J c=>x2 _ B ⟨J,c,q2⟩))))
def Zq(l:X.A.units+1<cLine)(n:PE X o td)(he:PE X e ty)(hf:PE X f tx)(m:M2 X o "get" CW e f DK):PE X (.Call (.Attribute o "get" CW) [e,f] [] DK) (XC td ty tx):=by
 refine λU s b H Q I h=>En m.base m.few m.line PySem.F.plainAttrs_dict PySem.F.slot_dict_get PySem.F.type_dict_get<|AO (n _ s b H _ I h) λu p c=>?_;let[x,q,j,r,a,rfl,d,q1]:=c;obtain rfl:u=fh a:=r;let[w,B,v]:=pJ j d;refine{w,B,?_};rw[m.trees];exact mz rfl (pd (t5 (AO (he _ p b q _ j q1) (by intro iv D [y,E,J,L,q2];exact t5 (AO (hf _ D b E _ J q2) (by intro Y s3 [z,M,N,O,ov,g,q3];exact xl<|Zm l N g L O λw' s4 T i=>x2 _ M ⟨T,i,q3⟩))))))
end
section
variable{X:Cx}{AA:yA}{σ:St}{H:Hp}{s:π}{a:Addr}{kvs:vC}{A:dr}{E:yB}
def Zv(I:Inv X AA σ H s)(e:Rd H a (.dK kvs))(h:∀ p d,H p=none->Inv X AA σ (upd H p<|.dK kvs) d->Q (.ref p) d):wpAny (model X.prog X.w) A (call (.type "dict") [.ref a]) Q E s:=by
 let[z,hd,vs,rel,dd]:=J9 I.hok e;exact kt_call_dict hd dd (by rw[<-rel.length];exact z) λh' c hs=>(h _ _ (I.hok.fresh<|ο _) (I.laid    (λb q g=>((hs.2 b<|a_<|ak g).trans (ν _ g))) (ο _) (pF z (beq_eq_false_iff_ne.mpr<|fi<|a_ I.big) rel c)))
end
section
variable{X:Cx}{AA:yA}{σ:St}{H:Hp}{s:π}{a:Addr}{y:V}{u:Value}{A:dr}{E:yB}
end
end L2
namespace Att
open PySem PySem.W PySem.Calls PyProof.Rows
abbrev _root_.wE:=List Int
def Zw:∀ (ns:wE) (vs:uD),WellAll P h vs (ns.map WData.int)->s_ vs ns:=by
 intro ns
 induction ns with
 |nil =>
  intro vs w;cases w;exact .nil
 |cons n ns c =>
  intro vs w;cases w with
  |cons a b =>
   cases a;exact .cons _ _<|c _ b
def Zx{l:OpenLaw}(i:l.most=some n){h:Heap}
  (b:l.row.toRowW.claim.pre args=true) (g:WellAll P h c args) :
  ∃ a vs ns,c=[fh a]/\args=[WData.list (ns.map WData.int)]/\h.get? a=some { cls:=.type "list",data:=.seq vs.toArray }/\s_ vs ns/\ns.length<=n:=by
 have j:l.pre.holds [] _=true:=(pre_splitW b).2;let[d,r,rfl,h1,h2]:=hasAllW_cons<|(pre_splitW b).1;obtain rfl:=hasAllW_nil h2;let[xs,rfl,h3]:=hasW_list h1;let[ns,rfl]:=items_int h3
 have o:ns.length<=n:=by
  have h4:(WTm.not<|.lt (.lit<|.int n) (.len<|.arg 0)).holds [] { args:=[.list (ns.map .int)] }=true:=by
   have h4:=(holds_andW j).1;rw[i]at h4;exact h4
  have h5:=condW_of h4<|w_not<|w_lt w_lit<|w_len_list<|w_arg rfl
  first
   |(exact absurd h5 (by decide))
   |(simp at h5;omega)
 cases g with
 |cons p w2 =>
  cases w2;cases p with
  |list q e=>exact{_,_,ns,rfl,rfl,q,Zw ns _ e,o}
def Zy(l:OpenLaw)(args:List WData):l.row.toRowW.claim.post args (.bool true) args=true :=
 postW_of
  (show WShape.has [] _ _=true by first|rfl|decide|simp[WShape.armsAll])
  (w_eq_bool (w_res rfl) w_lit) rfl
def attach_call{l:OpenLaw}{z:(Str->Option Value)->Heap->Prop}{A:World->Heap->Prop}{d:DefRec}
  (H:l.most=some n) (u:d.params.defaults=[])
  (call:∀ (w:World) (s₀ b:π) (mg v:uB) (e:Addr) (o:Obj) (pm p g:Value) (a:Addr) (vs:uD) (ns:wE),
   Ground q loose [] z w s₀ mg v b.heap->A w b.heap ->
   b.heap.get? e=some o->o.data=.func (docDef d.name d.params d.body d.scope pm p g)->b.heap.CodeRec p d.name->mg d.name=some (.ref e) ->
   b.heap.get? a=some { cls:=.type "list",data:=.seq vs.toArray }->s_ vs ns->ns.length<=n->b.gens= #[] →
   vd (model l.prog w) I_ (.call (.ref e) {[.ref a],[]}) (λr s=>r=.ok (.ret<|.bool true)/\OldK b.heap s.heap/\s.os=b.os/\ud s.gens) b) :
  WalkO q loose z A l.row.toRowW d [] (λf vs=>PySem.call f vs):=by
 intro w s₀ b mg v G Y e o pm p g I kV J hd L B x M args D as i E N y O;obtain rfl:I=.none:=Dflts.none B u;obtain rfl:kV=.none:=Dflts.noKw B;let[a,vs,ns,rfl,rfl,j,c,Q]:=Zx H i y;refine enter_call<|mx (call w _ _ mg v e o pm p _ a vs ns G Y J (fd_plain hd) L x j c Q M) λr s T=>?_;let[rfl,h2,h3,h4]:=T;exact{.inl {_,_,[],rfl,λ_=>rfl,.bool _,Zy l _,λ_=>{Eo,λ_ U=>(nomatch U)}},h2,h3,h4}
section
variable{prog:bw}{w:World}{A:dr}{E:yB}{s:π}{K:Frag}
end
end Att
namespace L2
def pK:∀ {vs:uD} {ns:wE},s_ vs ns->Vals (ns.map V.int) vs:=λh=>by
 induction h with
 |nil=>exact .nil
 |cons n t h a=>exact .cons ⟨t,rfl⟩ a
def XD(H:Hp):Prop:=∀ b,H b=none\/∃ o xs,H b=some (.frz o<|.lst xs)
def Zz{K:W.Frag}{mg L:uB}{sp:Sp}{c:π}{vs:uD}{ns:wE}
  (Y:K.In c.heap) (p:c.heap.Ns bq mg) (g:c.heap.Ns Ji L) (M:∀ x:Str,x≠"__name__"->L x=uc x) (A:c.heap.NoLimit) (hg:c.gens= #[])
  (E:c.heap.get? a=some { cls:=.type "list",data:=.seq vs.toArray }) (hi:s_ vs ns) (hl:ns.length<=sizeLine) (hr:Room k I_)
  (F:∀ base:Heap,K.In base->base.Ns bq mg->FnOk P w K mg base CX k fa fd [x] sp) (l:∀ (s:π) (u:Value),xm s fd {[u],[]} [(x,u)])
  (N:∀ H:Hp,XD H->SqL K H a (ns.map V.int)->sp [.ref a] H (λv y=>v=.bl true) λy y y=>False)
  (O:∀ H e i,CX [] H c (λy y y=>False) e i->False) :
  vd (model P w) I_ (.call (.ref fa) {[.ref a],[]}) (λr i=>r=.ok (.ret<|.bool true)/\OldK c.heap i.heap/\i.os=c.os/\ud i.gens) c:=by
 have core:∀ H:Hp,XD H->SqL K H a (ns.map V.int)->HOk P w H c.heap->(∀ b,H b≠none->b=a)->(H a≠none->K.lookup a=none) ->
   vd (model P w) I_ (.call (.ref fa) {[.ref a],[]}) (λr i=>r=.ok (.ret<|.bool true)/\OldK c.heap i.heap/\i.os=c.os/\ud i.gens) c:=by
  intro H hO hS hok hA hK
  have Q:∀ {b:Addr} {o:Obj} {I:Array _} {J:Nat},c.heap.get? b=some o->o.data=.dict I J->H b=none:=λ{b o I J} e d=>by
   cases q:H b with
   |none=>rfl
   |some u =>
    have T:=hA b (by rw[q];simp);subst T;rw[E]at e;obtain rfl:=ι e;cases d
  have base_of:∀ {b:Addr} {o:Obj},c.heap.get? b=some o->H b=none->(NC _ H).get? b=some o:=λe n=>Rh e n
  have j:∀ {b:Addr} {m:Str->Option _},c.heap.Ns b m->(NC _ H).Ns b m:=λ{b m} ⟨o,I,J,e,d,r⟩=>x3 o I J {base_of e<|Q e d,d,r}
  have B:=λb o e=>base_of (Y b o e) (by
   cases q:H b with
   |none=>rfl
   |some u =>
    have T:=hA b (by rw[q];simp);subst T;rw[hK (by rw[q];simp)]at e;cases e)
  refine mx ((F _ B<|j p).run _ [] _ H _ [.ref a] [.ref a] _ _ hr ({rfl,({B,j p,{L,j g,M},let ⟨mc,h1,h2⟩:=A;{mc,j h1,h2}}),λb o e=>Rj e,ba<|Rg _ _,trivial,λb g=>absurd (show b∈([])from g) (by simp),hok,.of_eq hg}) (l _ _) (.cons rfl .nil) (N H hO hS)) λr i h=>?_;cases r with
  |error e=>exact(O H e i h).elim
  | ok fl =>
   cases fl with
   |next=>exact jy h
   |brk=>exact jy h
   |cont=>exact jy h
   |ret u =>
    revert h;apply u2;intro v H' [os,bare,un,D,r',rfl];obtain rfl:u=Jf _:=r';refine{rfl,OldK.of_keep λb o e=>?_,os,bare};cases q:H b with
    |none=>exact un.keep b o e q (by intro z;exact absurd (show b∈([])from z) (by simp)) (by simp)
    |some u =>
     let z||[ob,xs,z]:=hO b
     rw[q]at z;cases z;let[e2,y]:=D b _<|un.frzs b ob _ z;let[e1,y]:=hok b _ z;rw[e]at e1;obtain rfl:=ι e1;exact e2
 have rv:=pK hi;cases U:K.lookup a with
 |some o =>
  have e:=Y a o U;rw[E]at e;obtain rfl:=ι e;refine core (λy=>none) (λy=>.inl rfl) (.inr (x3 _ _ _ {U,rfl,rfl,rfl,by rw[aw,hi.length];exact hl,rv})) (λb u z=>by cases z) (λb z=>absurd rfl z) λz=>absurd rfl z
 |none =>
  refine core (λb=>if b=a then some _ else none) (λb=>?_) (.inl<|.inr {{ cls:=.type "list",data:=.seq vs.toArray },if_pos rfl}) (λb u z=>?_) (λb z=>?_) λy=>U;by_cases g:b=a;exact .inr<|x2 _ _<|if_pos g;exact .inl<|if_neg g;by_cases g:b=a
  have z':=(if_pos g).symm.trans z;cases z';subst g;exact{E,by rw[ε];exact hl,x2 vs _ ⟨rv,E⟩};cases ((if_neg g).symm.trans z);by_cases g:b=a;exact g;exact absurd (if_neg g) z
def walk_of{l:W.OpenLaw}{I:(Str->Option Value)->Heap->Prop}{A:World->Heap->Prop}{d:DefRec}{K:Params->W.Frag}{CX:World->IE}{sp:World->Sp}
  (J:l.most=some n) (i:n<=sizeLine) (j:d.params.defaults=[]) (L:Room k I_)
  (M:∀ (w:World) (h:Heap),A w h->(K w.params).In h)
  (F:∀ (w:World) (mg:uB) (g:Addr) (h:Heap),(K w.params).In h->h.Ns bq mg->mg d.name=some (.ref g) ->
   ∃ fd:gx,(∀ (s:π) (u:Value),xm s fd {[u],[]} [(x,u)]) /\
    ∀ base:Heap,(K w.params).In base->base.Ns bq mg->FnOk l.prog w (K w.params) mg base (CX w) k g fd [x] (sp w))
  (p:∀ (w:World) (H:Hp) (a:Addr) (ns:wE),ns.length<=n->XD H->SqL (K w.params) H a (ns.map V.int)->sp w [.ref a] H (λv _=>v=.bl true) λ_ _ _=>False)
  (r:∀ (w:World) (H:Hp) (s:π) (e:Value) (y:π),CX w [] H s (λ_ _ _=>False) e y->False) :
  W.WalkO q loose I A l.row.toRowW d [] (λf vs=>PySem.call f vs):=by
 refine Att.attach_call J j λw s₀ B mg mb g o pm cd N a vs ns G Y ho hd GW z c b D O=>?_
 have E:=M w _ Y;let[fd,Q,U]:=F w mg g _ E G.T.g z;exact Zz E G.T.g G.T.b G.T.builtins G.T.nolimit O c b (ψ D i) L U Q (λH hO hS=>p w H a ns D hO hS) λH e y=>r w H _ e y
def BP(s:Stmt)(j:Nat):Stmt:=match s with
 |.ClassDef _ _ _ body _ _ _ _ _ _ _=>body.getD j<|.Pass {0,0,0,0}
 |_=>.Pass {0,0,0,0}
def KA(s:Stmt):Arguments:=match s with
 |.FunctionDef _ a _ _ _ _ _ _ _ _=>a
 |_=>{ posonlyargs:=[],args:=[],vararg:=none,kwonlyargs:=[],kw_defaults:=[],kwarg:=none,defaults:=[] }
def HL(s:Stmt):List Stmt:=match s with
 |.FunctionDef _ _ b _ _ _ _ _ _ _=>b
 |_=>[]
def AU(s:Stmt):Scope:=match s with
 |.FunctionDef _ _ _ _ _ _ a _ _ _=>a
 |_=>{ kind:=.function,names:=[],isGenerator:=false,isCoroutine:=false }
abbrev E0:XK:=λ_ _ _=>False
structure Fun(K:W.Frag)(x qual:Str)(st:Stmt)(f:Addr)(fd:gx):Prop where
 ex:∃ (oc:Value) (od:Option Addr) (kV doc pm:Value) (an:Option Addr) (CN ct:Value) (osl:Array (Option Value)),
  fd=W.fnOf x qual (KA st) (HL st) (AU st) .none kV doc pm an CN ct/\K.lookup f=some {oc,od,.func fd,osl}/\W.codeIn K CN qual=true
 kp:W.keepIn K (.ref f)=true
section
variable{P:bw}{w:World}{K:W.Frag}{mg:uB}{base:Heap}
def Fun.binds{x a:Str}{st:Stmt}{f:Addr}{fd:gx}{ps:zD}(F:Fun K x a st f fd)
  (h:∀ (kV b pm:Value) (c:Option Addr) (d ct:Value) (us:uD),us.length=ps.length->bindArgs (W.fnOf x a (KA st) (HL st) (AU st) .none kV b pm c d ct) {us,[]}=pure (ps.zip us)):Binds K fd ps []:=by
 refine u9 ?_ F.ex;intro g i kV b pm c d ct e [rfl,j,l];exact .all<|h kV _ pm c _ ct
def pL{x a:Str}{st:Stmt}{f:Addr}{i:Value}{j d:Option Addr}{e:Array (Option Value)}{kV b pm g ct:Value}(l:K.lookup f=some {i,j,.func<|W.fnOf x a (KA st) (HL st) (AU st) .none kV b pm d g ct,e})
  (c:W.codeIn K g a=true) (k:W.keepIn K (.ref f)=true):Fun K x a st f (W.fnOf x a (KA st) (HL st) (AU st) .none kV b pm d g ct):={x9 i j kV _ pm d _ ct _ ⟨rfl,l,c⟩,k}
end
def K5(a:Room k A):A.units+1<cLine:=cf (Br (by decide) _) a.units
section
variable{X:Cx}
def pv(i:Nat)(a:X.N[i]? =some x:=by rfl)(b:SG X.env.scope x:=by first|exact De rfl|exact zy (De rfl)|exact zy<|zy rfl)(hd:(x ==("__debug__":Str))=false:=by decide)
  (c:(x ==("__classdict__":Str))=false:=by decide):PE X (.Name x pos) (SH i):=mY a b hd c
end
def Same(H a:Hp):Prop:=∀ b o,H b=some o->a b=some o
def Same.refl(H:Hp):Same H H:=λz z h=>h
def Same.trans{H d e:Hp}(a:Same H d)(b:Same d e):Same H e:=λc o h=>b c o<|a c o h
def Same.free{H a:Hp}(e:Same H a){l:Addr}(h:a l=xo):H l=xo:=by
 cases q:H l with
 |none=>rfl
 |some o =>
  rw[e l o q]at h;cases h
def Same.seq{K:W.Frag}{H b:Hp}{a:Addr}{xs:cF}(e:Same H b)(h:SqL K H a xs):SqL K b a xs:=by
 rcases h with(h|⟨o,h⟩)|h
 exact .inl<|.inl<|e _ _ h;exact .inl<|.inr {o,e _ _ h};exact .inr h
section
variable{κ :Type}[DecidableEq κ]
def zaa{kvs:List (κ × V)}(h:BE kvs k=none):¬ k∈kvs.map (·.1):=by
 intro m;let[p,a,e]:=ay.mp m
 have q:(kvs.any λb=>decide<|b.1=k)=true:=du.mpr {p,a,decide_eq_true e};rw[K2,h]at q;exact absurd q (by simp)
theorem pM:∀ {l:List κ} {k: κ},l.Nodup->¬ k∈l->(l++[k]).Nodup
 | [],k,_,_=>by simp
 |a::r,k,h,b=>by
  let[h1,h2]:=ic.mp h;refine ic.mpr {λm=>?_,pM h2 λm=>b<|aj.mpr<|zy m};let q||q:=bc.mp m
  exact h1 q;exact b<|aj.mpr<|De (aa.mp q).symm
def zab{kvs:List (κ × V)}(v:V)(a:(kvs.map (·.1)).Nodup)(h:BE kvs k=none):((CD kvs k v).map (·.1)).Nodup:=by
 rw[XB v h,av];exact pM a<|zaa h
end
theorem XF:∀ (names:List (Str × yi)) (cs:List (Str × Addr)),
  (∀ x∈names,x.2=.free->∃ c,env.cells.lookup x.1=some c)->(∀ x c,cs.lookup x=some c->env.cells.lookup x=some c) ->
  ∃ i,(forIn names cs λx r=>(if(x.2==gi)=true then do let a ← cellOf env x.1;pure (jo ((x.1,a)::r))else pure (jo r):Sem (ForInStep<|List<|Str × Addr)))=pure i /\
   (∀ x c,i.lookup x=some c->env.cells.lookup x=some c)/\(∀ x,(cs.lookup x).isSome=true->(i.lookup x).isSome=true) /\
   ∀ x∈names,x.2=.free->(i.lookup x.1).isSome=true
 | [],cs,_,h=>{cs,rfl,h,λ_ z=>z,λ_ z=>nomatch z}
 |(n,k)::r,cs,hf,h=>by
  by_cases j:k=.free;subst j;let[c,l]:=hf _ χ rfl;let[i,e,h1,h2,h3]:=XF r ((n,c)::cs) (λx b=>hf x<|τ _ b) (λx o b=>by
   by_cases d:x=n;subst d;simp only[au,beq_self_eq_true]at b;obtain rfl:=ι b;exact l
   have  :=beq_eq_false_iff_ne.mpr d;simp only[au,this]at b;exact h x o b)
  refine{i,?_,h1,λx b=>h2 x ?_,λx b g=>?_};rw[jb]
  show(((match env.cells.lookup n with|some a=>pure a|none=>_)>>=_)>>=_)=_;rw[l];exact e;by_cases d:x=n;subst d;simp
  have  :=beq_eq_false_iff_ne.mpr d;simp only[au,this];exact b;let rfl||b:=aj.mp b
  exact h2 n (by simp);exact h3 x b g;let[i,e,h1,h2,h3]:=XF r cs (λx b=>hf x<|τ _ b) h;refine{i,?_,h1,h2,λx b g=>?_};rw[jb,if_neg (by simp[(j)])];exact e;let rfl||b:=aj.mp b
  exact absurd g j;exact h3 x b g
def pN(hf:∀ x∈scope.names,x.2=.free->∃ c,env.cells.lookup x.1=some c) :
  ∃ b,closureFor scope env=pure b/\(∀ x c,b.lookup x=some c->env.cells.lookup x=some c)/\∀ x∈scope.names,x.2=.free->(b.lookup x.1).isSome=true:=by
 let[b,e,h1,z,h3]:=XF  _ [] hf (λx c h=>by simp at h);refine{b,?_,h1,h3}
 have:(forIn scope.names ([]) λx r=>(if(x.2==gi)=true then do let a ← cellOf env x.1;pure (jo ((x.1,a)::r))else pure (jo r))) >>=(λr=>(pure r))=(pure b:Sem _):=by rw[e];rfl
 exact this
theorem pO{env:Env}:∀ {names:List (Str × yi)} {x:Str},names.lookup x=some .free ->
  (names.map λ(n,k)=>if(k==gi&&env.scope.kind == .function&&env.kindOf n==some .cell)then(n,gj)else(n,k)).lookup x=some .cell ∨
  (names.map λ(n,k)=>if(k==gi&&env.scope.kind == .function&&env.kindOf n==some .cell)then(n,gj)else(n,k)).lookup x=some .free
 | [],_,h=>by simp at h
 |(n,k)::r,x,h=>by
  by_cases a:x=n;subst a;simp only[au,beq_self_eq_true]at h;obtain rfl:=ι h
  show gz x ((if _ then(x,gj)else(x,gi))::_)=_\/gz x ((if _ then(x,gj)else(x,gi))::_)=_;split;exact .inl (by simp);exact .inr (by simp)
  have b:=beq_eq_false_iff_ne.mpr a;simp only[au,b]at h
  show gz x ((if _ then(n,gj)else(n,k))::_)=_\/gz x ((if _ then(n,gj)else(n,k))::_)=_;split<;>(simp only[au,b];exact(pO  h))
theorem pP{env:Env}:∀ {names:List (Str × yi)} {x:Str},
  ((names.map λ(n,k)=>if(k==gi&&env.scope.kind == .function&&env.kindOf n==some .cell)then(n,gj)else(n,k)).lookup x=some .cell ∨
  (names.map λ(n,k)=>if(k==gi&&env.scope.kind == .function&&env.kindOf n==some .cell)then(n,gj)else(n,k)).lookup x=some .free)->(x,gi)∈names\/(x,gj)∈names
 | [],_,h=>by simp at h
 |(n,k)::r,x,h=>by
  by_cases a:x=n;subst a
  have h:gz x ((if(k==gi&&env.scope.kind == .function&&env.kindOf x==some _)=true then(x,gj)else(x,k))::_)=some _\/gz x ((if(k==gi&&env.scope.kind == .function&&env.kindOf x==some _)=true then(x,gj)else(x,k))::_)=some _:=h;split at h;rename_i b;rw[bx,bx]at b
  have:k=.free:=by simpa using b.1.1
  subst this;exact .inl χ;simp only[au,beq_self_eq_true]at h;let h||h:=h
  cases h;exact .inr χ;cases h;exact .inl χ
  have h:gz x ((if(k==gi&&env.scope.kind == .function&&env.kindOf n==some _)=true then(n,gj)else(n,k))::_)=some _\/gz x ((if(k==gi&&env.scope.kind == .function&&env.kindOf n==some _)=true then(n,gj)else(n,k))::_)=some _:=h
  have h':=h;split at h'
  all_goals
   simp only[au,(beq_eq_false_iff_ne.mpr a)]at h';exact(pP h').imp (τ _) (τ _)
def FN{a b:Addr}{n:Nat}(h:a<n)(h2:n<=b):a≠b:=a_<|ω h h2
def Cx.block(X:Cx)(a:yA)(s:π)(H:Hp)(b:zD)(scope:Scope)(c:List (Str × Addr))(C:Addr)(d:wD):Cx where
 prog:=X.prog
 w:=X.w
 K:=X.K
 mg:=X.mg
 base:=X.base
 A:=X.A
 N:=b
 s₀:=s
 H₀:=H
 env:=compEnvC scope c C X.env
 outer:=X.stack
 stack:=X.stack
 ex:=d
 fn:=λ_=>false
 calm:=X.calm
 pn:=X.pn++a
 xe:=λ_ _=>False
abbrev _root_.xE:=List Nat
structure KB(X:Cx)(scope:Scope)(tn cn:zD)(A6:xE):Prop where
 kind:scope.kind=.function
 nocell:∀ y∈scope.names,y.2≠.cell
 names:∀ y∈scope.names,y.2=.local->scope.names.lookup y.1=some .local
 free:∀ y∈scope.names,y.2=.free->X.env.kindOf y.1=some .cell\/X.env.kindOf y.1=some .free
 drawn:∀ x∈cn,scope.names.lookup x=some .free
 caps:A6.map (λi=>X.N[i]?)=cn.map some
def K6(k:Nat)(a:xE)(b:St):St:=bd k none++a.map λi=>(b[i]?).join
def HOk.track(x:HOk P w H h)(d:H a=none)(new:ObjOk P w (upd H a o) h a o):HOk P w (upd H a o) h:=λb u e=>by
 by_cases g:b=a;subst g;rw[AE]at e;obtain rfl:=ι e;exact new;rw[AI g]at e;refine(x b u e).stay (λz z z q=>q) (λc q=>?_) λc xs q=>?_;rw[AI (BJ q d)];exact q;rw[AI (BJ q d)];exact q
section
variable{X:Cx}{AA:yA}{σ:St}{H:Hp}{s:π}
def Inv.pinlt(I:Inv X AA σ H s)(a:p∈X.pn++AA):p.1<s.heap.objs.size:=ak (I.pin p a).1
def Inv.stkne(I:Inv X AA σ H s)(h1:b≠X.env.locals)(h2:b∉X.fs):b∉EF X.stack:=λz=>(aj.mp<|I.stkSub b z).elim h1 h2
def Inv.stklt(I:Inv X AA σ H s)(h:b∈EF X.stack):b<s.heap.objs.size:=by
 let[z,o,a,z]:=I.stack.mem h;exact ak a
theorem Inv.block{scope:Scope}{a B:zD}{N:List (Str × Addr)}{D:π}(I:Inv X AA σ H s)(S:KB X scope a B A6)
  (E:∀ x c,N.lookup x=some c->X.env.cells.lookup x=some c) (HD:∀ x∈scope.names,x.2=.free->(N.lookup x.1).isSome=true)
  (hf:∀ b∈Q,FpOk X AA H b) (T:∀ b∈Q,b<s.heap.objs.size) (O:s.heap.objs.size<=C) (k:∀ b o,s.heap.get? b=some o->D.heap.get? b=some o)
  (U:D.os=s.os) (hg:D.gens=s.gens) (Y:∃ m,D.heap.Ns C m)
  (hp:∀ p∈g,D.heap.get? p.1=some p.2/\H p.1=none/\p.1≠C/\p.1∉EF X.stack/\∀ v,p.2.data≠.cell v) :
  Inv (X.block AA s H (a++B) scope N C Q) g (K6 a.length A6 σ) H D:=by
 have ok:(X.block AA s H (a++B) scope N C Q).Ok:=by
  refine{I.ok.mod,S.kind,I.ok.glob,I.ok.blt,O,λx y c h1 h2=>I.ok.inj x y c (E x c h1) (E y c h2),λx hx=>?_,λx c z t=>(by cases z),I.ok.hd,I.ok.frames,.inl rfl,λb w=>{(a_<|ω (T b w) O),λx c e=>(hf b w).2.2.2.2.1 x c (E x c e)},I.bs,ψ I.ok.bsz I.sz,λb o e w=>?_,λb w=>I.stkne (hf b w).2.1 (hf b w).2.2.1,I.stack,I.stkFree};let z||z:=pP  hx
  exact dt.mp<|HD _ z rfl;exact absurd rfl<|S.nocell _ z;let z||z:=(hf b w).2.2.2.1
  exact I.ok.noex b o e z;exact absurd (ω (ak e) (ψ I.ok.bsz z)) (ju _)
 refine{ok,U,by rw[hg];exact I.bare,Un.kept k,?_,λx c e=>?_,I.hok.fresh O,λx c e=>I.freeC x c<|E x c e,λp hp'=>?_,I.hok.kept k,?_};let[m,hm]:=Y;refine{m,hm,λi x v h1 h2 h3=>?_}
 have hi:a.length<=i:=by
  let z||z:=ff i _
  unfold K6 at h2;rw[bg (by simpa using z),yj]at h2;split at h2<;>cases h2;exact z
 unfold K6 at h2;rw[cg (by simpa using hi),uo,υ]at h2
 have A:B[i-a.length]? =some x:=by
  have:(a++B)[i]? =some x:=h1
  rwa [cg hi]at this
 cases hq:A6[i-a.length]? with
 |none=>rw[hq]at h2;cases h2
 |some j =>
  rw[hq]at h2
  have hj:X.N[j]? =some x:=by
   have:=congrArg (λl=>l[i-a.length]?) S.caps;simp only[υ,hq,A]at this;exact ι this
  have hv:σ[j]? =some (some v):=by
   cases hs:σ[j]? with
   |none=>simp[hs]at h2
   |some y=>simp only[sy,hs]at h2;obtain rfl:=ι h2;rfl
  have L:=PySem.mem_of_lookup<|S.drawn x<|η A;let[m0,t,hl0]:=I.loc
  have J:=S.free _ L rfl;let[u,r,q]:=hl0 j x v hj hv<|J.elim (λz=>.inr<|.inl z) λz=>.inr<|.inr z;refine{u,r,.inr {pO<|S.drawn x<|η A,?_}};let[kl,_]||[_,c,hc,z]:=q
  let J||J:=J<;>(rw[kl]at J;cases J)
  let[c',M]:=dt.mp<|HD _ L rfl
  have:=E _ _ M;rw[hc]at this;obtain rfl:=ι this;exact{c,M,z.keeps k}
 let[v,z]:=I.cell x c<|E x c e;exact{v,z.keeps k};let z||z:=bc.mp hp'
 let[e,n,ne,nf,d]:=I.pin p z;exact{k _ _ e,n,a_<|ω (ak e) O,I.stkne ne nf,d};exact hp p z;unfold K6
 have:=congrArg g_ S.caps
 show _=(a++B).length;simp only[ε]at this;simp[this]
end
def CQ:TT:=λ_ H Q=>Q true H
def K7(X:Cx)(d:xD)(t:TT):Prop :=
 ∀ (b:yA) (s:π) (a:St) (H:Hp) (Q:uC),Inv X b a H s->t a H Q ->
  wpAny (model X.prog X.w) X.A (forIn d true λc r=>if r=true then do let ok ← Lu c X.env (eval c X.env);pure (jo ok)else pure (jo r)) (TP X b a Q) X.xe s
def zac:K7 X [] CQ:=λa s b H Q I h=>wpAny_tests_nil ⟨H,I,h⟩
def zad(h:PT X c t):K7 X [c] t:=λb s a H Q I q=>wpAny_tests_one<|h _ s a H Q I q
def zae(o:Nat->π->Prop)
  (p:∀ n s,o n s->wpAny (model prog w) A (xz it) (λr a=>match r with
   |none=>R (.ok .next) a
   | some v=>wpAny (model prog w) A (zd target it v) (λ_ d=>wpAny (model prog w) A (Ma target env v) (λ_ e =>
     wpAny (model prog w) A (forIn B true λc r=>if r=true then do let ok ← Lu c env (eval c env);pure (jo ok)else pure (jo r)) (λok b =>
      if ok=true then wpAny (model prog w) A (eval D env) (λx g =>
       wpAny (model prog w) A (call (.builtin "list.append") [E,x]) (λ_ i=>∃ m,m<n/\o m i) (λ_ _=>False) g) (λ_ _=>False) b
      else ∃ m,m<n/\o m b) (λ_ _=>False) e) (λ_ _=>False) d) (λ_ _=>False) a) (λ_ _=>False) s)
  (n:Nat) (h:o n s):vd (model prog w) A (.compLoop (.ListComp D [{target,iter,B,0}] scope pos) 0 it E env) R s:=by
 refine codeAny_loop rfl o (λH I J=>(wpAny_noted<|wpAny_noRaise<|δ<|B_<|δ<|AO (p H I J) λr a j=>?_)) n h;cases r with
 |none=>exact ξ j
 |some v =>
  refine δ<|AO j λ_ d q=>(δ<|AO q λ_ e u=>δ<|AO u λok b l=>?_);cases ok with
  |false=>exact ξ ⟨rfl,l⟩
  |true=>exact δ<|δ<|AO l λL g y=>δ<|AO y λ_ i z=>ξ<|ξ ⟨rfl,z⟩
def B0(o:TI)(g:TG)(q:TT)(r:TE)(k:Nat)(s:xE):TE:=λe H Q=>o e H λJ u =>
 ∃ W:Nat->Nat->St->cF->Hp->Prop,(∃ m,W 0 m (K6 k s e) [] u)/\∀ i m c ys H,W i m c ys H ->
  (J.stop i H/\∀ p,H p=none->Q (.ref p) (upd H p<|.lst ys)) ∨
  (J.go i H/\ys.length<sizeLine/\∀ x j,J.yld i H x j->g x c j λa v=>q a v λb l =>
   if b=true then ∃ N:VK,(∀ y n,N y n->∃ d,d<m/\W (i+1) d a (ys++[y]) n)/\r a l N else ∃ d,d<m/\W (i+1) d a ys l)
structure CompDone(X:Cx)(fp:wD)(H:Hp)(s:π)(Q:VK)(BX:Value)(C:Addr)(r:Result)(s':π):Prop where
 ok:r=.ok .next
 ex:∃ (D:Addr) (ys:cF) (AK:uD) (n:Nat) (H':Hp),BX=.ref D/\Vals ys AK/\ys.length<=sizeLine/\s'.heap.get? D=some { cls:=.type "list",data:=.seq AK.toArray n }/\s.heap.objs.size<=D/\D≠C/\H' D=none/\H' C=none ∧
  (∃ m,s'.heap.Ns C m)/\Un (EF X.stack) fp H H' s.heap s'.heap/\HOk X.prog X.w H' s'.heap/\∀ p,H' p=none->Q (.ref p) (upd H' p<|.lst ys)
 ge:s.heap.objs.size<=C
 os:s'.os=s.os
 bare:ud s'.gens
section
variable{X:Cx}{AA:yA}{σ:St}{H:Hp}{s:π}
def pQ {scope:Scope} {tt:TT} {te:TE} {U cn:zD} {M:List (Str × Addr)} {tn':Nat->Heap->Prop} {J:It} {Q:VK} {E:yB}
    (I:Inv X AA σ H s) (S:KB X scope U cn A6) (hc:X.calm=true)
    (BN:∀ x c,M.lookup x=some c->X.env.cells.lookup x=some c) (HD:∀ x∈scope.names,x.2=.free->(M.lookup x.1).isSome=true)
    (T:JZ X.prog X.w X.K tg J l it tn') (st:tn' 0 s.heap) (hf:∀ b∈l,FpOk X AA H b)
    (hg:∀ C,PG (X.block AA s H (U++cn) scope M C l) tg g) (ht:∀ C,K7 (X.block AA s H (U++cn) scope M C l) EX tt) (he:∀ C,PE (X.block AA s H (U++cn) scope M C l) EW te)
    (W:Nat->Nat->St->cF->Hp->Prop) (w0:W 0 m0 (K6 U.length A6 σ) [] H)
    (step:∀ i m Y ys H,W i m Y ys H ->
      (J.stop i H/\∀ p,H p=none->Q (.ref p) (upd H p<|.lst ys)) ∨
      (J.go i H/\ys.length<sizeLine/\∀ x H',J.yld i H x H'->g x Y H' λσ2 H2=>tt σ2 H2 λb H3 =>
        if b=true then ∃ N:VK,(∀ y H4,N y H4->∃ m',m'<m/\W (i+1) m' σ2 (ys++[y]) H4)/\te σ2 H3 N else ∃ m',m'<m/\W (i+1) m' σ2 ys H3)) :
    wpAny (model X.prog X.w) X.A (newList []) (λBX A=>wpAny (model X.prog X.w) X.A (newFunctionEnv scope X.env.globals M [] X.env.qual none .none (some X.env)) (λcenv s₄ =>
      vd (model X.prog X.w) X.A (.compStart (.ListComp EW [{tg,iter,EX,0}] scope pos) 0 (.ref it) BX { cenv with scope:=relabel scope X.env }) (CompDone X l H s Q BX cenv.locals) s₄) E A) E s:=by
  refine dk (wpAny_newFunctionEnv S.nocell (by intro y hy;simp at hy) (λB w a=>?_) S.kind);generalize hH2:s.heap.push _=H2 at w a ⊢;generalize hCe:H2.objs.size=C at w a ⊢
  have hC:=hCe.symm.trans (by rw[<-hH2,zt]);generalize hD:s.heap.objs.size=D at *
  have hDC:D≠C:=by rw[hC];exact a_<|fe _
  have old:∀ b o,s.heap.get? b=some o->B.get? b=some o:=λb o e=>by
    have j:b<D:=by rw[<-hD];exact ak e
    exact a.extBut b o (FN j (by rw[hC];exact jv _)) (ν _<|hH2 ▸ ν _ e)
  have hDo:B.get? D=some { cls:=.type "list",data:=.seq ([]).toArray }:=by
    refine a.extBut _ _ hDC<|ν _ ?_;rw[<-hH2,<-hD];exact ae _ rfl
  have hDs:=λz=>FN (I.stklt z) (ba hD) rfl
  have hfl:∀ b∈l,b<s.heap.objs.size:=λb j=>by
    let[o,e,_]:=T.obj 0 _ st b j;exact ak e
  have I0:Inv _ [(D,{ cls:=.type _,data:=.seq _ 0 })] _ H { s with heap:=B,toks:=s.toks+([]:wA).length } :=
    I.block S BN HD hf hfl (by lia) old rfl rfl ⟨_,w⟩ λp O=>by
      rw[aa]at O;subst O;exact{hDo,(by rw[<-hD];exact I.hok.fresh<|ο _),hDC,hDs,λv z=>nomatch z}
  have st1:=T.keep _ _ _ st λb _ o e=>old b o e
  have fpok:∀ {H':Hp} {o:Obj},(∀ b∈l,H' b=none)->∀ b∈l,FpOk (X.block AA s H (U++cn) scope M C l) [(D,o)] H' b:=λ{H' o} hn b j=>by
    let[_,f1,f2,f3,f4,f5]:=hf b j
    have hbl:=hfl b j;refine{hn b j,?_,I.stkne f1 f2,.inl j,λx c e=>f4 x c<|BN x c e,λp O=>?_}
    ·exact FN hbl (by rw[hD,hC];exact jv _)
    · let z||z:=bc.mp O
      ·exact f5 p z
      ·rw[aa]at z;subst z;exact fi<|FN hbl<|ba hD
  have loop:∀ A:π,A={ s with heap:=B,toks:=s.toks+([]:wA).length } ->
      vd (model X.prog X.w) X.A (.compLoop (.ListComp EW [{tg,iter,EX,0}] scope pos) 0 (.ref it) (.ref D) (compEnvC scope M C X.env)) (CompDone X l H s Q (.ref D) C) A:=by
    rintro A rfl;refine zae (λn s'=>∃ i Y ys AK nn H',Inv (X.block AA s H (U++cn) scope M C l) [(D,{ cls:=.type "list",data:=.seq (AK:uD).toArray nn })] Y H' s'/\tn' i s'.heap/\(∀ b∈l,H' b=none)/\Vals ys AK/\ys.length<=sizeLine/\W i n Y ys H') ?_ m0
      {0,_,[],[],0,H,I0,st1,λb j=>(hf b j).1,.nil,bh _,w0}
    intro n s4 [i,σ4,ys,AK,nn,H4,I4,st4,fr4,r4,l4,w4];let[stop,qn]||[go,A0,next]:=step i n σ4 ys H4 w4
    · refine AO (T.done (X.block AA s H (U++cn) scope M C l) rfl rfl rfl hc i _ s4 σ4 H4 _ I4 (fpok fr4) st4 stop) λr s5 d=>?_
      let[hr,I5]:=d;subst hr
      have O:=I5.pin (D,_) (bu _ χ);let[m5,hm5,_]:=I5.loc;exact{rfl,x5 D ys AK nn H4 {rfl,r4,l4,O.1,ba hD,hDC,O.2.1,I5.free,⟨m5,hm5⟩,I5.base,I5.hok,qn},by lia,I5.os,I5.bare}
    · refine AO (T.item (X.block AA s H (U++cn) scope M C l) rfl rfl rfl hc i _ s4 σ4 H4 _ I4 (fpok fr4) st4 go) λr s5 d=> ?_
      let[u,hr,h5]:=d;subst hr;refine AO h5 λ_ s6 d=>?_;let[x,H6,I6,r6,y6,st6,fr6]:=d
      have I6':=I6.pinned (fpok fr6) (T.obj _ _ st6);refine AO (hg C _ s6 σ4 H6 x u _ I6' r6<|next x H6 y6) λ_ s7 d=>?_;let[σ7,H7,I7,q7]:=d;refine AO (ht C _ s7 σ7 H7 _ I7 q7) λok s8 d=>?_;let[H8,I8,q8]:=d
      have L:∀ {σ9:St} {H9:Hp} {s9:π},Inv (X.block AA s H (U++cn) scope M C l) ([(D,{ cls:=.type "list",data:=.seq AK.toArray nn })]++O1 l s6.heap) σ9 H9 s9->(∀ b∈l,∀ o,s6.heap.get? b=some o->s9.heap.get? b=some o)/\∀ b∈l,H9 b=none:=λ{σ9 H9 s9} I9=>by
        refine{λb j o e=>(I9.pin (b,o) (bu _<|bu _<|NE j e)).1,λb j=>?_};let[o,e,_]:=T.obj _ _ st6 b j;exact(I9.pin (b,o) (bu _<|bu _<|NE j e)).2.1
      cases ok with
      |false =>
        let[m',hm',w']:=q8;let[k1,k2]:=L I8;exact{m',hm',x6 (i+1) σ7 ys AK nn H8 {I8.unpinned,T.keep _ _ _ st6 k1,k2,r4,l4,w'}}
      | true =>
        let[Nw,hN,q8]:=q8;refine AO (he C _ s8 σ7 H8 Nw I8 q8) λv s9 d=>?_;let[y,H9,I9,r9,n9]:=d;let[m',hm',w']:=hN y H9 n9;let[k1,k2]:=L I9
        have O:=I9.pin (D,_) (bu _<|ji _ χ)
        have e:=O.1
        have CL:=r4.length;refine iu F.slot_list_append ⟨_,e,rfl⟩ F.entry_list_append (F.args_list_append_2 _ _) (PySem.list_append D AK.toArray nn v (by rw[aw];exact oB (cf (ba CL.symm) A0) rfl)) {e,?_}
        have q:=PySem.IsL.update e<|λxs=>xs.push v
        have Ia:Inv (X.block AA s H (U++cn) scope M C l) [] σ7 H9 s9:=I9.pins_of λp O=>nomatch O
        have Ib:=Ia.turned (h':=s9.heap.update D (gb (·.push v))) (t':=s9.toks) (it:=D) (λb o j eb=>(cm _ _<|fi j).trans eb) O.2.1 hDC (.inr (by show s.heap.objs.size<=D;exact ba hD))
          (λx c ec z=>by
            let[vv,zc]:=I.cell x c<|BN x c ec;exact FN zc.lt (ba hD) z)
          (λp hp'=>by
            rw[ja]at hp';exact FN (I.pinlt hp') (ba hD))
        have q':(s9.heap.update D (gb (·.push v))).get? D=some { cls:=.type "list",data:=.seq (AK++[v]).toArray (nn+1) }:=by
          rw[if_neg (by simp)]at q;rw[<-List.push_toArray];exact q
        refine{m',hm',x6 (i+1) σ7 (ys++[y]) (AK++[v]) (nn+1) H9 {Ib.pins_of<|λp hp'=>?_,T.keep _ _ _ st6 λb j o eb=>?_,k2,r4.append<|.cons r9 .nil,?_,w'}}
        · rw[aa]at hp'
          subst hp';exact{q',O.2.1,hDC,hDs,λv' z=>nomatch z}
        · have hbl:=hfl b j
          exact(cm _ _<|fi<|FN hbl<|ba hD).trans (k1 b j o eb)
        · rw[ai,je]
          exact A0
  exact codeAny_compStart_list (loop _ rfl) (T.self _ 0 _ _ _ st1<|loop _ rfl)
def CompDone.inv{Q:VK}{i:π}(I:Inv X AA σ H s)(hf:∀ b∈v,FpOk X AA H b)(h:CompDone X v H s Q w C r i) :
  ∃ D d,w=.ref D/\Inv X AA σ d i/\Q (.ref D) d/\d C=none/\∃ m,i.heap.Ns C m:=by
 let[z,[D,ys,T,n,d,rfl,y,A,e,p,j,g,l,B,u,ok,q],U,os,bare]:=h
 have c:∀ b o,H b=some o->b≠D:=λb o a=>FN (I.hok.lt a) p;refine x2 D (upd d D<|.lst ys) {rfl,I.call'  os {u.keep,u.slot,λb o a E J=>?_,u.there,λb xs a=>?_,λb o x a=>?_,λb ps a=>?_} (ok.track g {A,x2 _ n ⟨y,e⟩}) bare (λb L=>?_),q D g,?_,B};rw[AI ((λb o a=>FN (ak a) p) b o a)];exact u.free b o a E J;rw[AI (c b _ a)];exact u.tups b xs a;rw[AI (c b _ a)];exact u.frzs b o x a;rw[AI (c b _ a)];exact u.tbls b ps a;let[z,f1,f2,M,N,O]:=hf b L;exact⟨M,f1,N,O⟩;rw[AI (fi j)];exact l
def Inv.letgo{d:π}(I:Inv X AA σ H s)(a:s.heap.objs.size<=C)(j:Inv X AA g i d)(l:i C=none)(hs:gk C d.heap h'):Inv X AA g i { d with heap:=h' }:=by
 refine j.turned   (λb o n e=>(hs.2 b n).trans e) l (λz=>(FN I.lt a z.symm)) (.inr<|ψ I.sz a) (λx c e z=>?_) λp q z=>(FN (I.pinlt q) a z)
 let[v,r]:=I.cell x c e;exact FN r.lt a z
variable{tg iter EW:Expr}{EX:xD}{scope:Scope}{pos:Pos}{wi:TI}{g:TG}{tt:TT}{te:TE}{tn cn:zD}{A6:xE}
def zaf(S:KB X scope tn cn A6)(p:X.calm=true)(q:PI X tg iter wi)
  (u:∀ AA s H a C b,PG (X.block AA s H (tn++cn) scope a C b) tg g) (w:∀ AA s H a C b,K7 (X.block AA s H (tn++cn) scope a C b) EX tt) (he:∀ AA s H a C b,PE (X.block AA s H (tn++cn) scope a C b) EW te)
  (hs:∀ x,ky iter X.env x=pure x:=by intro z;rfl):PE X (.ListComp EW [{tg,iter,EX,0}] scope pos) (B0 wi g tt te tn.length A6):=by
 intro AA s σ H Q I h;let[a,d,y,A]:=pN   λx B e=>I.ok.has _<|S.free x B e;refine ya  rfl hs d S.kind S.names (AO (q _ s σ H _ I h) λv s1 h1=>AO h1 λE s2 h2=>?_);revert h2;apply u5;intro it b L J H2 [rfl,i,T,j,f2,W,[m0,M],c];refine AO (pQ i S p y A T j f2 (λC=>u _ _ _ _ C _) (λC=>w _ _ _ _ C _) (λC=>he _ _ _ _ C _) W M c) λBX s3 h3=>AO h3 λo s4 h4=>mx h4 λr s5 h5=>?_
 have N:=h5.ok;subst N;refine u2 ?_<|h5.inv i f2;intro D O [rfl,U,Y,l,m,hm];exact{m,hm,λh' n=>x2 (.ref D) O {i.letgo h5.ge U l n,rfl,Y}}
def zag{x:Str}{E b:Pos}(S:KB X scope tn cn A6)(M:X.calm=true)(O:X.N.Nodup)(n:X.N[i]? =some x)(l:X.env.scope.names.lookup x=some .local)(U:PI X tg iter wi)
  (Y:∀ AA s H c C d,PG (X.block AA s H (tn++cn) scope c C d) tg g) (ht:∀ AA s H c C d,K7 (X.block AA s H (tn++cn) scope c C d) EX tt) (he:∀ AA s H c C d,PE (X.block AA s H (tn++cn) scope c C d) EW te)
  (o:we (.ListComp EW [{tg,iter,EX,0}] scope pos) (some<|.Name x E) b.line X.env=pure true:=by rfl)
  (hs:∀ x,ky iter X.env x=pure x:=by intro y;rfl):PS X (.Assign [.Name x E] (.ListComp EW [{tg,iter,EX,0}] scope pos) b) (AT (B0 wi g tt te tn.length A6) (AG i)):=by
 intro AA s σ H D I h;let[c,p,BN,HD]:=pN   λx l q=>I.ok.has _<|S.free x l q;rw[exec_Assign_Name_used _ _ _ _ o];refine δ<|B_<|δ<|δ<|ya  rfl hs p S.kind S.names (AO (U _ s σ H _ I h) λv s1 h1=>AO h1 λitv s2 h2=>?_);revert h2;apply u5;intro it d tn' J H2 [rfl,e,T,u,f2,W,[m0,w0],j];refine AO (pQ (Q:=λx' H1=>AG i x' σ H1 _) e S M BN HD T u f2 (λC=>Y _ _ _ _ C _) (λC=>ht _ _ _ _ C _) (λC=>he _ _ _ _ C _) W w0 j) λBX s3 h3=>AO h3 λL s4 h4=>mx h4 λr s5 h5=>?_
 have hr:=h5.ok;subst hr;refine u2 ?_<|h5.inv e f2;intro Da H' [rfl,I5,q5,w,m,hm];refine Dt<|mX I5 O n (.inl l) (show RelV (.ref Da) _ from rfl) (λs6 I6 ⟨a,A,ha⟩=>{m,hm.sameBut A ?_,λh' B=>(ξ<|ξ<|x2 _ H' {e.letgo h5.ge I6 w B,q5})}) (.inr l);let z||z:=ha
 exact fi<|z ▸ FN e.lt h5.ge;let[vv,zc]:=e.cell x a z;exact fi<|FN zc.lt h5.ge
end
def ObjOk.there(x:ObjOk P w H h a o):∃ ob,h.get? a=some ob:=by
 cases o with
 |lst xs=>let[z,z,z,z,e]:=x;exact⟨_,e⟩
 |tup xs=>let[z,z,z,ob,e,z]:=x;exact⟨_,e⟩
 |dK kvs=>let[z,z,z,z,ob,z,z,e,z]:=x;exact⟨_,e⟩
 |dT kvs=>let[z,z,z,z,ob,z,z,e,z]:=x;exact⟨_,e⟩
 |set S n=>revert x;apply u4;intro ob z z z [e,z];exact⟨_,e⟩
 |ins C b fs=>let[z,z,z,e,z]:=x;exact⟨_,e⟩
 |own y=>exact x
 |xd fs=>let[z,[ob,z,z,e,z],z]:=x;exact⟨_,e⟩
 |rng lo c=>revert x;apply u3;rintro z z z e;exact⟨_,e⟩
 |frz ob u=>let[e,z]:=x;exact⟨_,e⟩
 |tbl ps=>exact⟨_,x⟩
 |met f y=>exact⟨_,x⟩
 |ext d =>exact x.2.1
def HOk.nh(x:HOk P w H h)(e:h.get? a=none):H a=none:=by
 cases q:H a with
 |none=>rfl
 |some o =>
  let[ob,b]:=(x a o q).there;rw[e]at b;cases b
section
variable{X:Cx}{AA:yA}{σ:St}{H H':Hp}{s:π}{h':Heap}
def Inv.stepN{O:Array Ds}{t':Nat}{Y:Drawn}{ch:wD}(I:Inv X AA σ H s)
  (E:∀ b∈ch,(b∈X.ex\/X.s₀.heap.get? b=none)/\b≠X.env.locals/\(∀ x c,X.env.cells.lookup x=some c->c≠b)/\∀ p∈X.pn++AA,p.1≠b)
  (keep:∀ b o,b≠X.env.locals->b∉X.fs->b∉ch->s.heap.get? b=some o->H b=none->h'.get? b=some o)
  (slot:∀ b o,b≠X.env.locals->b∈X.fs->b∉ch->s.heap.get? b=some o->H b=none->∃ N,h'.get? b=some { o with slots:=N }) (free:∀ b o,b∉ch->s.heap.get? b=some o->H b=none->H' b=none)
  (there:∀ b o,b∉ch->s.heap.get? b=some o->∃ J,h'.get? b=some J)
  (tups:∀ b xs,H b=some (.tup xs)->H' b=some (.tup xs)) (frzs:∀ b o u,H b=some (.frz o u)->H' b=some (.frz o u)) (tbls:∀ b ps,H b=some (.tbl ps)->∃ more,H' b=some (.tbl<|ps++more))
  (ns:∀ m,s.heap.Ns X.env.locals m->h'.Ns X.env.locals m) (hok:HOk X.prog X.w H' h') (hg:ud O) :
  Inv X AA σ H' { s with heap:=h',gens:=O,drawn:=Y,toks:=t' }:=by
 have L:∀ b o,X.s₀.heap.get? b=some o->b≠X.env.locals:=λb o e=>a_<|ω (ak e) I.ok.above
 have w:∀ b o,X.s₀.heap.get? b=some o->b∉X.ex->b∉ch:=λb o e a B=>by
  let z||z:=(E b B).1
  exact a z;rw[e]at z;cases z
 have g:∀ x c,X.env.cells.lookup x=some c->∀ v,s.heap.IsCell c v->h'.IsCell c v:=λx c e v ⟨o,D,hd⟩=>by
  have j:=λz=>(E c z).2.2.1 x c e rfl;by_cases Q:c∈X.fs;let[N,q]:=slot c o (I.cne x c e) Q j D (I.freeC x c e);exact⟨_,q,hd⟩;exact{o,keep c o (I.cne x c e) Q j D (I.freeC x c e),hd}
 refine{I.ok,I.os,hg,{λb o e n B a=>(keep b o (L b o e) B (w b o e a) (I.base.keep b o e n B a) (I.base.free b o e n a)),λb o e n B a=>?_,λb o e n a=>?_,λb o e a=>?_,λb xs e=>tups b xs<|I.base.tups b xs e,λb o xs e=>frzs b o xs<|I.base.frzs b o xs e,λb ps e=>?_},?_,λx c e=>?_,?_,λx c e=>?_,λp T=>?_,hok,I.len};let[N,A]:=I.base.slot b o e n B a;let[sl',M]:=slot b _ (L b o e) B (w b o e a) A (I.base.free b o e n a);exact⟨_,M⟩;let[J,A]:=I.base.there b o e a;exact free b J (w b o e a) A (I.base.free b o e n a);let[J,A]:=I.base.there b o e a;exact there b J (w b o e a) A;let[m1,A]:=I.base.tbls b ps e;let[m2,M]:=tbls b _ A;exact{_,by rw[M,Ct]};let[m,hn,hl]:=I.loc;refine{m,ns m hn,λi x v A M e3=>?_};let[u,r,l]:=hl i x v A M e3;refine{u,r,?_};let l||[k,c,e,z]:=l
 exact .inl l;exact .inr {k,c,e,g x c e _ z};let[v,z]:=I.cell x c e;exact{v,g x c e v z};let[m,[o,y,y,D,y],y]:=I.loc;exact free _ o (λz=>(E _ z).2.1 rfl) D I.free;let[v,o,D,hd]:=I.cell x c e;exact free c o (λz=>(E c z).2.2.1 x c e rfl) D (I.freeC x c e)
 have j:=λz=>(E _ z).2.2.2 p T rfl;let[e,n,ne,U,d]:=I.pin p T;exact{keep _ _ ne U j e n,free _ _ j e n,ne,U,d}
end
structure Fly(bad:Addr->Prop)(H:Hp)(h:Heap)(e:Addr)(cls:Value):Prop where
 nb:¬ bad e
 free:H e=none
 ex:∃ (oe:Obj) (vs:Array Value),h.get? e=some oe/\oe.cls=cls/\oe.dict=none/\oe.data=.fields vs/\(vs[1]? =some .none ∨
  ∃ (T:Addr) (oT:Obj) (ts:Array Value),vs[1]? =some (.ref T)/\¬ bad T/\H T=none/\T≠e/\h.get? T=some oT/\oT.data=.fields ts/\ts[3]? =some .none)
def Fly.mono(F:Fly bad H h e cls)(k:∀ a,d a->bad a):Fly d H h e cls:=by
 let[g,fr,i,vs,h1,h2,h3,h4,h5]:=F;refine{λz=>g<|k _ z,fr,x2 i vs {h1,h2,h3,h4,?_}};let z||[T,j,l,a,b,c]:=h5
 exact .inl z;exact .inr<|x3 T j l {a,λz=>b<|k _ z,c}
section
variable{M:Model}{A:dr}{E:yB}{s:π}
def pR
  (D:A.frames=some (env::outer)) (r:s.heap.FunFrames base (env::outer)) (hf:env.frame=some L) (he:s.heap.get? e=some u) (d:u.data=.fields vs) (hsz:1<vs.size)
  (h:∀ h' T v w,(∀ b o,s.heap.get? b=some o->b≠e->b∉EF (env::outer)->h'.get? b=some o)->(∀ b o,s.heap.get? b=some o->b≠e->∃ n,h'.get? b=some { o with slots:=n }) ->
   h'.get? e=some (u.mapFields (·.setIfInBounds 1 (.ref T)))->s.heap.objs.size<=T->h'.get? T=some v->v.data=.fields w->w[3]? =some (lj L)->Q () { s with heap:=h' }) :
  wpAny M A (do let a ← frameOf env;let l ← entryPlaceOf L nx;let b ← EntryCells.newEntry hd a .none (lj L) .none l;setField (.ref e) 1 b) Q E s:=by
 have p:e∉(env::outer).filterMap _:=λz=>by
  let[y,o,x,H]:=r.mem z;rw[he]at x;obtain rfl:=ι x;exact H vs d
 refine δ<|wpAny_frameOf_fun D r hf λh1 c=>(δ<|wpAny_entryPlaceOf λl B=>(δ<|dk ?_<|B.sizeOk5 _ _ _ _ _))
 have g:=(c.2.1 e p).trans he
 have keep:∀ b o,b≠e->h1.get? b=some o->((h1.push { cls:=.type "traceback",dict:=none,data:=.fields ([hd,.ref L,.none,lj L,.none]++(if l.isEmpty then bd 6 ip else l)).toArray }).update e (vg (·.setIfInBounds 1 (fh h1.objs.size)))).get? b=some o:=λb o i j=>by
  rw[cm _ _ (fi i)];exact ν _ j
 refine me (ν _ g) d hsz ?_;refine h _ _ _ _ (λb o j i q=>keep b o i<|(c.2.1 b q).trans j) (λb o j i=>?_) (cy _ (ν _ g) (oa<|ig d _)) (by rw[c.1];exact ο _)
  ((cm _ _<|fi<|gr<|ak g).trans (ae _ rfl)) rfl ?_
 let[n,I]:=c.2.2 b o j;exact{n,keep b _ i I}
 first|(done)|(let rfl||[_,_,_,_,_,_,_,rfl]:=B<;>simp)
structure XG(fr:wD)(bad:Addr->Prop)(H:Hp)(e:Addr)(cls:Value)(h h':Heap):Prop where
 ch:∃ ch:wD,(∀ b∈ch,¬ bad b/\H b=none/\∃ o vs,h.get? b=some o/\o.data=.fields vs)/\(∀ b o,h.get? b=some o->b∉ch->b∉fr->h'.get? b=some o) /\
  (∀ b o,h.get? b=some o->b∉ch->∃ sl,h'.get? b=some { o with slots:=sl })
 fly:Fly bad H h' e cls
def pT
  (OT:A.frames=some (env::outer)) (hl:s.heap.FunFrames base (env::outer)) (hf:env.frame=some L) (F:Fly bad H s.heap e cls) (hb:∀ a,s.heap.objs.size<=a->¬ bad a) (hH:∀ a,s.heap.objs.size<=a->H a=none)
  (h:∀ h',XG (EF (env::outer)) bad H e cls s.heap h'->Q () { s with heap:=h' }) :
  wpAny M A (Lo (.ref e) env) (λy s2=>wpAny M A2 (Hi (.ref e) none) Q E2 s2) E s:=by
 let[nb,fr,oe,vs,he,WI,WH,hd,htb]:=F
 have rest:∀ (s1:π) (ch:List _) (h':Heap) (T:Addr) (oT:Obj) (ts:Array _) (oe1:Obj),(∀ b o,s.heap.get? b=some o->s1.heap.get? b=some o\/b∈ch)->s1.heap.objs.size=s.heap.objs.size->e∈ch->(∀ b∈ch,¬ bad b/\H b=none/\∃ o vs,s.heap.get? b=some o/\o.data=.fields vs) ->
   oe1.cls=cls->oe1.dict=none->oe1.data=.fields vs->1<vs.size ->
   (∀ b o,s1.heap.get? b=some o->b≠e->b∉EF (env::outer)->h'.get? b=some o)->(∀ b o,s1.heap.get? b=some o->b≠e->∃ sl,h'.get? b=some { o with slots:=sl }) ->
   h'.get? e=some (oe1.mapFields (·.setIfInBounds 1 (.ref T)))->s1.heap.objs.size<=T->h'.get? T=some oT->oT.data=.fields ts->ts[3]? =some (lj L)->wpAny M A2 (Hi (.ref e) none) Q E2 { s with heap:=h' }:=by
  intro s1 ch h' T oT ts oe1 hk1 hsz hech DO hcls1 hdict1 hd1 hv k1 k2 e1 hT e2 hdT h3
  have hT':=hsz ▸ hT
  have hTe:=fi<|FN (ak he) hT'
  have hde:=ig hd1 (·.setIfInBounds 1 (fh T))
  have hs3:=(iw.mp h3).1;refine δ (jk e1 hde (x:=.ref T) (by simp[hv]) (me e2 hdT hs3<|h _ ?_))
  have oth:∀ b,b≠T->(h'.update T (vg (·.setIfInBounds 3 ((none:Option Addr).elim ip λf=>lj f)))).get? b=h'.get? b:=λb hb'=>cm _ _<|fi hb'
  have ltT:∀ b o,s.heap.get? b=some o->b≠T:=λb o eb=>FN (ak eb) hT';refine{{ch,DO,λb o eb hbc hbf=>?_,λb o eb hbc=>?_},nb,fr,y2 {(oth e<|fi hTe).trans e1,(Er _ _).trans hcls1,?_,hde,.inr (x3 T _ _ {by simp[hv],hb T hT',hH T hT',hTe,cy _ e2<|oa<|ig hdT _,ig hdT _,by simp[hs3]})}};rw[oth b (ltT b o eb)];let z||z:=hk1 b o eb
  exact k1 b o z (λz'=>hbc<|z' ▸ hech) hbf;exact absurd z hbc;rw[oth b (ltT b o eb)];let z||z:=hk1 b o eb
  exact k2 b o z<|λz'=>hbc<|z' ▸ hech;exact absurd z hbc;let[c1,c2,c3,c4]:=oe1;subst hd1;exact hdict1
 unfold Lo;simp only[hf];let h1||[T0,oT0,ts0,h1,nbT,frT,neT,eT,dT,h3]:=htb
 have hv:=(iw.mp h1).1;refine δ<|jk he hd h1 ?_;exact pR OT hl hf he hd hv λh' T oT ts k1 k2 e1 hT e2 hdT h3=>(rest s [e] h' T oT ts oe (λb o eb=>.inl eb) rfl (by simp) (λb hb'=>by rw[aa]at hb';subst hb';exact{nb,fr,x2 oe vs ⟨he,hd⟩}) WI WH hd hv k1 k2 e1 hT e2 hdT h3)
 have hv:=(iw.mp h1).1;refine δ<|jk he hd h1 ?_;refine δ<|jk eT dT h3 ?_;refine δ<|me eT dT (iw.mp h3).1 ?_
 have oth:∀ b,b≠T0->(s.heap.update T0 (vg (·.setIfInBounds 3 ip))).get? b=s.heap.get? b:=λb hb'=>cm _ _<|fi hb';refine pR OT (hl.of_keeps λb o eb hn=>{o,(oth b ((λb o eb hn z=>by rw[z,eT]at eb;obtain rfl:=ι eb;exact hn _ dT) b o eb hn)).trans eb,rfl}) hf ((oth e<|fi neT).trans he) hd hv λh' T oT ts k1 k2 e1 hT e2 hdT h3'=>?_;exact rest _ [e,T0] h' T oT ts oe
  (λb o eb=>by
   by_cases z:b=T0;exact .inr (by simp[z]);exact .inl<|(oth b z).trans eb)
  (Heap.size_after_update ..) (by simp)
  (λb hb'=>by
   let z||z:=aj.mp hb'
   subst z;exact{nb,fr,x2 oe vs ⟨he,hd⟩}
   ·rw[aa]at z;subst z;exact{nbT,frT,x2 oT0 ts0 ⟨eT,dT⟩})
  WI WH hd hv k1 k2 e1 hT e2 hdT h3'
end
def Cx.bad(X:Cx)(b:yA):Addr->Prop:=λa=>X.s₀.heap.get? a≠none\/∃ p∈X.pn++b,p.1=a
structure XOk(X:Cx)(E:St->XK):Prop where
 po:G_ (model X.prog X.w) X.A X.env X.xe
 ex:X.ex=[]
 calm:X.calm=true
 go:∀ (AA:yA) (σ:St) (H:Hp) (s:π) (e:Addr) (cls:Value),Inv X AA σ H s->Fly (X.bad AA) H s.heap e cls->E σ cls none H->X.xe (.ref e) s
section
variable{X:Cx}{AA:yA}{σ:St}{H:Hp}{s:π}
def Inv.notbad(I:Inv X AA σ H s)(b:X.ex=[])(h:s.heap.get? a=none):¬ X.bad AA a:=λz=>by
 let z||[p,c,rfl]:=z
 cases q:X.s₀.heap.get? a with
 |none=>exact z q
 |some o =>
  let[d,e]:=I.base.there a o q (by rw[b];simp);rw[h]at e;cases e
 have:=(I.pin p c).1;rw[h]at this;cases this
def pU{h:Heap}(z:h.objs.size<=a):h.get? a=none:=by
 cases q:h.get? a with
 |none=>rfl
 |some o=>exact absurd (ω (ak q) z) (ju _)
def Inv.noted{e:Addr}{cls:Value}{h':Heap}(I:Inv X AA σ H s)(N:XG (EF X.stack) (X.bad AA) H e cls s.heap h'):Inv X AA σ H { s with heap:=h' }:=by
 let[[ch,A,k1,k2],y]:=N;let[mL,[oL,M,O,j,Q,rL],y]:=id I.loc
 have i:∀ b∈ch,∀ o,s.heap.get? b=some o->∃ vs,o.data=.fields vs:=λb l o a=>by
  let[y,y,T,vs,J,d]:=A b l;rw[a]at J;obtain rfl:=ι J;exact⟨vs,d⟩
 have L:X.env.locals∉ch:=λz=>by
  let[vs,d]:=i _ z _ j;rw[Q]at d;cases d
 refine I.stepN     (λb l=>{.inr ?_,λz=>L<|z ▸ l,λx c U z=>?_,λp Y z=>(A b l).1 (.inr ⟨p,Y,z⟩)})
  (λb o B D g a y=>k1 b o a g λz=>(aj.mp<|I.stkSub b z).elim B D) (λb o y y g a y=>k2 b o a g) (λy y y y n=>n) (λb o g a=>?_) (λy y q=>q) (λy y y q=>q) (λb ps q=>{#[],by rw[q];simp}) (λm hm=>?_) (λb o a=>?_) I.bare
 cases q:X.s₀.heap.get? b with
 |none=>rfl
 |some o=>exact absurd (.inl (by rw[q];simp)) (A b l).1
 let[v,oc,E,hd]:=I.cell x c U;let[vs,d]:=i c (z ▸ l) oc E;rw[hd]at d;cases d;let[sl,q]:=k2 b o a g;exact⟨_,q⟩;revert hm;apply u3;intro T es' ep' [w,r'];rw[j]at w;obtain rfl:=ι w;let[sl,q]:=k2 _ _ j L;exact x3 _ _ _ ⟨q,r'⟩;refine(I.hok b o a).stay (λc u r q=>k1 c u q ?_ ?_) (λy q=>q) λy y q=>q;intro z
 have fr:=(A c z).2.1;let rfl||r:=r
 rw[a]at fr;cases fr;rw[r]at fr;cases fr;intro z
 have fr:=I.stkFree c z;let rfl||r:=r
 rw[a]at fr;cases fr;rw[r]at fr;cases fr
def EH(P:bw)(w:World):IE:=λouter H s E e b=>∃ (d:Addr) (cls:Value) (c:Hp),e=.ref d/\b.os=s.os/\ud b.gens/\Un (EF outer) [] H c s.heap b.heap/\HOk P w c b.heap/\Fly (λa=>s.heap.get? a≠none) c b.heap d cls/\E cls none c
def pV(h:EH P w outer H s (λ_ _ _=>False) e a):False:=by
 revert h;apply u3;intro z z z [z,z,z,z,z,z,f];exact f
def XOk.passes(x:XOk X E):HF (EH X.prog X.w) X E:=λAA σ H s e d I h=>by
 revert h;apply u3;intro g cls i [rfl,os,bare,un,hok,F,q];refine x.go _ σ i d g _ (I.call'  os un hok bare λb z=>absurd z (by simp)) (F.mono λa z=>?_) q;let z||[p,j,rfl]:=z
 cases c:X.s₀.heap.get? a with
 |none=>exact absurd c z
 |some o =>
  let[l,e]:=I.base.there a o c (by rw[x.ex];simp);rw[e];simp
 rw[(I.pin p j).1];simp
def pW:HF (EH P w) X (λ_=>E0):=λz z z z z z z h=>(pV h).elim
end
def zah{P:bw}{w:World}{K:W.Frag}{mg:uB}{base:Heap}{N:zD}{b:Str}{scope:Scope}{f:Addr}{d:Value}{A:dr}{outer:cE}{s:π}{H:Hp}{E:XK} :
  XOk (IZ (EH P w) P w K mg base N b scope f d A outer s H E) (λ_=>E) where
 po:=PassesOwn.leaving
 ex:=rfl
 calm:=rfl
 go:=λi j g l e cls I F q=>by
  refine δ<|pT I.ok.frames I.stack rfl F (λa z=>I.notbad rfl<|pU z) (λa z=>I.hok.fresh z) λh' N=>?_
  have c:=I.noted N;exact x3 e _ g {rfl,c.os,c.bare,c.base,c.hok,N.fly.mono λa z=>.inl z,q}
structure Exc(K:W.Frag)(C:Addr):Prop where
 nm:∃ x,W.nsIn K bq x=some (some<|.ref C)
 ex:W.excIn K C [.type "ValueError",.type "Exception",.type "BaseException",.type "object"] "ValueError.__new__"=true
def zai:Value->Str
 |.str n _=>n
 |_=>""
def Mod.top{K:W.Frag}{mg:uB}{h:Heap}(M:Mod K mg h)(p:bw):∃ l a,W.TopRead p l mg a h:=by
 let[a,i,he]:=M.blt;let[o,b,q,h1,h2,h3,h4]:=id M.glob;refine{b.toList.map λe=>zai e.key,a,M.glob,i,M.nolimit,he,λx z j z z z=>?_};rw[<-h4];unfold nsFind findBy;cases e:b.find? λe=>e.key.isStr x with
 |none=>rfl
 |some d =>
  have hd:=Array.mem_of_find?_eq_some e
  have c:=Array.find?_some e;let[n,t,g]:=h3 d hd;rw[g]at c;exact(j (ay.mpr {d,zr.mpr hd,by rw[g];exact Value.isStr_inj _ _ _ (show(Gr n t).isStr n=true by simp[Value.isStr]) c})).elim
def Exc.obj{K:W.Frag}{mg:uB}{h:Heap}(x:Exc K C)(M:Mod K mg h)(p:bw):type_of% (W.own_of_in (p:=p) M.kin (M.top p).choose_spec.choose_spec x.nm.choose_spec x.ex).obj:=(W.own_of_in (p:=p) M.kin (M.top p).choose_spec.choose_spec x.nm.choose_spec x.ex).obj
def E9(C:Addr)(E:St->XK)(t:TA):TS:=λ_ a H=>t a H λvs b=>vs.length<=sizeLine/\E a (.ref C) none b
section
variable{X:Cx}{E:St->XK}{C:Addr}{x:Str}{np DK pos:Pos}{e:Expr}{es:xD}{t:TA}
def K8(g:XOk X E)(c:Exc X.K C)(p:Gl X x)(u:X.mg x=some (.ref C))(v:PA X (e::es) t)(i:(x ==("__debug__":Str))=false:=by decide)
  (he:az (e::es) X.env=(false,eval e X.env)::az es X.env:=by rfl) (w:(jj DK<|az es X.env).any (·.1)=false:=by rfl) :
  PS X (.Raise (some<|.Call (.Name x np) (e::es) [] DK) none pos) (E9 C E t):=by
 refine λM s j H D I h=>Ql ?_<|c.obj I.mod X.prog;intro O N nm q bs hdct sn sub ab col dd k0 k1 k2 [k3,k5,Q,y,A,l,T]
 have b:(jj DK<|az (e::es) X.env).any (·.1)=false:=by
  rw[he]
  show(false||(jj _ _).any _)=false;rw[w];rfl
 have n:=v DK _ s j H _ I h;refine wpAny_Raise_call_subT  (nm:=nm) (q:=q) (N:=N) (bs:=bs)  (hdct:=hdct) (sn:=sn) (sub:=sub) (ab:=ab) (col:=col) (dd:=dd) (k0:=k0) (k1:=k1) (k2:=k2) (k3:=k3) (k5:=k5)
  PySem.F.excBase_ValueError  (T.hasType PySem.F.excBase_ValueError.hasBase) (I.ok.hd g.calm) b l (MA I p u {rfl,?_} i)
 rw[he]at n ⊢;refine pd<|AO n λus B ⟨vs,o,a,r,hz,q1⟩=>{rfl,?_,a.bk _ _ y,A.keeps a.bk,T.keeps a.bk,λh' J d=>?_};rw[<-r.length];exact hz
 have L:Inv X _ j o { B with heap:=h' }:=a.kept  d.keeps;let[U,h1,h2,h3]:=d.there;refine g.go _ j o _ J _ L {λz=>a.notbad g.ex d.new z,a.hok.nh d.new,y2 {h1,rfl,rfl,rfl,.inl rfl}} q1
end
section
variable(P:bw)(w:World)(K:W.Frag)(mg:uB)(base:Heap)
structure S6(k:Nat)(x:Str)(ps:zD)(sp:Sp):Prop where
 ex:∃ (f:Addr) (fd:gx),FnOk P w K mg base (EH P w) k f fd ps sp/\mg x=some (.ref f)/\W.keepIn K (.ref f)=true/\Binds K fd ps []
structure NM(C:Addr)(k:Nat)(m:Str)(ps:zD)(sp:Sp):Prop where
 ex:∃ (f:Addr) (fd:gx),FnOk P w K mg base (EH P w) k f fd ps sp/\SR K C m f/\Binds K fd ps []
structure XH(C:Addr)(k:Nat)(x:Str)(ps:zD)(sp:Sp):Prop where
 ex:∃ (f:Addr) (fd:gx),FnOk P w K mg base (EH P w) k f fd ps sp/\Mk K C f/\mg x=some (.ref C)/\Binds K fd ps []
end
section
variable{X:Cx}{E:St->XK}{k:Nat}{x m:Str}{ps:zD}{sp:Sp}{C:Addr}{p pos CW:Pos}{e o:Expr}{es:xD}{ta:TE}{t:TA}
def pX(c:S6 X.prog X.w X.K X.mg X.base k x ps sp)(b:Room k X.A)(d:HF (EH X.prog X.w) X E)(g:Gl X x)(i:PA X (e::es) t)(a:(x ==("__debug__":Str))=false:=by decide)
  (he:az (e::es) X.env=(false,eval e X.env)::az es X.env:=by rfl) (j:(jj pos<|az es X.env).any (·.1)=false:=by rfl):PE X (.Call (.Name x p) (e::es) [] pos) (MF sp [] E t):=by
 refine u2 ?_ c.ex;intro f fd [F,l,n,q];exact Wl F b g l n q .nil d i a he j
def XI(he:PE X o ta)(d:Cls X.K C)(c:NM X.prog X.w X.K X.mg X.base C k m ps sp)(g:Room k X.A)(i:HF (EH X.prog X.w) X E)(j:PA X (e::es) t)
  (a:az (e::es) X.env=(false,eval e X.env)::az es X.env:=by rfl) (l:(jj pos<|az es X.env).any (·.1)=false:=by rfl)
  (n:eval (.Call (.Attribute o m CW) (e::es) [] pos) X.env=(do
   let b ← eval o X.env
   yp CW.atName
   let (f,first) ← ue [b] (uw b m s)
   zu pos f first (jj pos<|az (e::es) X.env) (vj pos<|mo [] X.env)):=by rfl):PE X (.Call (.Attribute o m CW) (e::es) [] pos) (IY C m sp [] E ta t):=by
 refine u2 ?_ c.ex;intro f fd [F,q,r];exact Wm he d q F g r .nil i j a l n
def zaj(he:PE X o ta)(b:Cls X.K C)(c:NM X.prog X.w X.K X.mg X.base C k m ps sp)(d:Room k X.A)(g:HF (EH X.prog X.w) X E)
  (i:eval (.Call (.Attribute o m CW) [] [] pos) X.env=(do
   let a ← eval o X.env
   yp CW.atName
   let (f,first) ← ue [a] (uw a m n)
   zu pos f first (jj pos<|az [] X.env) (vj pos<|mo [] X.env)):=by rfl):PE X (.Call (.Attribute o m CW) [] [] pos) (IY C m sp [] E ta BM):=by
 refine u2 ?_ c.ex;intro f fd [F,j,l];exact Wp he b j F d l .nil g i
def zak(c:XH X.prog X.w X.K X.mg X.base C k x ps sp)(b:Room (k+1) X.A)(d:HF (EH X.prog X.w) X E)(g:Gl X x)(i:PA X (e::es) t)(a:(x ==("__debug__":Str))=false:=by decide)
  (he:az (e::es) X.env=(false,eval e X.env)::az es X.env:=by rfl) (j:(jj pos<|az es X.env).any (·.1)=false:=by rfl):PE X (.Call (.Name x p) (e::es) [] pos) (NG C sp [] E t):=by
 refine u2 ?_ c.ex;intro f fd [F,M,l,n];exact Wv M F b g l n .nil d i a he j
end
def Fun.okE{P:bw}{w:World}{K:W.Frag}{mg:uB}{base:Heap}{x a:Str}{st:Stmt}{f:Addr}{fd:gx}{N ps:zD}{k:Nat}{sp:Sp}(F:Fun K x a st f fd)(S:FnScope N ps (AU st))(len:∀ vs H Q E,sp vs H Q E->vs.length=ps.length)
  (d:∀ (b:Value) (A:dr) (outer:cE) (s:π) (H:Hp) (vs:cF) (Q:VK) (E:XK),Room k (A.deeper<|x_ a (AU st) s.heap.objs.size f b)->sp vs H Q E ->
   ∃ t,E8 (IZ (EH P w) P w K mg base N a (AU st) f b A outer s H E) (HL st) t/\t { nx:=λz e=>Q .non e,rt:=Q } (AW N vs) H):FnOk P w K mg base (EH P w) (k+1) f fd ps sp:=by
 refine u9 ?_ F.ex;intro n o kV g pm p b ct i [rfl,l,c];exact Wx l c S len λA outer s H vs Q E j h=>d _ A _ s H vs Q E j h
def GV(mg:uB)(x:Str)(v:V):Prop:=∃ u,mg x=some u/\RelV v u
def K9(g:GV X.mg x v)(a:Gl X x)(hd:(x ==("__debug__":Str))=false:=by decide):PE X (.Name x pos) (tC v):=by
 let[u,b,r]:=g;exact Rv a b r hd
abbrev Cx.tri(X:Cx)(pn:yA)(xe:yB):Cx:={ X with pn:=pn,xe:=xe }
abbrev Cx.hand(X:Cx)(e:Addr):Cx:={ X with A:=X.A.mark<|some<|.ref e,calm:=false,xe:=λ_ _=>False }
section
variable{X:Cx}{AA:yA}{σ:St}{H:Hp}{s:π}
def Cx.Ok.tri{pn:yA}{xe:yB}(ok:X.Ok):(X.tri pn xe).Ok :=
 ⟨ok.mod,ok.kind,ok.glob,ok.blt,ok.above,ok.inj,ok.has,ok.cab,ok.hd,ok.frames,ok.stk,ok.exf,ok.bs,ok.bsz,ok.noex,ok.exfs,ok.funs,ok.frf⟩
def Inv.tri(I:Inv X AA σ H s):Inv (X.tri (X.pn++AA) xe) [] σ H s :=
 {I.ok.tri,I.os,I.bare,I.base,I.loc,I.cell,I.free,I.freeC,λp a=>I.pin p (by simpa using a),I.hok,I.len}
def Cx.Ok.untri{pn:yA}{xe:yB}(ok:(X.tri pn xe).Ok):X.Ok :=
 ⟨ok.mod,ok.kind,ok.glob,ok.blt,ok.above,ok.inj,ok.has,ok.cab,ok.hd,ok.frames,ok.stk,ok.exf,ok.bs,ok.bsz,ok.noex,ok.exfs,ok.funs,ok.frf⟩
def Inv.untri(I:Inv (X.tri (X.pn++AA) xe) b σ H s):Inv X AA σ H s :=
 {I.ok.untri,I.os,I.bare,I.base,I.loc,I.cell,I.free,I.freeC,λp a=>I.pin p<|ji _ a,I.hok,I.len}
def Cx.Ok.hand(ok:X.Ok):(X.hand e).Ok :=
 {ok.mod,ok.kind,ok.glob,ok.blt,ok.above,ok.inj,ok.has,ok.cab,(λz=>nomatch z),ok.frames,ok.stk,ok.exf,ok.bs,ok.bsz,ok.noex,ok.exfs,ok.funs,ok.frf}
def Inv.hand(I:Inv X AA σ H s):Inv (X.hand e) AA σ H s:=⟨I.ok.hand,I.os,I.bare,I.base,I.loc,I.cell,I.free,I.freeC,I.pin,I.hok,I.len⟩
def Inv.unhand(ok:X.Ok)(I:Inv (X.hand e) AA σ H s):Inv X AA σ H s:=⟨ok,I.os,I.bare,I.base,I.loc,I.cell,I.free,I.freeC,I.pin,I.hok,I.len⟩
end
abbrev TH:=Value->Ends->St->Hp->Prop
def XJ:TH:=λ_ _ _ _=>False
def S7(p:Value->Option Bool)(b:TS)(rest:TH):TH:=λcls D a H=>(p cls=some true/\b D a H)\/(p cls=some false/\rest cls D a H)
def Ends.drop(D:Ends)(i:Nat):Ends:={ nx:=λa H=>D.nx (a.set i none) H,rt:=D.rt,bk:=λa H=>D.bk (a.set i none) H,ct:=λa H=>D.ct (a.set i none) H }
def PH(X:Cx)(hs:List yb)(c:TH):Prop :=
 ∀ (a:yA) (s:π) (b:St) (H:Hp) (D:Ends) (e:Addr) (cls:Value),X.ex=[]->Inv X a b H s->Fly (X.bad a) H s.heap e cls->c cls D b H ->
  wpAny (model X.prog X.w) X.A (handleBy (.ref e) X.env hs) (SP X a D) X.xe s
def PX(X:Cx)(t:Expr)(p:Value->Option Bool):Prop :=
 ∀ (a:yA) (s:π) (g:St) (H:Hp) (e:Addr) (cls:Value) (b:Bool) (Q:Bool->π->Prop) (E:yB),Inv X a g H s->Fly (X.bad a) H s.heap e cls->p cls=some b ->
  (∀ d,Inv X a g H d->Fly (X.bad a) H d.heap e cls->Q b d)->wpAny (model X.prog X.w) (X.A.mark<|some<|.ref e) (eval t X.env) (λc i=>wpAny (model X.prog X.w) (X.A.mark<|some<|.ref e) (excMatches (.ref e) c) Q E i) E s
def S8(b:(St->XK)->TS)(c:TH):TS:=λD d H=>b (λa cls _ e=>c cls D a e) D d H
section
variable{X:Cx}{hs:List yb}{h₀:yb}{th:TH}{body:List Stmt}{tb:(St->XK)->TS}{pos:Pos}
def zal:PH X [] XJ:=λz z z z z z z z z z h=>h.elim
def pY(F:Fly bad H h e cls):W.Looks M h (typeOf<|.ref e) cls:=by
 let[z,z,a,vs,h1,rfl,z]:=F;exact(W.Looks.ld h1).andThen .now
def zam(a:Gl X x)(c:X.mg x=some C)(hd:(x ==("__debug__":Str))=false:=by decide):PX X (.Name x np) (λcls=>W.exmOne X.K cls C):=λg s i H e cls b Q E I F d h=>MA  I.hand a c (W.exm_one I.kIn (pY F) d _ _ _ s (λy y z=>z) (h s I F)) hd
def zan(F:Fly bad H s.heap e cls)
  (h:∀ h',XG fr bad H e cls s.heap h'->Q () { s with heap:=h' }):wpAny M A (Hi (.ref e) none) Q E s:=by
 have r:=F;let[u,l,v,vs,he,w,x,hd,n]:=F;let h1||[T,y,B,h1,g,i,neT,p,dT,h3]:=n
 exact δ (jk he hd h1 (ξ (h _ {{[],(λb a=>nomatch a),λb o c _ _=>c,λb o c _=>⟨_,c⟩},r})));refine δ<|jk he hd h1 ?_
 have j:=(iw.mp h3).1
 have d:∀ b,b≠T->(s.heap.update T (vg (·.setIfInBounds 3 (none.elim ip λf=>lj f)))).get? b=s.heap.get? b:=λb q=>cm _ _<|fi q;refine me p dT j (h _ ({{[T],λb a=>?_,λb o c a _=>(d b λz=>a (by simp[z])).trans c,λb o c a=>{_,(d b λz=>a (by simp[z])).trans c}},u,l,x2 v vs {(d e<|fi neT).trans he,w,x,hd,.inr (x3 T _ _ {h1,g,i,neT,cy _ p<|oa<|ig dT _,ig dT _,by simp[j]})}}));rw[aa]at a;subst a;exact{g,i,x2 y B ⟨p,dT⟩}
theorem SP.unhand(ok:X.Ok)(h:SP (X.hand e) d D f s):SP X d D f s:=by
 cases f with
 |next=>revert h;apply u2;intro a b [c,q];exact x2 _ b {c.unhand ok,q}
 |brk=>revert h;apply u2;intro a b [c,q];exact x2 _ b {c.unhand ok,q}
 |cont=>revert h;apply u2;intro a b [c,q];exact x2 _ b {c.unhand ok,q}
 |ret u=>revert h;apply u3;intro v a b [c,r,q];exact x3 v _ b {c.unhand ok,r,q}
def zao{t:Expr}{c:Stmt}{a:List Stmt}{r:Pos}{p:Value->Option Bool}{i:TS}{rest:List yb}{j:TH}(u:PX X t p)(l:∀ e,E8 (X.hand e) (c::a) i)(v:PH X rest j) :
  PH X (.ExceptHandler (some t) none (c::a) r::rest) (S7 p i j):=by
 intro E s g H D e cls w I F h
 have d:∃ b,p cls=some b/\(b=true->i D g H)/\(b=false->j cls D g H):=by
  let[h1,h2]||[h1,h2]:=h
  exact{_,h1,λ_=>h2,λz=>nomatch z};exact{_,h1,(λz=>nomatch z),λ_=>h2}
 let[b,n,x,y]:=d;refine wpAny_handleBy_cons (codeAny_handlers_test<|u _ s g H e _ b _ _ I F n λA o q=>?_) (by intro z;cases z);cases b with
 |false=>exact v _ A g H D e _ w o q<|y rfl
 |true =>
  refine codeAny_handlers_suite<|zan (fr:=EF X.stack) q λh' N=>?_
  have B:Inv (X.hand e) _ g H _:=(o.noted N).hand;refine o_ (l e _ _ g H D B<|x rfl) (λf J h2=>h2.unhand I.ok) λ_ _ z=>z.elim
def zap(B:X.ex=[])(c:X.calm=true)(d:X.stack=X.env::X.outer)(O:X.env.frame=some X.env.locals)(Q:∀ (E:St->XK) (pn:yA) (xe:yB),XOk (X.tri pn xe) E->E8 (X.tri pn xe) body (tb E))(T:PH X (h₀::hs) th) :
  PS X (.Try body (h₀::hs) [] [] pos) (S8 tb th):=by
 refine λL s U H D I h=>wpAny_Try_except ?_
 let xe:Value->π->Prop:=λe l=>wpAny (model X.prog X.w) X.A (Lo e X.env) (λy n=>wpAny (model X.prog X.w) X.A (Hi e none) (λy o=>wpAny (model X.prog X.w) X.A (handleBy e X.env (h₀::hs)) (SP X L D) X.xe o) X.xe n) X.xe l
 have J:XOk (X.tri (X.pn++L) xe) (λw cls y x=>th cls D w x):=by
  refine{PassesOwn.looking,B,c,λY w x s' e cls A F' q=>?_}
  have M:=A.untri;refine pT (d ▸ M.ok.frames) (d ▸ M.stack) O F' (λa z=>A.notbad B<|pU z) (λa z=>A.hok.fresh z) λh' N=>?_;rw[<-d]at N
  have I2:Inv _ Y _ x _:=A.noted N;exact T _ _ _ x D e _ B I2.untri (N.fly.mono λa z=>by
   let z||[p,hp,z]:=z
   exact .inl z;exact .inr {p,ji _ hp,z}) q
 refine o_ (Q _ _ xe J [] s U H D I.tri h) (λf s1 b=>?_) λy y z=>z;cases f with
 |next =>
  revert b;apply u2;intro g i [j,q];exact nj<|x2 _ i ⟨j.untri,q⟩
 |brk=>revert b;apply u2;intro g i [j,q];exact x2 _ i ⟨j.untri,q⟩
 |cont=>revert b;apply u2;intro g i [j,q];exact x2 _ i ⟨j.untri,q⟩
 |ret u=>revert b;apply u3;intro v g i [j,r,q];exact x3 v _ i ⟨j.untri,r,q⟩
end
mutual
inductive Rep(K:W.Frag)(H:Hp):V->yd->Prop
 |non:Rep K H .non .none
 |bl (b:Bool):Rep K H (.bl b) (.bool b)
 |int (i:Int):Rep K H (.int i) (.int i)
 |str (x:Str):Rep K H (.str x) (.str x)
 |lst {a:Addr} {xs:cF} {ds:List yd}:SqL K H a xs->RepAll K H xs ds->Rep K H (.ref a) (.list ds)
 |tup {a:Addr} {xs:cF} {ds:List yd}:SqT K H a xs->RepAll K H xs ds->Rep K H (.ref a) (.tuple ds)
inductive RepAll(K:W.Frag)(H:Hp):cF->List yd->Prop
 |nil:RepAll K H [] []
 |cons {v:V} {d:yd} {vs:cF} {ds:List yd}:Rep K H v d->RepAll K H vs ds->RepAll K H (v::vs) (d::ds)
end
section
variable{X:Cx}{AA:yA}{σ:St}{H:Hp}{s:π}
def Rep.reads(I:Inv X AA σ H s):∀ {v:V} {d:yd} {u:Value},Rep X.K H v d->RelV v u->∃ as,Reads s.heap u d as:=λ{v d u} h=>by
 revert u;refine Rep.rec (motive_1:=λv d z=>∀ {u:Value},RelV v u->∃ as,Reads s.heap u d as) (motive_2:=λv d z=>∀ {u:uD},Vals v u->∃ as,ReadsAll s.heap u d as) ?_ ?_ ?_ ?_ ?_ ?_ ?_ ?_ h
 ·intro u r;cases (show _=ip from r);exact{_,.none}
 ·intro b u r;cases (show _=Jf b from r);exact{_,.bool b}
 ·intro i u r;let[t,e]:=(show ∃ t,_=uv i t from r);cases e;exact{_,.int i t}
 ·intro x u r;let[t,e]:=(show ∃ t,_=Gr x t from r);cases e;exact{_,.str x t}
 ·intro a xs A h z c u r;cases (show _=fh a from r);let[B,g,p,z]:=I.list h;let[as,q]:=c g;let[o,j,l,n,y]:=p.isList;exact{_,.list j l y q}
 ·intro a xs A h z c u r;cases (show _=fh a from r);let[B,g,p,z]:=I.tuple h;let[as,q]:=c g;let[o,j,l,n,y]:=p;exact{_,.tuple j l y q}
 ·intro u r;rw[SF r];exact{_,.nil}
 ·intro v d vs A z z D E u r;let[w,m,rfl,r,t]:=SE r;let[as,q]:=D r;let[bs,q2]:=E t;exact{_,.cons q q2}
end
abbrev shp(d:yd):Prop:=PySem.SeqAt.shaped d=true
def rD(K:W.Frag)(x y:V)(H:Hp)(R:uC):Prop:=∃ d e,Rep K H x d/\Rep K H y e/\shp d/\shp e/\R (ii d e) H
def NN(K:W.Frag):R2:=λx y H Q=>rD K x y H λb=>Q<|.bl b
def LA(K:W.Frag):R2:=λx y H Q=>rD K x y H λb=>Q<|.bl<|!b
section
variable{X:Cx}
def zaq(a:X.A.units+64<cLine):CC X (dz .Eq) (NN X.K):=by
 intro p s r H x y v u Q I b c;apply u2;intro d e [g,i,j,l,q];let[as,n]:=g.reads I b;let[bs,o]:=i.reads I c;exact eq_dataH n o j l a<|x2 (.bl _) H ⟨I,rfl,q⟩
def zar(a:X.A.units+64<cLine):CC X (dz .NotEq) (LA X.K):=by
 intro p s r H x y v u Q I b c;apply u2;intro d e [g,i,j,l,q];let[as,n]:=g.reads I b;let[bs,o]:=i.reads I c;exact ne_dataH n o j l a<|x2 (.bl _) H ⟨I,rfl,q⟩
def XL(K:W.Frag):R2:=λx y H Q=>∃ a b ys,x=.ref a/\y=.ref b/\SqT K H a []/\SqT K H b ys/\Q (.ref b) H
def zas:CC X (jd .Add) (XL X.K):=by
 intro M s N H x y v u Q I d e h;revert h;apply u3;intro a b ys [rfl,rfl,g,i,q];subst d;let[O,j,[[l,n,c3,o],c,p,r,w],z]:=I.tuple g;subst e;obtain rfl:l=_:=p;obtain rfl:c3=_:=w;let[T,U,[[A,B,D,E],f1,f2,J,L],z]:=I.tuple i;obtain rfl:A=_:=f2;cases j;obtain rfl:D=_:=L;exact Ea ⟨_,c,rfl⟩ ⟨_,f1,rfl⟩ yk Ca PySem.F.slot_tuple_add PySem.F.entry_tuple_add (PySem.F.args_tuple_add_2 _ _) (tuple_addW0 a b _ _ r J n B o E rfl) {c,f1,x2 (.ref b) H ⟨I,rfl,q⟩}
def BF(K:W.Frag):R2:=λx y H Q=>match x,y with
 |.int i,.int j=>Q (.int<|i+j) H
 |.str i,.str j=>i.length+j.length<=sizeLine/\Q (.str<|i++j) H
 |.ref _,.ref _=>W8 x y H Q\/WZ K x y H Q\/XL K x y H Q
 |_,_=>False
def zat:CC X (jd .Add) (BF X.K):=by
 intro d s a H x y v u Q I b c h;cases x<;>cases y<;>simp only[BF]at h;exact Uh _ s a H _ _ v u Q I b c<|y2 ⟨rfl,rfl,h⟩;exact Vh _ s a H _ _ v u Q I b c<|y2 ⟨rfl,rfl,h⟩;let h||h:=h
 exact Yk _ s a H _ _ v u Q I b c h;let h||h:=h
 exact Xk _ s a H _ _ v u Q I b c h;exact zas _ s a H _ _ v u Q I b c h
def GK:R2:=λx y H Q=>match x,y with
 |.int i,.int j=>Q (.bl<|decide<|i<j) H
 |.str i,.str j=>Q (.bl<|decide<|i.cps.toList<j.cps.toList) H
 |_,_=>False
def EB:R2:=λx y H Q=>match x,y with
 |.int i,.int j=>Q (.bl<|decide<|i<=j) H
 |.str i,.str j=>Q (.bl<|!decide (j.cps.toList<i.cps.toList)) H
 |_,_=>False
end
def zau:fillsNumberSlot (.type "tuple") "mul"=pure false :=
 PySem.fillsNumberSlot_seq   F.slot_tuple_mul.lookup (by decide) F.slot_tuple_rmul.lookup (by decide)
def zav:seqRepeat? (.type "tuple")=pure (some<|.builtin "tuple.__mul__"):=by
 unfold seqRepeat?;rw[PySem.seqSlot_of  (name:="__mul__")  F.slot_tuple_mul.lookup (by decide),PySem.seqSlot_of  (name:="__rmul__")  F.slot_tuple_rmul.lookup (by decide)]
 rfl
def zaw(a:Int)(t:Tok)(l:Addr)(b:Array Value)(dd:Option Addr)(n:Nat)(c:Array (Option Value)) :
  Meets (vh.«int.__rmul__» {[.int a t,.ref l],[]}) (λ_ R s=>s.heap.get? l=some {.type "tuple",dd,.seq b n,c}/\R (.ok<|.ret Value.notImplemented) s) :=
 .of_wp λprog w A R s h=>by let[d,h]:=h;wp_walk;exact⟨_,rfl,h⟩
def zax(l:Addr)(a:Array Value)(dd:Option Addr)(n:Nat)(e:Array (Option Value))(x:Int)(u:Tok)(h1:1<x)(h2:x<2 ^ 63)(b:a.isEmpty=false)(hz:a.size * x.toNat<=sizeLine) :
  Meets (vh.«tuple.__mul__» {[.ref l,.int x u],[]}) (λ_ R s=>s.heap.get? l=some {.type "tuple",dd,.seq a n,e} ∧
   R (.ok<|.ret<|fh s.heap.objs.size) { s with heap:=s.heap.push { cls:=jn "tuple",data:=Data.seq (yv (λd x2=>d++x2) #[] (bd x.toNat a)) } }) :=
 .of_wp λprog w A R s h=>by
  let[j,h]:=h
  have g:sizeLine<=(2^63-1)/8:=by decide
  have c:∃ N:Nat,a.size*x=N/\N<=sizeLine:={_,by rw[Int.natCast_mul,fu (by lia)],hz}
  let[N,c,i]:=c
  have o:(yv (λd x2=>d++x2) #[] (bd x.toNat a)).size<=sizeLine:=by
   have:=SW a.toList x.toNat [];simp only[ko,Array.toArray_toList]at this;rw[this];simp only[aw,List.length_flatten,List.map_replicate,List.sum_replicate_nat,da];rw[dq];exact hz
  refine tf (by simp;lia) ?_
  wp_walk
  refine tf (by simp only[b,ye];simp;lia) (tf (by simp only[b,n_];simp;omega) (tf (by rw[c];exact decide_eq_false (by omega)) (tf (by rw[c];unfold Ka;simp;exact i) ?_)))
  wp_walk
  exact⟨_,rfl,h⟩
def zay(l:Addr)(a:Array Value)(dd:Option Addr)(n:Nat)(b:Array (Option Value))(u:Tok) :
  Meets (vh.«tuple.__mul__» {[.ref l,.int 1 u],[]}) (λ_ R s=>s.heap.get? l=some {.type "tuple",dd,.seq a n,b}/\R (.ok<|.ret<|fh l) s) :=
 .of_wp λprog w A R s h=>by
  let[c,h]:=h
  wp_walk
  exact⟨_,rfl,h⟩
def XM(K:W.Frag):R2:=λx y H Q=>∃ a k xs,x=.ref a/\y=.int k/\SqT K H a xs/\xs≠[]/\1<=k/\k<2^63/\xs.length*k.toNat<=sizeLine /\
 (k=1->Q (.ref a) H)/\(k≠1->∀ p,H p=none->Q (.ref p) (upd H p<|.tup (bd k.toNat xs).flatten))
section
variable{X:Cx}
def Inv.tnew(I:Inv X a b H s)(c:Vals ys d)(hz:ys.length<=sizeLine) :
  Inv X a b (upd H s.heap.objs.size<|.tup ys) { s with heap:=s.heap.push { cls:=.type "tuple",data:=.seq d.toArray } } :=
 I.laid  (λz z q=>ν _ q) (ο _) {hz,_,c,_,ae _ rfl,rfl,0,rfl}
def zaz:CC X (jd .Mult) (XM X.K):=by
 intro E s J H x y v u Q I o p h;revert h;apply u3;intro a k xs [rfl,rfl,q,d,h1,h2,hz,q1,q2];subst o;let[i,r,[[w,e,c3,g],c,A,n,B],z]:=I.tuple q;obtain rfl:w=_:=A;obtain rfl:c3=_:=B;let[t,rfl]:=p
 have j:=r.length
 have he:i.toArray.isEmpty=false:=by
  cases i with
  |nil=>exact absurd (cu.mp j) d
  |cons b t=>rfl
 refine xb   (by decide) ⟨_,c,rfl⟩ (λD=>yu D k t) zau F.fills_int_mul F.slot_int_rmul zav F.slot_int_index.lookup
  (iu F.slot_int_rmul (yu s k t) F.entry_int_rmul (F.args_int_rmul_2 _ _) (zaw k t a _ e n g) {c,rfl,⟨_,c,rfl⟩,?_})
 by_cases l:k=1;subst l;exact iu F.slot_tuple_mul ⟨_,c,rfl⟩ F.entry_tuple_mul (F.args_tuple_mul_2 _ _) (zay a _ e n g t) {c,x2 (.ref a) H {I,rfl,q1 rfl}};refine iu F.slot_tuple_mul ⟨_,c,rfl⟩ F.entry_tuple_mul (F.args_tuple_mul_2 _ _) (zax a _ e n g k t (by lia) h2 he (by rw[aw,<-j];exact hz)) {c,?_};rw[(SW _ _ [])];exact x2 (.ref _) _ {I.tnew (r.rep _) (by rw[pA,dq];exact hz),rfl,q2 l _ I.fresh}
abbrev pZ:SK:=SL λi j=>i+j
def S9(z:Str)(k:Int):Str:=if k<1 then ux else if(k==1||z.length==0)=true then z else{(bd k.toNat z.cps).foldl (· ++·) #[]}
def za0(z:Str)(k:Nat):(Str.mk ((bd k z.cps).foldl (· ++·) #[])).length=k*z.length:=by
 have e:∀ (m:Nat) (a:Array _),((bd m z.cps).foldl (· ++·) a).size=a.size+m*z.cps.size:=λm=>by
  induction m with
  |zero=>simp
  |succ m b=>intro a;rw[l_,gg,b,Es,uf];lia
 simpa [yt]using (e k #[])
def za1:R2:=λx y H Q=>∃ z k,x=.str z/\y=.int k/\0<=k/\k<=1000/\z.length<=1000/\Q (.str<|S9 z k) H
def za2:CC X (jd .Mult) za1:=by
 intro g s i H x y v u Q I b e h;revert h;apply u2;intro z k [rfl,rfl,h1,h2,h3,q];let[t,rfl]:=b;let[t',rfl]:=e;refine PySem.P.mul_str (by simp;lia) (λa _=>?_) (λa _=>?_) ?_
 have:1000<=(2^63-1)/k:=(Int.le_ediv_iff_mul_le<|wo.mp ‹_›).mpr (by lia)
 lia
 have h4:z.length*k.toNat<=1000*1000:=ia h3 (by omega)
 have h5:(1000*1000)<=sizeLine:=by decide
 exact decide_eq_false (by lia);unfold S9 at q;split;rename_i c;rw[if_pos c]at q;exact{by decide,x2 (.str _) H {I.tok _,⟨_,rfl⟩,q}};rename_i c;rw[if_neg c]at q;split;rename_i d;rw[if_pos d]at q;exact x2 (.str _) H {I,⟨_,rfl⟩,q};rename_i d;rw[if_neg d]at q;exact⟨by rw[za0];have:=ia (show k.toNat<=1000 by omega) h3;show _<=2^24;exact oA this rfl,x2 (.str _) H {I.tok _,⟨_,rfl⟩,q}⟩
def FX(K:W.Frag):R2:=λx y H Q=>match x,y with
 |.int i,.int j=>CMul i j/\Q (.int<|i*j) H
 |.str z,.int k=>0<=k/\k<=1000/\z.length<=1000/\Q (.str<|S9 z k) H
 |.ref _,.int _=>W9 x y H Q\/XM K x y H Q
 |_,_=>False
def za3:CC X (jd .Mult) (FX X.K):=by
 intro d s a H x y v u Q I b c h;cases x<;>cases y<;>simp only[FX]at h;exact Uk _ s a H _ _ v u Q I b c<|y2 ⟨rfl,rfl,h⟩;exact za2 _ s a H _ _ v u Q I b c<|y2 ⟨rfl,rfl,h⟩;let h||h:=h
 exact Yl _ s a H _ _ v u Q I b c h;exact zaz _ s a H _ _ v u Q I b c h
def IG:R2:=λx y H Q=>match x,y with
 |.int i,.int j=>Q (.bl<|decide<|j<i) H
 |_,_=>False
def p0:CC X (dz .Lt) GK:=by
 intro c s d H x y v u Q I a b h;cases x<;>cases y<;>simp only[GK]at h;exact Uv c s d H _ _ v u Q I a b<|y2 ⟨rfl,rfl,h⟩
 ·let[t,rfl]:=a;let[t',rfl]:=b;exact PySem.P.lt_str<|x2 (.bl _) H ⟨I,rfl,h⟩
def PR:CC X (dz .LtE) EB:=by
 intro c s d H x y v u Q I a b h;cases x<;>cases y<;>simp only[EB]at h
 ·exact Uw c s d H _ _ v u Q I a b<|y2 ⟨rfl,rfl,h⟩
 ·let[t,rfl]:=a;let[t',rfl]:=b;exact PySem.P.le_str<|x2 (.bl _) H ⟨I,rfl,h⟩
def za4:CC X (dz .Gt) IG:=by
 intro a s b H x y v u Q I c d h;cases x<;>cases y<;>simp only[IG]at h;exact Ux a s b H _ _ v u Q I c d<|y2 ⟨rfl,rfl,h⟩
abbrev p5:R2:=λx y H Q=>y=.non/\Q (.bl<|decide<|x=.non) H
abbrev p6:R2:=λx y H Q=>y=.non/\Q (.bl<|!decide (x=.non)) H
variable{a:Expr}{ta:TE}{tA:TT}{pos:Pos}
abbrev p8(K:W.Frag)(ta:TE):TT:=λc H Q=>ta c H λx b=>∃ k,KZ K x b k/\Q k b
def B7(K:W.Frag):R2:=oV K
def p9:IxR X (B7 X.K):=Xq
def za5:V->Option Int->Option Int->Hp->VK->Prop:=λx lo b H Q=>∃ z,x=.str z/\z.length<=sizeLine/\Q (.str<|Txt.slice z lo b) H
def qB{v:Value}{lo:Option Int}(p:zw v lo):∃ l:Option (Int × Tok),v=partValue l/\l.map (·.1)=lo:=by
 cases p with
 |none=>exact⟨none,rfl,rfl⟩
 |int i t=>exact{some (i,t),rfl,rfl}
def za6:SlR X za5:=by
 intro e s g H x v i j lo n o Q I b hs c d h;let[z,rfl,hz,q]:=h;let[t,rfl]:=b;let[l,rfl,rfl]:=qB c;let[u,rfl,rfl]:=qB d;exact x2 "str" _ {PySem.F.slot_str_getitem.lookup,my _ _ _,(wpAny_getItem_str_slice   (st:=none) hs rfl (post_val_or_str {ψ (Txt.slice_le z _ _) hz,λt' k=>x2 (.str _) H {I.tok k,⟨t',rfl⟩,q}}))}
def LB(K:W.Frag):V->Option Int->Option Int->Hp->VK->Prop:=λx lo b H Q=>match x with
 |.str z=>z.length<=sizeLine/\Q (.str<|Txt.slice z lo b) H
 |_=>oZ K x lo b H Q\/oM K x lo b H Q
def za7:SlR X (LB X.K):=by
 intro b s c H x v d e lo g i Q I j hs l n h;cases x<;>first
  |exact za6 b s c H _ v d e lo g i Q I j hs l n ⟨_,rfl,h⟩
  |exact(SlR.or Xz Xj) b s c H _ v d e lo g i Q I j hs l n h
abbrev PU:V->V->V->Hp->(Hp->Prop)->Prop:=oX
def qG:WP X PU:=Xw
def PY(K:W.Frag)(c:TE):TI:=λd H R=>c d H λx b=>∃ a,x=.ref a/\(((∃ xs,SqL K b a xs)/\R (GG K a) b)\/((∃ xs,SqT K b a xs)/\R (IX K a) b))
def XN(K:W.Frag):cF->Hp->VK->Prop:=λxs H Q=>∃ x n,xs=[x]/\SQ K x H n/\Q (.int n) H
def za8:EG X (.builtin "len") (XN X.K):=Vl
def qH(K:W.Frag):cF->Hp->VK->Prop:=λxs H Q=>∃ p ys,xs=[.ref p]/\(SqL K H p ys\/SqT K H p ys)/\∀ l,H l=none->Q (.ref l) (upd H l<|.lst ys)
def za9:EG X (.type "list") (qH X.K):=Yd
def qI(K:W.Frag):cF->Hp->VK->Prop:=λxs H Q=>∃ p ys,xs=[.ref p]/\((SqL K H p ys/\∀ l,H l=none->Q (.ref l) (upd H l<|.tup ys))\/(SqT K H p ys/\Q (.ref p) H))
def zba:EG X (.type "tuple") (qI X.K):=Yg
end
section
variable{X:Cx}{tg a:Expr}{ta:TE}{pos:Pos}
def zbb(r:PE X l u):PI X tg l (PY X.K u):=by
 refine λD s w H R I h=>AO (r _ s w H _ I h) λv n g=>?_;let[x,i,c,y,[a,e,q1]]:=g;subst e
 have d:∀ b∈[n.heap.objs.size],FpOk X _ i b:=λb z=>by
  have e:b=n.heap.objs.size:=by simpa using z
  subst e;exact c.fpOk (ο _) (c.hok.fresh<|ο _)
 subst y;let[[xs,j],q]||[[xs,j],q]:=q1
 let[A,B,p,hz]:=c.list j;exact xp p.isList<|x5 _ _ _ _ i {rfl,c.kept  λb o e=>ν _ e,Tl a _,{_,ae _ rfl,rfl,rfl},d,q};let[A,B,p,hz]:=c.tuple j;exact wpAny_pyIter_tuple (p) (x5 _ _ _ _ i {rfl,c.kept  λb o e=>ν _ e,Tm a _,{_,ae _ rfl,rfl,rfl},d,q})
end
def TC(scope outer:Scope)(N a:zD)(b:xE):Bool :=
 scope.kind == .function&&scope.names.all (λy=>y.2 != .cell)&&scope.names.all (λy=>y.2 != .local||scope.names.lookup y.1==some .local) &&
 scope.names.all (λy=>y.2 != .free||outer.names.lookup y.1==some .cell||outer.names.lookup y.1==some .free)&&a.all (λx=>scope.names.lookup x==some .free)&&(b.map (λi=>N[i]?)==a.map some)
def qJ(h1:X.env.scope=outer)(h2:X.N=N)(h:TC scope outer N b c=true):KB X scope e b c:=by
 unfold TC at h;simp only[bx,gu,nr,bne_iff_ne,beq_iff_eq]at h;let[[[[[k1,k2],k3],k4],k5],k6]:=h;refine{k1,k2,λy a d=>(k3 y a).resolve_left λz=>z d,λy a hf=>?_,k5,by rw[h2];exact k6}
 have z:=k4 y a
 show X.env.scope.names.lookup _=_\/X.env.scope.names.lookup _=_;rw[h1];rcases z with(z|z)|z
 exact absurd hf z;exact .inl z;exact .inr z
structure z5w(K:W.Frag)(C:Addr):Prop where
 ga:W.findIn K (.ref C) "__getattribute__"=some (some<|.builtin "BaseException.__getattribute__")
 gt:W.findIn K (.ref C) "__getattr__"=some none
 be:W.mroIn K C (.type "BaseException")=some true
 cl:W.isClsIn K C=true
 ha:W.findIn K (.ref C) "__class__"=some (some<|.builtin "object.__class__")
 hn:W.specialIn K (.builtin "object.__class__") "__get__"=some (some<|.builtin "getset_descriptor.__get__")
 tk:W.takesIn K (.builtin "object.__class__")=some true
 mr:W.mroIn K C (.type "object")=some true
set_option tactic.hygienic true in
inductive qK:V->Value->Prop
 |own (C:Addr):qK (.ref C) (.ref C)
 |ty (n:String):qK (.ty n) (.type n)
section
variable{X:Cx}
end
def EI(J:It)(g:TG)(n:TT)(o:TE)(k:Nat)(q:xE)(r:St)(s:Hp)(Q:VK):Prop :=
 ∃ W:Nat->Nat->St->cF->Hp->Prop,(∃ m,W 0 m (K6 k q r) [] s)/\∀ i m c ys H,W i m c ys H ->
  (J.stop i H/\∀ p,H p=none->Q (.ref p) (upd H p<|.lst ys)) ∨
  (J.go i H/\ys.length<sizeLine/\∀ x e,J.yld i H x e->g x c e λa u=>n a u λb j =>
   if b=true then ∃ N:VK,(∀ y l,N y l->∃ d,d<m/\W (i+1) d a (ys++[y]) l)/\o a j N else ∃ d,d<m/\W (i+1) d a ys j)
def GL(J:It)(g:TG)(j:TS)(D:Ends)(a:St)(l:Hp):Prop :=
 ∃ W:Nat->Nat->St->Hp->Prop,(∃ m,W 0 m a l)/\∀ i m a H,W i m a H ->
  (J.stop i H/\D.nx a H)\/(J.go i H/\∃ N:St->Hp->Prop,(∀ b c,N b c->∃ e,e<m/\W (i+1) e b c)/\∀ x c,J.yld i H x c->g x a c λd n=>j { D with nx:=N,ct:=N,bk:=D.nx } d n)
section
variable{K:W.Frag}{ta tb tc to ti tv tl:TE}{tt tA tB' tu:TT}{s1 s2:TS}{r r':R2}{σ:St}{H:Hp}{Q:VK}{D:Ends}{QB:uC}{as:TA}{g:TG}{gs:HE}{te:TE}{k i:Nat}{A6:xE}{f m:Str}{C:Addr}{sp:Sp}{EO:cF}{E:St->XK}{v:V}{vs:cF}{QA:cF->Hp->Prop}{QG:St->Hp->Prop}{QO:Option Int->Hp->Prop}
def zbc:AH s1 s2 D σ H=(s1 { D with nx:=s2 D } σ H):=rfl
def zbd:BU D σ H=(D.nx σ H):=rfl
def zbe:AT ta g D σ H=(ta σ H λx a=>g x σ a D.nx):=rfl
def zbf:CP ta D σ H=(ta σ H λ_ a=>D.nx σ a):=rfl
def zbg:AV ta D σ H=(ta σ H D.rt):=rfl
def zbh:BL tt s1 s2 D σ H=(tt σ H λb a=>if b=true then s1 D σ a else s2 D σ a):=rfl
def zbi:tC v σ H Q=(Q v H):=rfl
def zbj:AD r ta tb σ H Q=(ta σ H λx a=>tb σ a λy b=>r x y b Q):=rfl
def zbk:FI tt σ H QB=(tt σ H λc a=>QB (!c) a):=rfl
def zbl:KY tt tu σ H QB=(tt σ H λc a=>if c=true then tu σ a QB else QB false a):=rfl
def zbm:MB tt tu σ H QB=(tt σ H λc a=>if c=true then QB true a else tu σ a QB):=rfl
def zbn:SJ tt ta tb σ H Q=(tt σ H λc a=>if c=true then ta σ a Q else tb σ a Q):=rfl
def zbo:BM σ H QA=(QA [] H):=rfl
def zbp:D4 ta as σ H QA=(ta σ H λx a=>as σ a λxs b=>QA (x::xs) b):=rfl
def zbq:C7 as σ H Q=(as σ H λxs a=>xs.length<=sizeLine/\∀ p,a p=none->Q (.ref p) (upd a p<|.tup xs)):=rfl
def zbr:CG as σ H Q=(as σ H λxs a=>xs.length<=sizeLine/\∀ p,a p=none->Q (.ref p) (upd a p<|.lst xs)):=rfl
def zbs:NF a ta σ H Q=ta σ H λx b=>a x b Q:=rfl
def zbt:CA rc as σ H Q=as σ H λvs a=>rc vs a Q:=rfl
def zbu:E9 C E as D σ H=(as σ H λvs a=>vs.length<=sizeLine/\E σ (.ref C) none a):=rfl
def zbv:S8 sb b D σ H=sb (λa cls _ c=>b cls D a c) D σ H:=rfl
def zbw:AG i v σ H QG=(QG (σ.set i<|some v) H):=rfl
def zbx:O0 to ti a v σ H QG=to σ H λo b=>ti σ b λi c=>a o i v c λd=>QG σ d:=rfl
def zby:FL K k gs v σ H QG=(∃ a xs,v=.ref a/\SqT K H a xs/\xs.length=k/\gs xs σ H QG):=rfl
def zbz:FJ vs σ H QG=((vs=[]/\QG σ H)):=rfl
def zb0:DP g gs vs σ H QG=(∃ v r,vs=v::r/\g v σ H λa b=>gs r a b QG):=rfl
def zb1:K1 a ta ol b σ H Q=ta σ H λx c=>ol σ c λl d=>b σ d λu e=>a x l u e Q:=rfl
def zb2:K0 σ H QO=(QO none H):=rfl
def zb3:DZ K T rm ta as σ H Q=ta σ H λx a=>PD K T x a/\as σ a λxs b=>rm x xs b Q:=rfl
def zb4:W3 K T rm ta σ H Q=ta σ H λx a=>PD K T x a/\rm x [] a Q:=rfl
def zb5:WQ i ta a D σ H=∃ x,σ[i]? =some (some x)/\ta σ H λy b=>a x y b λz c=>D.nx (σ.set i<|some z) c:=rfl
def zb6:CQ σ H QB=(QB true H):=rfl
def zb7:SS K ta tv j f D σ H=(ta σ H λx d=>∃ a C l fs v,x=.ref a/\d a=some (.ins C l fs)/\Cls K C/\NoAttr K C f/\fs.lookup f=some v/\tv σ d λy n=>j v y n λz e=>∃ c b,e a=some (.ins C c b)/\b.length<1000/\D.nx σ (upd e a<|.ins C c<|BS f z b)):=rfl
end
section
variable{K:W.Frag}{σ:St}{H:Hp}{Q:VK}{P:Bool->Prop}{PI':Int->Prop}{PV:V->Prop}{QB:uC}{v:V}{x:Option V}{i j:Int}{n:Nat}{b b':Bool}{s s':Str}{p q:Addr}{f:Int->Int->V}{C:Int->Int->Prop}
def EJ(i:Nat):TE:=λσ H Q=>match σ[i]? with
 |some (some v)=>Q v H
 |_=>False
def zb8:EJ 0 (some v::σ) H Q=Q v H:=rfl
def zb9:EJ (n+1) (x::σ) H Q=EJ n σ H Q:=rfl
def zca(i:Nat):EJ i=SH i:=by
 funext σ H Q;unfold EJ SH;cases σ[i]? with
 |none=>simp
 |some o=>cases o<;>simp
def zcb:BF K (.int i) (.int j) H Q=Q (.int<|i+j) H:=rfl
def zcc:BF K (.str s) (.str s') H Q=(s.length+s'.length<=sizeLine/\Q (.str<|s++s') H):=rfl
def zcd:BF K (.ref p) (.ref q) H Q=(W8 (.ref p) (.ref q) H Q\/WZ K (.ref p) (.ref q) H Q\/XL K (.ref p) (.ref q) H Q):=rfl
def zce{x y:Str}:EB (.str x) (.str y) H Q=Q (.bl<|!decide (y.cps.toList<x.cps.toList)) H:=rfl
def zcf{x y:Str}:GK (.str x) (.str y) H Q=Q (.bl<|decide<|x.cps.toList<y.cps.toList) H:=rfl
def zcg{x:Str}{lo a:Option Int}:LB K (.str x) lo a H Q=(x.length<=sizeLine/\Q (.str<|Txt.slice x lo a) H):=rfl
def zch:FX K (.int i) (.int j) H Q=(CMul i j/\Q (.int<|i*j) H):=rfl
def zci:FX K (.str z) (.int j) H Q=(0<=j/\j<=1000/\z.length<=1000/\Q (.str<|S9 z j) H):=rfl
def zcj:FX K (.ref p) (.int j) H Q=(W9 (.ref p) (.int j) H Q\/XM K (.ref p) (.int j) H Q):=rfl
def zck:GK (.int i) (.int j) H Q=Q (.bl<|decide<|i<j) H:=rfl
def zcl:EB (.int i) (.int j) H Q=Q (.bl<|decide<|i<=j) H:=rfl
def zcm:IG (.int i) (.int j) H Q=Q (.bl<|decide<|j<i) H:=rfl
def zcn:SL g (.int i) (.int j) H Q=Q (.int<|g i j) H:=by simp[SL]
def zco:O7 (.int i) (.int j) H Q=Q (.int<|i+j) H:=by simp[O7]
end
def pvr(i:Nat)(a:X.N[i]? =some x:=by rfl)(b:SG X.env.scope x:=by first|exact De rfl|exact zy (De rfl)|exact zy<|zy rfl)(hd:(x ==("__debug__":Str))=false:=by decide)
  (c:(x ==("__classdict__":Str))=false:=by decide):PE X (.Name x pos) (EJ i):=by
 rw[zca];exact mY a b hd c
abbrev AX(Q:VK):Ends:={ nx:=λ_ a=>Q .non a,rt:=Q }
abbrev C0(a:xE)(b:St):St:=a.map λi=>(b[i]?).join
section
variable{K:W.Frag}{te:TE}{A6:xE}{σ:St}{H:Hp}{Q:VK}
def MK{lo:Int}{n:Nat}(j:n<=sizeLine)(Pv:Nat->cF->Hp->Prop)(h0:Pv 0 [] H)(hs:∀ i ys H,i<n->ys.length=i->Pv i ys H->te (some (.int<|lo+i)::C0 A6 σ) H λy g=>Pv (i+1) (ys++[y]) g)
  (hd:∀ ys H,ys.length=n->Pv n ys H->∀ p,H p=none->Q (.ref p) (upd H p<|.lst ys)) :
  EI (FM lo n) (AG 0) CQ te 1 A6 σ H Q:=by
 refine{λi m a ys H=>m=n-i/\i<=n/\ys.length=i/\(∃ d,a=d::C0 _ σ)/\Pv i ys H,{n,rfl,bh _,rfl,⟨_,rfl⟩,h0},?_};intro i m a ys H [rfl,l,b,[d,rfl],p];by_cases c:i<n;refine .inr {c,by lia,λx o y=>?_};let[e,y]:=y;subst e y;refine{_,λy r q=>{_,cq ‹_›,rfl,c,?_,⟨_,rfl⟩,q},hs i ys _ c b p};rw[ai,je,b]
 have e:i=n:=by lia
 subst e;exact .inl {ο _,hd ys H b p}
def XO(o:xs.length<=sizeLine)(Pv:Nat->cF->Hp->Prop)(h0:Pv 0 [] H)(j:∀ i ys H,i<=xs.length->Pv i ys H->SqL K H b xs)
  (hs:∀ i x ys H,xs[i]? =some x->ys.length=i->Pv i ys H->te (some x::C0 A6 σ) H λy l=>Pv (i+1) (ys++[y]) l)
  (hd:∀ ys H,ys.length=xs.length->Pv xs.length ys H->∀ p,H p=none->Q (.ref p) (upd H p<|.lst ys)) :
  EI (GG K b) (AG 0) CQ te 1 A6 σ H Q:=by
 refine{λi m a ys H=>m=xs.length-i/\i<=xs.length/\ys.length=i/\(∃ d,a=d::C0 _ σ)/\Pv i ys H,{xs.length,rfl,bh _,rfl,⟨_,rfl⟩,h0},?_};intro i m a ys H [rfl,n,c,[d,rfl],p]
 have q:=j i ys H n p;by_cases g:i<xs.length;refine .inr {x2 xs (xs[i]) {q,by simp[g]},by lia,λx r y=>?_};let[rfl,y]:=y;refine{_,λy s q=>{_,cq ‹_›,rfl,g,?_,⟨_,rfl⟩,q},hs i x ys _ (y xs q) c p};rw[ai,je,c]
 have e:i=xs.length:=by lia
 subst e;exact .inl {{xs,q,ο _},hd ys H c p}
def zcq{lo:Int}{n:Nat}(d:n<=sizeLine)(f:Nat->V)(hs:∀ i,i<n->∀ c:VK,c (f i) H->te (some (.int<|lo+i)::C0 A6 σ) H c)
  (hd:∀ p,H p=none->Q (.ref p) (upd H p<|.lst<|(ρ n).map f)) :
  EI (FM lo n) (AG 0) CQ te 1 A6 σ H Q:=by
 refine MK d (λi ys b=>b=H/\ys=(ρ i).map f) ⟨rfl,rfl⟩ (λi ys b e g a=>?_) (λys b g a=>?_);let[rfl,j]:=a;refine hs i e _ {rfl,?_};rw[j,bz,av];rfl;let[rfl,rfl]:=a;exact hd
def GZ(Pv:vB)(h0:Pv 0 σ H)(c:∀ i σ H,i<=xs.length->Pv i σ H->SqL K H b xs)
  (hs:∀ i x σ H,xs[i]? =some x->Pv i σ H->g x σ H λa d=>e { D with nx:=Pv<|i+1,ct:=Pv<|i+1,bk:=D.nx } a d) (hd:∀ σ H,Pv xs.length σ H->D.nx σ H):GL (GG K b) g e D σ H:=Ty Pv h0 c hs hd
def XQ(Pv:vB)(h0:Pv 0 σ H)(c:∀ i σ H,i<=xs.length->Pv i σ H->SqT K H b xs)
  (hs:∀ i x σ H,xs[i]? =some x->Pv i σ H->g x σ H λa d=>e { D with nx:=Pv<|i+1,ct:=Pv<|i+1,bk:=D.nx } a d) (hd:∀ σ H,Pv xs.length σ H->D.nx σ H):GL (IX K b) g e D σ H:=Tz Pv h0 c hs hd
def NO{lo:Int}{n:Nat}{g:TG}{b:TS}{D:Ends}(Pv:vB)(h0:Pv 0 σ H)
  (hs:∀ i σ H,i<n->Pv i σ H->g (.int<|lo+i) σ H λa c=>b { D with nx:=Pv<|i+1,ct:=Pv<|i+1,bk:=D.nx } a c) (hd:∀ σ H,Pv n σ H->D.nx σ H):GL (FM lo n) g b D σ H:=Ub Pv h0 hs hd
end
def AL(h:H p=none):Same H (upd H p o):=λb u e=>by rw[AI (BJ e h)];exact e
theorem JB{α a :Type}{F: α -> a ->Prop}:∀ {l:List α} {m:List a} {i:Nat} {y: a},Paired F l m->m[i]? =some y->∃ x,l[i]? =some x/\F x y
 |_,_,_,_,.nil,e=>by simp at e
 |_,_,0,_,.cons r _,e=>by simp at e;subst e;exact⟨_,rfl,r⟩
 |_,_,i+1,y,.cons _ t,e=>by
  let[u,h1,h2]:=JB   t (e);exact⟨u,h1,h2⟩
def zcr{α a :Type}{F: α -> a ->Prop}{x: α}{y: a}(r:F x y):∀ {l:List α} {m:List a} (i:Nat),Paired F l m->Paired F (l.set i x) (m.set i y):=λi h=>by
 induction h generalizing i with
 |nil=>exact .nil
 |cons q t b=>cases i with
  |zero=>exact .cons r t
  |succ i=>exact .cons q<|b i
def CH{K:W.Frag}{H:Hp}{p:Addr}{xs:cF}{i:Int}{n:Nat}{v:V}{Q:VK}(h:SqL K H p xs)(a:i=n)(b:xs[n]? =some v)(q:Q v H):B7 K (.ref p) (.int i) H Q :=
 .inl (x4 p xs i v {rfl,rfl,h,a ▸ SU b,q})
def BQ(n:Nat)(h:n<=100000):n<=sizeLine:=ψ h (by decide)
theorem qM{α :Type}(x: α):∀ w:Nat,(bd w [x]).flatten=bd w x
 |0=>rfl
 |w+1=>by rw[l_,ir,qM x w];rfl
def KC(h:fs.length+1<n):(BS f v fs).length<n:=cf (O4 f v fs) h
def zcs(h:shp d):ii d d=true:=PySem.SeqAt.eqv_refl d<|PySem.SeqAt.canLay_of_shaped h
def ItK(k:Bool)(h:Heap)(j a:Addr)(i:Nat):Prop:=if k then h.IsListIter j a i else h.IsTupleIter j a i
def qN(k:Bool)(h:Heap)(a:Addr)(xs:Array Value):Prop:=if k then h.IsList a xs else h.IsTuple a xs
def ItK.up(x:ItK k h j a i)(q:∀ o,h.get? j=some o->h'.get? j=some o):ItK k h' j a i:=by
 cases k<;>exact(let ⟨o,e,r⟩:=x;{o,q o e,r})
def ItK.ob(x:ItK k h j a i):∃ o,h.get? j=some o/\o.data=.fields #[.ref a,.int i 0]:=by
 cases k<;>exact(let ⟨o,e,_,r⟩:=x;⟨o,e,r⟩)
section
variable{P:bw}{w:World}{A:dr}{E:yB}{s:π}
def zct(z:A.handled=none)(c:s.heap.IsTupleIter j t i)(d:s.heap.IsTuple t g)(e:g[i]? =none)
  (q:∀ h' x,mq j s.heap h'->(∃ o,h'.get? x=some o/\o.cls=.type "StopIteration")->E (.ref x) { s with heap:=h' }):wpAny (model P w) A (xc<|.ref j) Q E s:=by
 let[l,a,p,b]:=id c;let[r,f1,y,n,f2]:=d;refine δ<|dg  c.typeIs F.slot_tuple_iterator_next (di F.slot_tuple_iterator_next c.typeIs F.entry_tuple_iterator_next ?_<|F.args_tuple_iterator_next_1 _)
 show wpAny _ _ (field _ 0>>=_) _ _ s;refine δ<|jk a b  rfl (δ<|jk a b  rfl (δ<|zz f1 f2 ?_));simp only[cj,e];refine δ (pe (δ (me a b (by simp) (δ (δ (dk (δ  (z_  (by first|rfl|(rfl)) (dk (δ<|Ce ?_) (by size_fits)))) (by size_fits)))))));rw[z];exact δ<|ξ<|Im<|q _ _ (((e_ ..).extBut.push _).push _) {_,ae _ rfl,rfl}
def zcu(z:A.handled=none)(c:ItK k s.heap j t i)(d:qN k s.heap t a)(e:a[i]? =none)
  (q:∀ h' x,mq j s.heap h'->(∃ o,h'.get? x=some o/\o.cls=.type "StopIteration")->E (.ref x) { s with heap:=h' }):wpAny (model P w) A (xc<|.ref j) Q E s:=by
 cases k;exact zct z c d e q;exact wpAny_nextOf_list_end z c d e q
end
section
variable{P:bw}{w:World}{A:dr}{E:yB}{s:π}
end
def Inv.turnedS{X:Cx}{g:yA}{j:St}{H:Hp}{s:π}{h':Heap}{t':Nat}{i:wD}(I:Inv X g j H s)(k:∀ b o,b∉i->s.heap.get? b=some o->h'.get? b=some o)(hf:∀ b∈i,FpOk X g H b):Inv X g j H { s with heap:=h',toks:=t' }:=by
 have d:∀ b u,H b=some u->b∉i:=λb u e z=>by rw[(hf b z).1]at e;cases e
 refine I.step    (λb l=>?_) (λb o y y a e y=>k b o a e) (λb o y y a e y=>{_,k b o a e}) (λy y y y n=>n)
  (λb o a e=>{o,k b o a e}) (λy y e=>e) (λy y y e=>e) (λb ps e=>{#[],by rw[e];simp}) (λm p=>?_) (λb u e=>?_) I.bare
 let[y,f1,y,w,x,A]:=hf b l;exact⟨w,f1,x,A⟩;revert p;apply u3;intro o B D [E,r];exact x3 o B D {k _ o (λz=>(hf _ z).2.1 rfl) E,r};refine(I.hok b u e).stay (λc v a q=>k c v ?_ q) (λy q=>q) λy y q=>q;let z||z:=a
 rw[z];exact d b u e;exact d c _ z
def XR(K:W.Frag)(k:Bool)(H:Hp)(a:Addr)(xs:cF):Prop:=if k then SqL K H a xs else SqT K H a xs
def Inv.seqK(I:Inv X d e H s)(q:XR X.K k H a xs):∃ b,Vals xs b/\qN k s.heap a b.toArray:=by
 cases k;let[b,c,p,z]:=I.tuple q;exact⟨_,c,p⟩;let[b,c,p,z]:=I.list q;exact⟨_,c,p.isList⟩
def Inv.seqK_inj(I:Inv X b c H s)(p:XR X.K k H a xs)(q:XR X.K k H a ys):xs=ys:=by
 cases k;exact I.tuple_inj p q;exact I.list_inj p q
structure z5x(z T U j j':Addr):Prop where
 a1:T≠z
 a2:U≠z
 a3:j≠z
 a4:j'≠z
 a5:T≠U
 a6:T≠j
 a7:T≠j'
 a8:U≠j
 a9:U≠j'
 a10:j≠j'
def FpOk.upd(f:FpOk X c H b)(n:b≠a):FpOk X c (upd H a o) b:={(AI n).trans f.1,f.2}
section
variable{X:Cx}{tg:Expr}
end
def PZ(z:Str):It:={λi _=>i<z.cps.size,λi H x a=>a=H/\∃ c,z.cps[i]? =some c/\x=.str {#[c]},λi _=>z.cps.size<=i}
def qO{P:bw}{w:World}{K:PySem.W.Frag}{M:Expr}{it:Addr}{z:Str}{t:Tok}{nm:String}(N:["enumerate","zip","dict_itemiterator","dict_reverseitemiterator","odict_iterator","itertools.zip_longest","itertools.pairwise"].contains nm=false)
  (W:∀ A:dr,A.handled=none->Walks P w A it [it] [it] z.cps.size (SignAt z) (λi h=>h.IsStrIter it nm z t i)) (sf:∀ (A:dr) (i:Nat) (s:π) (Q:yB) (E:yB),s.heap.IsStrIter it nm z t i->Q (.ref it) s->wpAny (model P w) A (zq<|.ref it) Q E s) :
  JZ P w K M (PZ z) [it] it (λi h=>i<=z.cps.size/\h.IsStrIter it nm z t i) where
 mem:=by simp
 obj:=λi h ⟨_,o,e,c,d⟩ b a=>by
  have O:b=it:=by simpa using a
  subst O;exact{o,e,λv q=>by rw[d]at q;cases q}
 keep:=λi h h' ⟨l,o,e,r⟩ k=>{l,o,k it (by simp) o e,r}
 item:=by
  intro X T U Y n i AA s L H E I hf ⟨y,st⟩ j;let[p,f1,f2,x,B,D]:=hf it (by simp);refine(W _<|I.ok.hd n).item i s _ _ j st λv h' tk hv g J=>?_;revert hv;apply u2;have I1:Inv X _ L H { s with heap:=h',toks:=tk }:=I.turned (λb o a e=>J b o (by simpa using a) e) p f1 x B D;intro c u [hx,rfl];let[o,e,c1,d]:=id g;exact{_,rfl,ND  e c1 d N (x2 (.str _) H {I1,⟨u,rfl⟩,⟨rfl,c,hx,rfl⟩,⟨j,g⟩,λb a=>(hf b a).1})}
 done:=by
  intro X T U Y n i AA s L H E I hf ⟨l,st⟩ j;let[p,f1,f2,x,B,D]:=hf it (by simp)
  have e:=kq l j;subst e;exact(W _<|I.ok.hd n).done s _ _ st λh' tk J=>{rfl,I.turned (λb o a e=>J b o (by simpa using a) e) p f1 x B D}
 self:=λA i s Q E st h=>sf A i s Q E st.2 h
theorem qP:∀ bs:List Bool,(ρ bs.length).all (λi=>bs.getD i false)=bs.all id
 | []=>rfl
 |b::t=>by
  rw[b_,yw,ve,Et,ve,<-(qP t)]
  rfl
def NP(a:TE):TI:=λb H R=>a b H λx c=>∃ z,x=.str z/\R (PZ z) c
section
variable{X:Cx}{tg:Expr}
def zcv{l:Expr}{n:TE}(u:PE X l n):PI X tg l (NP n):=by
 refine λD s w H R I h=>AO (u _ s w H _ I h) λv p d=>?_;let[x,g,c,y,[z,rfl,q]]:=d;let[t,rfl]:=y
 have a:∀ b∈[p.heap.objs.size],FpOk X _ g b:=λb B=>by
  have e:b=p.heap.objs.size:=by simpa using B
  subst e;exact c.fpOk (ο _) (c.hok.fresh<|ο _)
 cases r:z.cps.all _;refine wpAny_pyIter_wide r (x5 _ _ _ _ g {rfl,c.kept  λb o e=>ν _ e,qO   (by decide) (λA j=>Walks.strWide j _ z t) (λA i s Q E st h=>wpAny_pyIter_striter_wide st h),{bh _,_,ae _ rfl,rfl,rfl},a,q});refine wpAny_pyIter_ascii r (x5 _ _ _ _ g {rfl,c.kept  λb o e=>ν _ e,qO   (by decide) (λA j=>Walks.strAscii j _ z t) (λA i s Q E st h=>wpAny_pyIter_striter_ascii st h),{bh _,_,ae _ rfl,rfl,rfl},a,q})
def P0(K:W.Frag):cF->Hp->VK->Prop:=λxs H Q=>∃ x,xs=[.str x]/\x.length=1/\Q (.int (x.cps.getD 0 0:Nat)) H
def zcw:EG X (.builtin "ord") (P0 X.K):=Vk
def ML(K:W.Frag):cF->Hp->VK->Prop:=λxs H Q=>∃ (p:Addr) (bs:List Bool),xs=[.ref p]/\SqL K H p (bs.map V.bl)/\Q (.bl<|bs.all id) H
def zcx(B:X.calm=true):EG X (.builtin "all") (ML X.K):=by
 intro N s O H xs us Q I r h;revert h;apply u2;intro p bs [rfl,D,q];let[l,n,g,hz]:=I.list D;let[u,rfl,rfl]:=GI r
 have a:=n.length
 have j:p≠s.heap.objs.size:=by
  let[o,e,z]:=g.isList;exact a_<|ak e
 refine call_all_walk<|xp g.isList<|x7 _ _ _ _ _ _ (λi=>bs.getD i false) {rfl,Na (show X.A.in1.handled=none from I.ok.hd B) _ p j _,{{_,ae _ rfl,rfl,rfl},g.isList.push _},?_,?_};intro i v E J T c d
 have c:l[i]? =some v:=by simpa using c
 rw[ε]at a;obtain⟨b,w⟩:∃ b,bs[i]? =some b:={_,θ<|a ▸ ((ζ.mp c).1)}
 let[u,x,L]:=n.get   (by rw[υ,w];rfl);rw[c]at x;cases (L)
 have e:bs.getD i false=b:=by rw[wp,w];rfl
 cases x
 have d:J (bs.getD i _) E:=d;rw[e]at d;exact ξ d;intro h' tk M
 have e:(ρ l.toArray.size).all (λi=>bs.getD i false)=bs.all id:=by
  rw[ε]at a;rw[aw,<-a];exact qP bs
 rw[e];exact x2 (.bl _) H {I.kept  λb o y=>M b o (by simpa using a_ (ak y)) (ν _ y),rfl,q}
end
def zcy{K:W.Frag}{x:Str}{H:Hp}{Q:VK}:P0 K [.str x] H Q=(x.length=1/\Q (.int (x.cps.getD 0 0:Nat)) H):=by simp[P0]
section
variable{P:bw}{w:World}{A:dr}{E:yB}{s:π}
end
section
variable{X:Cx}
def zcz(a:ys.length=us.length)(h:∀ (i:Nat) y u,ys[i]? =some y->us[i]? =some u->RelV y u):Vals ys us:=by
 induction ys generalizing us with
 |nil=>cases us with
  |nil=>exact .nil
  |cons u t=>simp at a
 |cons y t b=>cases us with
  |nil=>simp at a
  |cons u us=>exact .cons (h 0 y u rfl rfl) (b (by simpa using a) λi c d e g=>h (i+1) c d (by simpa using e) (by simpa using g))
end
def zc0:B0 (NP b) g c d k e a H Q=(b a H λx i=>∃ z,x=.str z/\EI (PZ z) g c d k e a i Q):=rfl
def zc1(s:z.cps.size<=sizeLine)(Pv:Nat->cF->Hp->Prop)(h0:Pv 0 [] H)(hs:∀ i c ys H,z.cps[i]? =some c->ys.length=i->Pv i ys H->l (some (.str {#[c]})::C0 n d) H λy o=>Pv (i+1) (ys++[y]) o)
  (hd:∀ ys H,ys.length=z.cps.size->Pv z.cps.size ys H->∀ p,H p=none->Q (.ref p) (upd H p<|.lst ys)):EI (PZ z) (AG 0) CQ l 1 n d H Q:=by
 refine{λi m a ys H=>m=z.cps.size-i/\i<=z.cps.size/\ys.length=i/\(∃ g,a=g::C0 _ d)/\Pv i ys H,{z.cps.size,rfl,bh _,rfl,⟨_,rfl⟩,h0},?_};intro i m a ys H [rfl,u,b,[g,rfl],p];by_cases j:i<z.cps.size;refine .inr {j,by lia,λx v y=>?_};let[e,c,r,y]:=y;subst e y;refine{_,λy w q=>{_,cq ‹_›,rfl,j,?_,⟨_,rfl⟩,q},hs i c ys _ r b p};rw[ai,je,b]
 have e:i=z.cps.size:=by lia
 subst e;exact .inl {ο _,hd ys H b p}
open PySem
abbrev JC(l:xE):Prop:=l.Pairwise (· <·)
def P7{l:xE}(R:JC l){i k a b:Nat}(h:i<k)(c:l[i]? =some a)(d:l[k]? =some b):a<b:=by
 let[h2,rfl]:=ζ.mp d;let[h1,rfl]:=ζ.mp c;exact rj.mp R i k h1 h2 h
structure Below(xs:Array Nat)(j r:Nat):Prop where
 le:r<=xs.size
 lo:∀ i v,i<r->xs.toList[i]? =some v->v<j
 hi:∀ i v,r<=i->xs.toList[i]? =some v->j<=v
theorem XS{xs:Array Nat}(R:JC xs.toList):∀ (d lo c:Nat),lo<=c->c<=xs.size->c-lo<=d->(∀ i v,i<lo->xs.toList[i]? =some v->v<j)->(∀ i v,c<=i->xs.toList[i]? =some v->j<=v) ->
  Below xs j (Eu xs j d lo c)
 |0,lo,c,h1,h2,h3,a,b=>by
  have e:lo=c:=by lia
  subst e;exact⟨h2,a,b⟩
 |d+1,lo,c,h1,h2,h3,a,b=>by
  unfold Eu;by_cases p:lo<c;rw[if_pos p]
  have o:(lo+c)/2<xs.size:=by lia
  have r:xs.getD ((lo+c)/2) j=xs[(lo+c)/2]:=by simp[o]
  have l:xs.toList[(lo+c)/2]? =some (xs[(lo+c)/2]):=by simp[o]
  simp only[r];split;rename_i n;refine XS R _ _ _ (by omega) h2 (by omega) (λi v g e=>?_) b;by_cases q:i=(lo+c)/2;subst q;rw[l]at e;cases e;exact n;exact wa (P7 R (show i<(lo+c)/2 by exact j_ (dv g) q) e l) n;rename_i n;refine XS R _ _ _ (by omega) (js o) (by omega) a λi v g e=>?_;by_cases q:i=(lo+c)/2;subst q;rw[l]at e;cases e;exact cv n
  have:=P7 R (show(lo+c)/2<i by lia) l e
  lia
  rw[if_neg p]
  have e:lo=c:=by lia
  subst e;exact⟨h2,a,b⟩
def XT(R:JC xs.toList):Below xs j (ka xs j) :=
 XS R _ _ _ (bh _) (ο _) (ο _) (λz z h=>absurd h<|i_ _) λi v h e=>by
  rw[bv (h)]at e;cases e
def Below.uniq(a:Below xs j r)(b:Below xs j c):r=c:=by
 let h||h||h:=E_ r c
 have hs:=ω h b.le
 have e:xs.toList[r]? =some (xs[r]):=by simp[hs]
 have:=b.lo _ _ h e
 have:=a.hi _ _ (ο _) e;omega;exact h
 have hs:=ω h a.le
 have e:xs.toList[c]? =some (xs[c]):=by simp[hs]
 have:=a.lo _ _ h e
 have:=b.hi _ _ (ο _) e;omega
def NotIn(t:SetTable)(j:Nat):Prop:=t.place[ka t.place j]? ≠some j
def zc2(h:t.slot j=.empty):NotIn t j:=λe=>by
 unfold K_ at h;simp only[e,beq_self_eq_true]at h;cases h
def zc3(h:t.slot j=.dummy):NotIn t j:=λe=>by
 unfold K_ at h;simp only[e,beq_self_eq_true]at h;cases h
def qQ(t:SetTable)(p:Ke):(t.advance p).dummy=p.dummy:=by
 unfold SetTable.advance;split<;>rfl
theorem XU:∀ (a:Nat) (p:Ke) (j:Nat) (d:Option Nat),Fa t f h a p=some (.empty j d)->(∀ x,p.dummy=some x->NotIn t x)->NotIn t (d.getD j)
 |0,p,j,d,e,_=>by cases e
 |a+1,p,j,d,e,hd=>by
  unfold Fa at e;split at e;rename_i hs;cases e;cases q:p.dummy with
  |none=>exact zc2 hs
  |some x=>exact hd x q
  rename_i hs;refine XU _ _ j d e λx b=>?_;rw[qQ]at b;obtain rfl:=ι b;exact zc3 hs;split at e;cases e;exact XU _ _ j d e λx b=>by rw[qQ]at b;exact hd x b
set_option tactic.hygienic true in
def zc4(e:t.freeSlot h=some (s,b)):NotIn t s:=by
 unfold SetTable.freeSlot at e;split at e
 ·rename_i j d a;cases e;refine XU _ _ _ _ a λx c=>?_;cases c
 ·cases e
def zc5(n:Nat):JC (Array.range n).toList:=by
 rw[Array.toList_range];exact ix
def zc6{t:SetTable}(R:JC t.place.toList)(h:NotIn t j):JC (t.put j).1.place.toList:=by
 have b:=XT (j:=j) R
 show JC (SetTable.insertAt _ _ j).toList;rw[SetTable.toList_insertAt]
 have a:∀ v∈t.place.toList.take (ka t.place j),v<j:=λv l=>by
  let[i,d,e]:=jr l;refine b.lo i v (by rw[df]at d;lia) ?_;rw[<-e];simp only[Fe];exact θ _
 have c:∀ v∈t.place.toList.drop _,j<v:=λv l=>by
  let[i,d,e]:=jr l
  have g:t.place.toList[ka t.place j+i]? =some v:=by
   rw[<-Df,θ d,e]
  by_cases q:j=v;subst q
  have z:i=0:=by
   by_cases z:i=0;exact z
   have r:ka t.place j<t.place.toList.length:=by
    rw[il]at d;lia
   have o:=θ r
   have:=b.hi _ _ (ο _) o
   have:=P7 R (show ka _ j<ka _ j+i by lia) o g
   lia
  subst z;rw[h_]at g;exact absurd g h;exact j_ (b.hi _ _ (uy _ _) g) q
 refine Aa.mpr {R.sublist<|D_ ..,jh.mpr {c,R.sublist<|List.drop_sublist ..},λx p y n=>?_};let rfl||n:=aj.mp n
 exact a x p;exact wa (a x p) (c y n)
structure Led(led:Bool)(t:SetTable):Prop where
 rise:JC t.place.toList
 led:t.led=led
def Led.standIn{led:Bool}{t:SetTable}(h:t.led=led)(n:Nat):Led led (t.standIn n):={zc5 n,h}
def Led.or{led:Bool}{t:SetTable}(h:Led led t)(n:Nat):Led led (t.orStandIn n):=by
 unfold SetTable.orStandIn;split;exact h;exact .standIn h.led n
set_option tactic.hygienic true in
def Led.layNew{led:Bool}{t:SetTable}(L:Led led t)(a:Array (Int × Value))(h:Int)(x:Value):Led led (layNew t a h x).2.1:=by
 unfold PySem.layNew;split
 ·rename_i slot b e;exact Led.or {zc6 L.rise<|zc4 e,L.led} _
 ·exact .standIn L.led _
def zc7(owner:Array (Option Nat))(m:Nat):JC (((ρ m).filterMap λj=>(owner.getD j none).map (j,·)).map (·.1)):=by
 rw[List.map_filterMap];refine(ix ).filterMap _ λa b c x d y e=>?_;simp only[Ae,af]at d e;let[z,z,rfl]:=e;let[z,z,rfl]:=d;exact c
set_option tactic.hygienic true in
def Led.relayAll{led:Bool}{t:SetTable}(h:t.led=led)(L:Led led t)(b:Array (Int × Value))(a:Nat):Led led (Ff t b a).2.1:=by
 unfold PySem.relayAll;split
 ·rename_i t' order e;dsimp only;split
  ·unfold SetTable.relaid SetTable.laid at e;simp only[Option.bind_eq_bind,yl,Option.pure_def,xq,Prod.mk.injEq]at e;let[owner,_,rfl,_]:=e;exact{by simpa using zc7 owner _,h}
  ·exact .standIn h _
 ·exact .standIn h _
def Led.plainOff{led:Bool}{t:SetTable}(L:Led led t):Led led { t with plain:=false }:=⟨L.rise,L.led⟩
def Led.fresh(led:Bool):Led led (.fresh 0 0 led):=⟨Eo,rfl⟩
def P8(xs:Array Nat):Nat->Nat
 |0=>0
 |i+1=>xs.getD i 0+1
def zc8{xs:Array Nat}(R:JC xs.toList):∀ {i:Nat},i<=xs.size->ka xs (P8 xs i)=i
 |0,_=>(XT R).uniq {bh _,λ_ _ h=>absurd h<|i_ _,λ_ _ _ _=>bh _}
 |i+1,b=>(XT R).uniq ⟨b,λk v c e=>by
   have a:i<xs.size:=b
   have g:xs.getD i 0=xs[i]:=by simp[a]
   have d:xs.toList[i]? =some xs[i]:=by simp[a]
   show v<xs.getD i 0+1;rw[g];by_cases q:k=i;subst q;rw[d]at e;obtain rfl:=ι e;exact fe _;exact ck (P7 R (show k<i by exact j_ (dv c) q) e d),λk v c e=>by
   have a:i<xs.size:=b;exact P7 R (show i<k by exact c) (by simp[a]) e⟩
theorem qS{α :Type}(next:Nat->Nat):∀ (a k:Nat) (left:List α) (out:Array α),left.length=a->q_ (Fi next a k left out).toList (out.toList++left)
 |0,k,left,out,h=>by
  rw[cu.mp h];unfold Fi;simp
 |a+1,k,left,out,h=>by
  have b:next k%left.length<left.length:=t_ _ (by lia);unfold Fi;rw[θ b];refine(qS _ _ _ _ _ (by rw[wq b];lia)).trans ?_;rw[Fn,dw];refine List.Perm.append_left _ ?_;rw[lz]
  show q_ (left[next k%left.length]::(left.take _++left.drop _)) _;refine Hn.symm.trans ?_;rw[<-ki b,kh]
def zc9{α :Type}(next:Nat->Nat)(xs:Array α):q_ (Lr next xs).toList xs.toList:=(qS _ _ 0 _ _<|rfl)
end L2
namespace L2
open PySem PyProof.Rows
def leads(w:World):Bool:= !w.params.followText "set-order"
def iv:Value->Int
 |.int n _=>n
 |_=>0
def IntSet(P:bw)(w:World)(h:Heap)(a:Addr)(c:wE):Prop :=
 ∃ (o:Obj) (b:Array (Int × Value)) (d:Nat) (t:SetTable),h.get? a=some o/\o.ExactSet/\o.data=.set b d t/\Bf (l8 P w) b.toList /\
  q_ (b.toList.map λe=>iv e.2) c/\b.size<wf/\t.fits b.size=true/\Led (leads w) t
section
variable{P:bw}{w:World}{A:dr}{E:yB}{s:π}
def XV(h:Bf (l8 P w) a)(he:e∈a):∃ t,e.2=.int (iv e.2) t:=by
 let[[k,b,y],y]:=h e he;let[t,z]:=ub b;exact{t,by rw[z];rfl}
def qT(h:Bf (l8 P w) a)(he:e∈a):(l8 P w).is k e.2=true↔iv e.2=k:=by
 let[t,z]:=XV h he;rw[z];refine{λq=>?_,λq=>?_}
 have b:Ij k (.int _ t)=true:=q;let[t',c]:=ub b;cases c;rfl;rw[<-q];exact Kf ..
def qU(h:Bf (l8 P w) a)(p:q_ (a.map λe=>iv e.2) b)(k:Int):k∈b↔∃ e∈a,(l8 P w).is k e.2=true:=by
 rw[<-p.mem_iff,ay];exact{λ⟨e,he,q⟩=>{e,he,(qT h he).mpr q},(by intro[e,he,q];exact{e,he,(qT h he).mp q})}
def qV{h:Heap}{o:Obj}{i b:Array (Int × Value)}{t t':SetTable}(j:h.get? a=some o)(hex:o.ExactSet)(hd:o.data=.set i l t)
  (c:Bf (l8 P w) b.toList) (n:q_ (b.toList.map λe=>iv e.2) p) (d:b.size<wf) (hf:t'.fits b.size=true) (L:Led (leads w) t') :
  (h.update a<|Ki b t').get? a=some { o with data:=.set b (l+1) t' }/\IntSet P w (h.update a<|Ki b t') a p:=by
 have g:=(SetOf_store   j hex hd c (λk=>by rw[du]) d hf).1;exact{g,x4 _ _ _ t' ⟨g,hex,rfl,c,n,d,hf,L⟩}
def qW{g:Bool->Sem Unit}(x:∀ (b:Bool) (p:π) (R:Unit->π->Prop),R () p->wpAny (model P w) A (g b) R E p){o:Obj}{y c:Array (Int × Value)}{t d:SetTable}
  (q:s.heap.get? a=some o) (hex:o.ExactSet) (hd:o.data=.set y M t) (i:Bf (l8 P w) c.toList) (u:q_ (c.toList.map λe=>iv e.2) B) (n:c.size<wf) (hf:d.fits c.size=true) (L:Led (leads w) d)
  {R:Option Bool->π->Prop} (h:∀ h',gk a s.heap h'->IntSet P w h' a B->R (some true) { s with heap:=h' }) :
  wpAny (model P w) A (do
   storeSet a c d
   if(!N&&d.tooFull)=true then do
    g (Ff d c<|ph c.size).2.2
    storeSet a (Ff d c<|ph c.size).1 (Ff d c<|ph c.size).2.1
    pure (some true)
   else pure (some true)) R E s:=by
 refine δ<|Fo q hd ?_<|xr n
 have j:=e_ s.heap a<|Ki c d;let[g1,D]:=qV q hex hd i u n hf L;split
 have l:=relayAll_perm d c<|ph c.size
 have f2:=relayAll_fits d c<|ph c.size
 have L2:=Led.relayAll L.led L c<|ph c.size;revert l f2 L2;generalize Ff d c _=r;let[H,O,Q]:=r;intro l f2 L2
 have I:H.size=c.size:=by rw[<-da,l.length_eq,da]
 have v:=I ▸ n;refine δ<|x _ _ _<|δ<|Fo g1 rfl ?_<|xr v;let[z,J]:=qV   g1 hex rfl (i.perm l) ((l.map _).trans u) v f2 L2;exact ξ<|h _ (j.trans<|e_ ..) J;exact ξ<|h _ j D
def qX{a:wE}(h:k∈a):wt a k=a:=by
 unfold wt
 have e:(a.any λx=>x==k)=true:=du.mpr {k,h,beq_self_eq_true k};rw[if_pos e]
def qY{a:wE}{k:Int}(h:¬ k∈a):wt a k=a++[k]:=by
 unfold wt;rw[if_neg λz=>?_];let[x,b,q]:=du.mp z;rw[beq_iff_eq]at q;exact h<|q ▸ b
def zda{n:wE}{Q:Bool->π->Prop}(T:IntSet P w s.heap a n)(U:n.length+1<wf)
    (h:∀ (b:Bool) h',gk a s.heap h'->IntSet P w h' a (wt n k)->Q b { s with heap:=h' }):wpAny (model P w) A (setAddHashed a (.int k tk) ((l8 P w).hash k)) Q E s:=by
  have H:(l8 P w).is k (.int k tk)=true:=Kf ..
  have d:(uv k tk).scannable=true:=rfl;generalize uv k tk=x at H d;revert T;apply u4;intro o i Y t [u,hex,hd,c,v,J,hf,L]
  have CL:i.size=n.length:=by rw[<-v.length_eq,ε,da]
  have y:iv x=k:=by let[_,z]:=ub H;rw[z];rfl
  refine fm<|δ<|kz u hd hf ?_;dsimp only;rw[byScan_of d J c];refine δ<|δ<|pe<|δ<|wpAny_setScan_of H u hd hf c ?_;cases M:i.toList.findIdx? (λe=>(l8 P w).is k _)with
  |some j =>
    let[hj,pj,_]:=List.findIdx?_eq_some_iff_getElem.mp M;refine ξ<|ξ ?_;exact(h _ _ (xt a _) (x4 o i Y t {u,hex,hd,c,by rw[qX ((qU c v k).mpr {_,uz hj,pj})];exact v,J,hf,L}))
  | none =>
    have hm:¬ k∈n:=λz=>by
      let[e,he,q]:=(qU c v k).mp z
      have:=List.findIdx?_eq_none_iff.mp M e he;rw[q]at this;cases this
    have l:=layNew_perm t i ((l8 P w).hash k) x
    have f1:=layNew_fits t i ((l8 P w).hash k) x
    have p:=L.layNew i ((l8 P w).hash k) x;revert l f1 p;generalize layNew t i _ x=r;let[N,t1,wd,gv]:=r;intro l f1 p;dsimp only at l f1 p ⊢;rw[Fn]at l
    have g:=(c.push H d).perm l
    have O:q_ (N.toList.map λe=>iv e.2) (wt n k):=by
      rw[qY hm];refine(l.map _).trans ?_;rw[av,ci,yx,y];exact List.Perm.append_right _ v
    have B:N.size<wf:=by
      rw[<-da,l.length_eq,ai,da,CL];exact U
    have gw:∀ (b:Bool) (D:π) (R:Unit->π->Prop),R () D ->
        wpAny (model P w) A (match b with
          |true=>rule "set.scan.the-table-gave-way"
          |false=>pure ()) R E D:=λb D R q=>by
      cases b
      ·exact ξ q
      ·exact pe q
    refine δ<|gw _ _ _ ?_;split;refine δ ?_;rw[hashByValue_scannable 8 d];refine ξ<|qW ?_ u hex hd g O B ?_ ?_ λh' sb I=>?_;intro b D R q;cases b;exact ξ q;exact pe q;split;exact f1;exact SetTable.fits_plain_off f1;split;exact p;exact p.plainOff;exact ξ<|h _ h' sb I;refine qW ?_ u hex hd g O B f1 p λh' sb I=>?_;intro b D R q;cases b;exact ξ q;exact pe q;exact ξ<|h _ h' sb I
def IntSet.at(x:IntSet P w h a b)(k:∀ o,h.get? a=some o->h'.get? a=some o):IntSet P w h' a b:=by
 revert x;apply u4;intro o c d t [e,r];exact x4 o c d t {k _ e,r}
end
section
variable{P:bw}{w:World}{A:dr}{R:Result->π->Prop}{I:Addr}{fp wr:wD}{G:Array Ds->Array Ds->Prop}{n:Nat}{T:Nat->Value->Prop}{St:Nat->π->Prop}
def zdb(W:WalksS P w A.in1 I fp wr G n T St)(a:Addr)(p:a∉fp)(val:Nat->Int)(x:∀ i v,T i v->∃ t,v=.int (val i) t)(g:n+1<wf):∀ (k i:Nat) (s:π),n-i=k->i<=n->St i s ->
  IntSet P w s.heap a (wu val i)->(∀ c,Moved (a::wr) G s c->IntSet P w c.heap a (wu val n)->R (.ok<|.ret .none) c) ->
  vd (model P w) A (.builtin "set.update.loop" {[.ref a,.ref I],[]}) R s:=by
 have up:∀ b∈wr,b∈a::wr:=λb q=>τ _ q
 have d:=λz=>p<|W.sub _ z;intro k
 induction k with
 |zero =>
  intro i s y B st S q;obtain rfl:i=n:=by lia
  exact jp r_<|δ<|W.done s _ _ st λc m=>(ξ<|q c (m.mono up) (S.at λo e=>m.heap a o d e))
 |succ k D =>
  intro i s y B st S q
  have r:i<n:=by omega
  refine jp r_ ?_;refine δ<|W.item i s _ _ r st λv j E l m=>?_;let[t,rfl]:=x i v E
  show wpAny _ A.in1 (ue [uv (val i) t] (setAdd a<|.int (val i) t)>>=_) _ _ j;refine δ<|fm ?_;refine fm (δ ((l8 P w).pyHash (k:=val i) (Kf ..) (zda (s:={ j with toks:=j.toks+1 }) (S.at λo e=>m.heap a o d e) (by have:=wv val i;lia) λb h' sb u=>?_)));rw[<-firstMet_succ]at u;refine ξ {sq Bs _,D (i+1) _ (by omega) r (W.frame _ j _ _ l (jv _) λb g o e=>?_) u λH J L=>?_};rw[sb.2 b λz:b=a=>p<|z ▸ g];exact e
  ·refine q H (Moved.trans W.gtrans ((m.mono up).then_heap (jv _) λb o g e=>?_) J) L;rw[sb.2 b λz:b=a=>g<|z ▸ χ];exact e
end
section
variable{P:bw}{w:World}{A:dr}{E:yB}{s:π}
def zdc(h:Q (.ref s.heap.objs.size) { s with heap:=s.heap.push { cls:=.type "set",dict:=none,data:=.set #[] 0 (.fresh 0 0<|leads w) } }) :
  vd (model P w) A (.call (.builtin "set.__new__") {[.type "set",x],[]}) (wants Q E) s:=by
 refine codeAny_of_tree<|δ<|z_ (PySem.F.newCall_set_1 x) (ξ {sq PySem.F.plain_set_new _,jp PySem.F.entry_set_new ?_})
 have e:=sub_set_self
 wp_walk
 refine mf<|ξ ?_;exact δ<|wpAny_alloc<|ξ<|ξ h
end
end L2
namespace L2
open PySem PyProof.Rows
abbrev KD(f:Value)(i:Nat)(a:Addr)(n b:Nat):Obj:={ cls:=.type "set_iterator",dict:=none,data:=.fields #[f,lj i,.ref a,lj n,lj b],slots:= #[] }
def IH:Slot "set_iterator" "__next__" "set_iterator.__next__" :=
 .of (owner:="set_iterator") (n:="__next__") (by kernel_rfl) (by decide) (by decide) (by decide)
  (by first|exact .inl (by decide)|exact .inr (by decide))
  (by kernel_rfl)
def TF:entryFor table "set_iterator.__next__"=some vh.«set_iterator.__next__» :=entryFor_of_fast (by kernel_rfl)
def TJ(a:Value):argsOk "set_iterator.__next__" {[a],[]}:=by
 kernel_rfl
def qZ:Slot "set_iterator" "__iter__" "set_iterator.__iter__" :=
 .of (owner:="set_iterator") (n:="__iter__") (by kernel_rfl) (by decide) (by decide) (by decide)
  (by first|exact .inl (by decide)|exact .inr (by decide))
  (by kernel_rfl)
section
variable{P:bw}{w:World}{A:dr}{E:yB}{s:π}
def zdd{it a:Addr}{e i n b nx:Nat}{x:Value}{o:Obj}{c:Array (Int × Value)}{d:Nat}{t:SetTable}{Q:Option Value->π->Prop}(hit:s.heap.get? it=some (KD (lj e) i a n b))
  (j:s.heap.get? a=some o) (hd:o.data=.set c d t) (hf:t.fits c.size=true) (l:c.size=n)
  (hs:∀ (p:dr) (r:yB) (g:Option (Value × Nat)->π->Prop),g (some (x,nx)) s->wpAny (model P w) p (Fs a e i b) g r s)
  (q:∀ h',h'.get? it=some (KD (lj nx) (i+1) a n b)->gk it s.heap h'->Q (some x) { s with heap:=h' }):wpAny (model P w) A (xz<|.ref it) Q E s:=by
 have T:s.TypeIs (.ref it) _:=⟨_,hit,rfl⟩
 refine δ<|lm<|dg  T IH (di IH T TF (δ<|ξ<|δ<|pi hit rfl<|δ<|ma j hd hf ?_) (TJ _));rw[if_neg (by rw[l];simp)];exact δ (hs _ _ _ (δ (ke hit (by simp) λh1 g1 u=>(δ (ke g1 (by simp) λh2 g2 v=>(ξ {_,rfl,ξ<|q h2 g2<|u.trans v}))))))
def rA{Q:Except Value (Option Value)->π->Prop}(a:A.handled=none)(b:mq it s.heap h1)
  (q:∀ h' e,mq it s.heap h'->({ s with heap:=h' }:π).TypeIs e "StopIteration"->Q (.error e) { s with heap:=h' }) :
  wpAny (model P w) A (newExc (.type "StopIteration") []>>=raiseNew (α :=Fin)) (λz z=>False) (λe=>Q<|.error e) { s with heap:=h1 }:=by
 refine δ (δ (dk (δ  (z_  (by first|rfl|(rfl)) (dk (δ<|Ce ?_) (by size_fits)))) (by size_fits)));rw[a];refine δ<|ξ<|Im ?_;exact q _ _ ((b.push _).push _) {_,ae _ rfl,rfl}
def zde{it a:Addr}{g i n j:Nat}{o:Obj}{c:Array (Int × Value)}{d:Nat}{t:SetTable}{Q:Option Value->π->Prop}(u:A.handled=none)(hit:s.heap.get? it=some (KD (lj g) i a n j))
  (v:s.heap.get? a=some o) (hd:o.data=.set c d t) (hf:t.fits c.size=true) (x:c.size=n)
  (hs:∀ (y:dr) (B:yB) (l:Option (Value × Nat)->π->Prop),l none s->wpAny (model P w) y (Fs a g i j) l B s)
  (q:∀ h',mq it s.heap h'->Q none { s with heap:=h' }):wpAny (model P w) A (xz<|.ref it) Q E s:=by
 have T:s.TypeIs (.ref it) _:=⟨_,hit,rfl⟩
 refine δ<|lm<|dg  T IH (di IH T TF (δ<|ξ<|δ<|pi hit rfl<|δ<|ma v hd hf ?_) (TJ _));rw[if_neg (by rw[x];simp)];refine δ (hs _ _ _ (δ (ke hit (by simp) λh1 g1 D=>?_)));exact o_ (rA    (Q:=λr p=>match r with
  |.error e=>wpAny _ A (isInstance e _>>=λb=>if b=true then pure _ else throw e) Q E p
  |_=>False) (u) D.extBut λh' e H I=>(δ<|mh   I ww (ξ<|q _ H))) (λ_ _ z=>z.elim) (λe p z=>z)
def zdf{it a c:Addr}{i n d g:Nat}{j:Obj}{ps:Array Value}{k:Nat}{x:Int × Value}{o:Obj}{b:Array (Int × Value)}{t:SetTable}{Q:Option Value->π->Prop}(hit:s.heap.get? it=some (KD (.ref c) i a n d))
  (l:s.heap.get? a=some o) (hd:o.data=.set b d t) (hf:t.fits b.size=true) (p:b.size=n) (r:s.heap.get? c=some j) (e:j.data=.seq ps k) (u:ps[i]? =some (lj g)) (v:b[g]? =some x)
  (q:∀ h',h'.get? it=some (KD (.ref c) (i+1) a n d)->gk it s.heap h'->Q (some x.2) { s with heap:=h' }):wpAny (model P w) A (xz<|.ref it) Q E s:=by
 have T:s.TypeIs (.ref it) _:=⟨_,hit,rfl⟩
 refine δ<|lm<|dg  T IH (di IH T TF (δ<|ξ<|δ<|pi hit rfl<|δ<|ma l hd hf ?_) (TJ _));rw[if_neg (by rw[p];simp)];refine δ<|zz r e ?_;dsimp only;rw[cj,u]
 show wpAny _ _ (setNextDrawn a _ _>>=_) _ _ s;rw[cj];refine δ<|δ<|kz l hd hf ?_;dsimp only;rw[if_neg (by simp),v];exact ξ (δ (ke hit (by simp) λh2 g2 y=>(ξ {_,rfl,ξ<|q h2 g2 y})))
def zdg{g:Obj}{o:Obj}{c:Array (Int × Value)}{t:SetTable}{Q:Option Value->π->Prop}(l:A.handled=none)(hit:s.heap.get? it=some (KD (.ref p) i a n u))
  (v:s.heap.get? a=some o) (hd:o.data=.set c u t) (hf:t.fits c.size=true) (x:c.size=n) (y:s.heap.get? p=some g) (d:g.data=.seq ps k) (B:ps[i]? =none)
  (q:∀ h',mq it s.heap h'->Q none { s with heap:=h' }):wpAny (model P w) A (xz<|.ref it) Q E s:=by
 have T:s.TypeIs (.ref it) _:=⟨_,hit,rfl⟩
 refine δ<|lm<|dg  T IH (di IH T TF (δ<|ξ<|δ<|pi hit rfl<|δ<|ma v hd hf ?_) (TJ _));rw[if_neg (by rw[x];simp)];refine δ<|zz y d ?_;dsimp only;rw[cj,B];refine δ (ke hit (by simp) λh1 g1 D=>(δ (ke g1 (by simp) λh2 g2 H=>?_)));exact o_ (rA (s:=s)   (Q:=λr j=>match r with
  |.error e=>wpAny _ A (isInstance e _>>=λb=>if b=true then pure _ else throw e) Q E j
  |_=>False) (l) (D.trans H).extBut λh' e I J=>(δ<|mh   J ww (ξ<|q _ I))) (λ_ _ z=>z.elim) (λe j z=>z)
def zdh(b:w.params.followText "set-order"=true)(c:s.heap.get? a=some o)(hd:o.data=.set d g t)(hf:t.fits d.size=true)
  (q:Q (((Lr (w.params.setOrder a g) d)[i]?).map λe=>(e.2,0)) s):wpAny (model P w) A (Fs a 0 i g) Q E s:=by
 refine δ<|kz c hd hf<|δ<|δ<|mf<|ξ ?_
 show wpAny _ _ (if w.params.followText _=true then _ else _) _ _ s;rw[if_pos b,if_neg (by simp)];refine δ<|δ<|kz c hd hf<|δ<|δ<|mf<|ξ ?_
 show wpAny _ _ (if w.params.followText _=true then _ else _) _ _ s;rw[if_pos b];exact δ<|mf<|ξ<|ξ q
def zdi(d:w.params.followText "set-order"=false)(g:s.heap.get? a=some o)(hd:o.data=.set b j t)(hf:t.fits b.size=true)
  (L:Led (leads w) t) (l:(!t.plain&&decide (b.size > 1))=false) (n:i<=b.size) (q:Q ((b[i]?).map λe=>(e.2,P8 t.place<|i+1)) s):wpAny (model P w) A (Fs a (P8 t.place i) i j) Q E s:=by
 have hz:t.place.size=b.size:=by
  unfold SetTable.fits at hf;simp only[bx,beq_iff_eq]at hf;exact hf.1
 refine δ<|kz g hd hf<|δ<|δ<|mf<|ξ ?_
 show wpAny _ _ (if w.params.followText _=true then _ else _) _ _ s
 have ld:t.led=true:=by rw[L.led];unfold leads;rw[d];rfl
 rw[if_neg (show ¬ w.params.followText _=true by rw[d];exact ax)]
 show wpAny _ _ (if(!t.plain&&decide _)=true then _ else _) _ _ s;rw[if_neg (by rw[l];exact ax)];refine δ (m:=if(!t.led && !b.isEmpty)=true then _ else _) ?_;rw[if_neg (by rw[ld];simp)];refine ξ<|ξ ?_;rw[zc8 L.rise (ψ n<|ba hz.symm)];by_cases c:i<b.size
 have h2:=hz ▸ c;rw[fb _,fb h2];rw[fb c]at q
 have:P8 t.place (i+1)=t.place[i]+1:=by simp[P8,h2]
 rw[this]at q;exact q;rw[uj (cv c)];rw[uj (cv c)]at q;exact q
end
end L2
namespace L2
open PySem PyProof.Rows
def zdj:entryFor table "set.__iter__"=some vh.«frozenset.__iter__» :=entryFor_alias (id':="frozenset.__iter__") (by kernel_rfl) rfl (by decide +kernel) (by kernel_rfl)
def zdk:entryFor table "set_iterator.__iter__"=some vh.«dict_keyiterator.__iter__» :=entryFor_alias (id':="dict_keyiterator.__iter__") (by kernel_rfl) rfl (by decide +kernel) (by kernel_rfl)
def zdl(a:Value):argsOk "set_iterator.__iter__" {[a],[]}:=by
 kernel_rfl
structure XW(P:bw)(w:World)(A:dr)(h h1:Heap)(a I:Addr)(ms:wE):Prop where
 ex:∃ (fp:wD) (ord:uD) (ks:wE) (St:Nat->Heap->Prop),(∀ b∈fp,b=a\/h.objs.size<=b)/\Walks P w A I fp [I] ord.length (λi v=>ord[i]? =some v) St/\St 0 h1/\s_ ord ks/\ks.Perm ms
 new:h.objs.size<=I
section
variable{P:bw}{w:World}{A:dr}{E:yB}{s:π}
theorem XX:∀ {a:List (Int × Value)},Bf (l8 P w) a->s_ (a.map (·.2)) (a.map λe=>iv e.2)
 | [],_=>.nil
 |e::r,h=>by
  let[t,z]:=XV h<|χ ..;rw[ci,z];exact .cons _ _<|XX h.tail
def rC(hit:s.heap.get? it=some (KD f i a n b))(q:Q (.ref it) s):wpAny (model P w) A (zq<|.ref it) Q E s:=by
 have T:s.TypeIs (.ref it) _:=⟨_,hit,rfl⟩
 exact xu T qZ<|di qZ T zdk (ξ {_,rfl,x2 _ _ ⟨T,IH.lookup,q⟩}) (zdl _)
def zdm{l:Array (Int × Value)}{t:SetTable}{o:Obj}{f:Nat->Nat}{ord:uD}(L:A.handled=none)(r:a≠I)(hd:o.data=.set l H t)(hf:t.fits l.size=true)(M:ord.length=l.size)
  (nx:∀ (s:π),s.heap.get? a=some o->∀ (i:Nat),i<=l.size->∀ (n:dr) (p:yB) (d:Option (Value × Nat)->π->Prop),d ((ord[i]?).map λv=>(v,f<|i+1)) s->wpAny (model P w) n (Fs a (f i) i H) d p s) :
  Walks P w A I [I,a] [I] ord.length (λi v=>ord[i]? =some v) (λi h=>h.get? I=some (KD (lj<|f i) i a l.size H)/\h.get? a=some o) where
 sub:=λb J=>by simp at J;simp[J]
 frame:=λj j j st k=>{k I (by simp) _ st.1,k a (by simp) _ st.2}
 item:=λi s Q E N st q=>by
  have e:=θ N;exact zdd st.1 st.2 hd hf rfl (λn p d B=>nx s st.2 i (by lia) n p d (by rw[e];exact B)) λh' g b=>(q _ h' _ e {g,b.extBut a _ r st.2} λc u D z=>b.extBut c u (λy=>D (by simp[y])) z)
 done:=λs Q E st q=>zde L st.1 st.2 hd hf rfl (λn p d B=>nx s st.2 _ (ba M) n p d (by rw[bv (ο _)];exact B)) λh' x=>(q h' _ λc u D z=>x c u (λy=>D (by simp[y])) z)
 self:=λj j j j st q=>rC st.1 q
def zdn{n:Array (Int × Value)}{t:SetTable}{o J:Obj}{r:xE}{ord:uD}(N:A.handled=none)(B:a≠I)(D:d≠I)(hd:o.data=.set n O t)(hf:t.fits n.size=true)
  (l:J.data=.seq (r.map λ(i:Nat)=>lj i).toArray k) (L:ord.length=r.length) (T:∀ (i p:Nat),r[i]? =some p->∃ e:Int × Value,n[p]? =some e/\ord[i]? =some e.2) :
  Walks P w A I [I,a,d] [I] ord.length (λi v=>ord[i]? =some v) (λi h=>h.get? I=some (KD (.ref d) i a n.size O)/\h.get? a=some o/\h.get? d=some J) where
 sub:=λb M=>by simp at M;simp[M]
 frame:=λj j j st k=>{k I (by simp) _ st.1,k a (by simp) _ st.2.1,k d (by simp) _ st.2.2}
 item:=λi s Q E U st q=>by
  have e:=θ<|L ▸ U;let[x,Y,e2]:=T i _ e;exact zdf st.1 st.2.1 hd hf rfl st.2.2 l (by rw[zl,υ,e];rfl) Y λh' g b=>(q _ h' _ e2 {g,b.extBut a _ B st.2.1,b.extBut d _ D st.2.2} λc u H z=>b.extBut c u (λy=>H (by simp[y])) z)
 done:=λs Q E st q=>zdg N st.1 st.2.1 hd hf rfl st.2.2 l (by rw[zl,υ,bv<|ba L.symm];rfl) λh' x=>(q h' _ λc u H z=>x c u (λy=>H (by simp[y])) z)
 self:=λj j j j st q=>rC st.1 q
def zdo(a:n≠0)(q:∀ i d,i<n->Q i { s with drawn:=d }):wpAny (model P w) A (choose .order n) Q E s:=fun Γ p hΓ =>{a,(q _ _<|t_ _<|m_ a)}
theorem rE{α :Type}:∀ (n:Nat) (xs:List α) (s:π) (Q:List α ->π->Prop),xs.length=n->(∀ ys d,q_ ys xs->Q ys { s with drawn:=d })->wpAny (model P w) A (drawOrder n xs) Q E s
 |0,xs,s,Q,a,q=>by
  have  :=cu.mp a;subst this;exact ξ<|q [] _ .nil
 |n+1,[],s,Q,a,q=>by cases a
 |n+1,x::r,s,Q,a,q=>by
  refine δ (zdo (by simp) λi d b=>?_);rw[θ b];refine δ (rE n _ _ _ (by rw[wq b,a];rfl) λys c p=>(ξ<|q _ c<|(List.Perm.cons _ p).trans ?_));rw[lz];refine Hn.symm.trans ?_;rw[<-ki b,kh]
def zdp{Q:yB}(hh:A.handled=none)(S:IntSet P w s.heap a O)
    (q:∀ I h1 d1,(∀ b o,s.heap.get? b=some o->h1.get? b=some o)->XW P w A s.heap h1 a I O->Q (.ref I) { s with heap:=h1,drawn:=d1 }):wpAny (model P w) A (zq<|.ref a) Q E s:=by
  revert S;apply u4;intro o c ep t [g,hex,hd,n,hp,B,hf,L]
  have T:s.TypeIs (.ref a) _:=⟨o,g,hex.1⟩
  have A0:=ak g;refine xu T PySem.F.slot_set_iter<|di PySem.F.slot_set_iter T zdj (δ<|ξ<|δ<|δ<|ma g hd hf<|ξ<|δ<|δ<|kz g hd hf<|δ<|δ<|mf<|ξ<|ξ ?_) (PySem.F.args_set_iter_1 _)
  have plain:∀ (f:Nat->Nat) (ord:List _),f 0=0->ord.length=c.size->(∃ U,s_ _ U/\U.Perm O) ->
      (∀ (s:π),s.heap.get? a=some o->∀ (i:Nat),i<=c.size->∀ (A':dr) (E':yB) (Y:Option _->π->Prop),Y ((ord[i]?).map _) s->wpAny _ A' (Fs a (f i) i ep) Y E' s) ->
      XW P w A _ _ a _ O:=λf ord f0 D ⟨U,H,pk⟩ nx =>
    ⟨⟨_,_,U,_,λb B=>by
        simp only[aj,bt,or_false]at B;let rfl||rfl:=B
        exact .inr<|ο _;exact .inl rfl,zdm hh (a_ A0) hd hf D nx,{ae _ rfl,ν _ g},H,pk⟩,ο _⟩
  have fin:∀ (W:XW P w A _ _ a _ O),
      wpAny (model P w) A.in1 (do
        let first ← (pure<|lj 0)
        ret (← newFields _ [first,lj 0,.ref a,lj c.size,lj<|← setEpoch a])) (λfin s'=>∃ v,fin=.done (.ret v)/\∃ T' r,s'.TypeIs v T'/\J_ (.type T') _=pure (some r)/\Q v s') E s:=λW=>δ<|ξ<|δ<|Ft g hd hf<|δ<|dk<|ξ {_,rfl,x2 _ _ {{_,ae _ rfl,rfl},IH.lookup,(q _ _ _ (λb u e=>ν _ e) W)}}
  show wpAny _ _ (if(!w.params.followText _&&(!t.plain&&decide _))=true then _ else _) _ _ s;cases ft:w.params.followText _ with
  |true =>
    have pk:=zc9 (w.params.setOrder a ep) c
    have D:(Lr (w.params.setOrder a ep) c).size=c.size:=by rw[<-da,pk.length_eq,da]
    refine fin (plain (λj=>0) _ rfl (by rw[ε,da,D]) {_,XX<|n.perm pk,(pk.map _).trans hp} λs1 h1 i H A' E' Y J=>(zdh ft h1 hd hf ?_));rw[υ,h_,Ae]at J;exact J
  | false =>
    cases pl:(!t.plain&&decide (c.size > 1))with
    |false =>
      refine fin (plain _ (c.toList.map (·.2)) rfl (by rw[ε,da]) {_,XX n,hp} λs1 h1 i H A' E' Y J=>(zdi ft h1 hd hf L pl H ?_));rw[υ,h_,Ae]at J;exact J
    | true =>
      rw[if_pos (by simp)];refine δ<|rE c.size (ρ c.size) s _ (cr) λys d p=>?_
      have hy:ys.length=c.size:=by rw[p.length_eq,cr]
      have M:∀ x∈ys,x<c.size:=λx hx=>ao.mp<|p.mem_iff.mp hx;refine δ (wpAny_newTuple ?_ (by rw[ε,hy];exact xr B));refine δ<|Ft (o:=o) (ν _ g) hd hf ?_;refine δ<|dk<|ξ {_,rfl,x2 "set_iterator" _ {{_,ae _ rfl,rfl},IH.lookup,?_}};refine q _ _ d (λb u e=>ν _<|ν _ e) ⟨⟨_,ys.map λp=>(c[p]?.map (·.2)).getD .none,ys.map λp=>(c[p]?.map λe=>iv e.2).getD 0,_,λb B=>?_,
        zdn hh ?_ ?_ hd hf rfl (by rw[ε]) λi p e=>?_,{ae _ rfl,ν _<|ν _ g,ν _<|ae _ rfl},?_,?_⟩,?_⟩
      · simp only[aj,bt,or_false]at B
        let rfl||rfl||rfl:=B
        ·right;rw[pq];exact jv _
        ·exact .inl rfl
        ·exact .inr<|ο _
      ·rw[pq];exact a_<|fz A0
      ·rw[pq];exact a_<|fe _
      · have N:p<c.size:=M p (η e)
        exact{c[p],fb N,by rw[υ,e];simp[N]}
      · have all:∀ (l:xE),(∀ x∈l,x<c.size)->s_ (l.map λp=>(c[p]?.map (·.2)).getD .none) (l.map λp=>(c[p]?.map λe=>iv e.2).getD 0):=by
          intro l
          induction l with
          |nil=>exact λj=>.nil
          |cons x r ih =>
            intro D
            have hx:=D x<|χ ..;let[tk,z]:=XV n (e:=c[x]) (by simp)
            have e1:(c[x]?.map (·.2)).getD ip=uv (iv c[x].2) tk:=by rw[fb hx];exact z
            have e2:(c[x]?.map λe=>iv e.2).getD 0=iv c[x].2:=by rw[fb hx];rfl
            rw[ci,ci,e1,e2];exact .cons _ _<|ih λy hy=>D y<|τ _ hy
        exact all ys M
      · refine(p.map _).trans (List.Perm.trans (List.Perm.of_eq ?_) hp)
        refine List.ext_getElem (by simp) λi h1 h2=>?_
        have H:i<c.size:=by simpa using h1
        simp[H]
      ·rw[pq];exact jv _
def zdq(T:s.TypeIs (.ref a) "set")(q:Q false s):wpAny (model P w) A (Builtin.List.listLengthHint<|.ref a) Q E s:=by
 refine δ<|vp T PySem.F.slot_set_len.lookup ?_;generalize c:("set.__len__")=d;subst c;exact δ (mh  (b:=true) T (by rw[isSubtype_type];kernel_rfl) (wpAny_ite_split (λz=>absurd z (by decide)) (λy=>(wpAny_ite_split (λy=>(δ<|v_ T<|ξ q)) (λz=>absurd (by decide) z)))))
def zdr(hh:A.handled=none)(S:IntSet P w s.heap a L)(hn:L.length<=sizeLine)
  (q:∀ h' tk d vs B,(∀ b o,s.heap.get? b=some o->h'.get? b=some o)->s.heap.objs.size<=h'.objs.size->s_ vs B->B.Perm L->R vs { s with heap:=h',toks:=tk,drawn:=d }):wpAny (model P w) A (collect<|.ref a) R E s:=by
 have M:=let ⟨_,_,_,_,O,_⟩:=S;ak O
 refine δ<|Af<|jp Ai ?_;refine δ<|dk<|ξ {sq PySem.F.plain_list_iadd _,jp Ho ?_}
 show wpAny _ A.in1 (og (.ref s.heap.objs.size) (.ref a) (.ref s.heap.objs.size)) _ _ _;generalize D:s.heap.objs.size=N at M ⊢
 have Q:(s.heap.push { cls:=.type "list",data:=.seq ([]:uD).toArray }).get? N=some { cls:=.type "list",data:=.seq #[] }:=D ▸ ae _ rfl
 have g:∀ b o,s.heap.get? b=some o->(s.heap.push { cls:=.type "list",data:=.seq ([]:uD).toArray }).get? b=some o:=λb o e=>ν _ e
 have H:=S.at λo e=>g a o e
 have big:(s.heap.push { cls:=.type "list",data:=.seq ([]:uD).toArray }).objs.size=N+1:=by rw[pq,D]
 revert Q g H big;generalize s.heap.push { cls:=.type "list",data:=.seq ([]:uD).toArray }=h0;intro Q g H big
 have T1:∀ h':Heap,(∀ b o,h0.get? b=some o->h'.get? b=some o)->∀ tk d,({ s with heap:=h',toks:=tk,drawn:=d }:π).TypeIs (.ref a) "set":=λh' k tk d=>by
  revert H;apply u4;intro o x x x [O,hex,x];exact{o,k _ _ O,hex.1}
 have ne:lq (.ref N) (.ref a)=false:=by
  simp only[lq,beq_eq_false_iff_ne];exact gr M
 refine δ<|v_ (T:="set") (T1 h0 (λx x e=>e) s.toks s.drawn) ?_
 have n1:(jn "set" == jn "list")=false:=by decide
 have n2:(jn "set" == jn "tuple")=false:=by decide
 simp only[ne,n1,n2,n_,kf,if_false];refine δ (zdp (A:=A.in1) (s:={ s with heap:=h0 }) (by simpa using hh) H λI h1 U k1 W=>?_);let[[fp,ord,B,St,Y,W,st,hi,pk],hI]:=W
 have CL:ord.length=L.length:=by rw[An hi,pk.length_eq]
 have hI:=big ▸ hI;refine δ<|fm<|zdq (T1 h1 k1 s.toks U) ?_;refine δ<|pe<|δ ?_
 have g1:=k1 _ _ Q
 have g2:=cy (gb (·.push ip)) g1 rfl;refine δ (tj (s:={ s with heap:=h1,drawn:=U }) g1 rfl (tj (hz:=by seq_fits) g2 rfl ?_))
 have p:∀ b o,b≠N->h1.get? b=some o->((h1.update N (gb (·.push ip))).update N (gb (·.pop))).get? b=some o:=λb o n e =>
  (cm _ _<|fi n).trans ((cm _ _<|fi n).trans e)
 have r:N∉fp:=λz=>by
  let y||y:=Y N z
  ·exact gr M y
  ·have y':h0.objs.size<=N:=y;rw[big]at y';exact absurd y'<|Nat.not_succ_le_self _
 refine ξ {sq PySem.F.plain_extend_loop _,(Ao W.toS (by rw[CL];exact hn) N r (.ref N) ord.length 0 _ #[] _ rfl (bh _) (W.frame 0 _ _ st λb n o e=>p b o (λz=>r<|z ▸ n) e) (cy (gb (·.pop)) g2 rfl) (Mr _) λs' J c m g4 j=>?_)};refine δ<|Jr g4 ?_;refine ξ ?_
 have u:J.toList=ord:=by
  refine xv λi=>?_;by_cases l:i<ord.length
  ·have h3:i<J.size:=by rw[j.1];exact l
   have:=j.2 i J[i] (fb h3);rw[h_,fb h3,this]
  ·have e1:J.toList[i]? =none:=bv (by rw[da,j.1];exact cv l)
   have e2:ord[i]? =none:=bv<|cv l;rw[e1,e2]
 rw[u];let[h3,gn3,v,tk3,os3]:=s'
 have a1:gn3=s.gens:=m.gens
 have a2:v=U:=m.drawn
 have a3:os3=s.os:=m.os;subst a1;subst a2;subst a3;refine q _ _ v ord B (λb o e=>?_) (by rw[D];exact js<|ak g4) hi pk
 have n:b<N:=D ▸ ak e;refine m.heap b o (λz=>?_) (p b o (a_ n) (k1 _ _<|g _ _ e));simp only[aj,bt,or_false]at z;let z||z:=z
 ·exact a_ n z
 ·exact a_ (ω (fz n) hI) z
def zds(u:A.handled=none)(S:IntSet P w s.heap a j)(l:j.length<64)
  (q:∀ D h' tk d c out i,(∀ b o,s.heap.get? b=some o->h'.get? b=some o)->s.heap.objs.size<=D->h'.get? D=some (Kn "list" out c)->s_ out.toList i->i.Perm j->i.Pairwise (· <=·)->Q (.ref D) { s with heap:=h',toks:=tk,drawn:=d }) :
  wpAny (model P w) A (call (.builtin "sorted") [.ref a]) Q E s:=by
 refine xf kind_sorted plain_sorted entry_sorted (args_sorted1 _) (δ  (ξ<|δ<|zdr  (u) S (oB l rfl) λh1 tk d vs i k1 size_le n pk=>?_))
 have p:vs.length<64:=by rw[An n,pk.length_eq];exact l
 have g:(h1.push _).get? _=some (Kn "list" vs.toArray 0):=ae _ rfl;refine δ<|wpAny_newList (δ<|fm<|di slot_list_sort ⟨_,g,rfl⟩ entry_list_sort (list_sort_tree g n p λout v x y z=>{_,rfl,?_}) (args_list_sort _)) (oB p rfl);let[c,gc]:=sortedHeap_at   g;refine ξ {_,rfl,q _ _ tk d c _ _ (λb o e=>?_) size_le gc x (y.trans pk) z}
 have r:=ak<|k1 _ _ e;rw[sortedHeap_old (a_ r) (by rw[pq];exact fz r)];exact ν _<|k1 _ _ e
end
end L2
namespace L2
open PySem PyProof.Rows
section
variable{P:bw}{w:World}{A:dr}{E:yB}{s:π}
def zdt(hh:A.handled=none)(hl:s.heap.IsList l g)(hi:s_ g.toList ns)(n:g.size+1<wf)
  (q:∀ h' tk,IntSet P w h' s.heap.objs.size (wu (λi=>ns.getD i 0) g.size)->(∀ b o,s.heap.get? b=some o->h'.get? b=some o)->Q (.ref s.heap.objs.size) { s with heap:=h',toks:=tk }) :
  wpAny (model P w) A (call (.type "set") [.ref l]) Q E s:=by
 refine u2 ?_ PySem.F.called_set.mro;rintro c tl mro
 have made:=PySem.F.called_set.made
 have sub:=PySem.F.called_set.sub;refine Js<|codeAny_of_tree ?_
 show wpAny _ _ (callAny (.type "set") _) _ _ _;refine ξ {Code.quiet_builtin _ (by decide +kernel),jp PySem.F.entry_type_call ?_};rw[Around.under_plain (weight_type_call_type "set" [.ref l] []) rfl]
 have n1:=PySem.F.called_set.notType
 have n2:=PySem.F.called_set.canCreate
 have n3:=PySem.F.typeCall_set_1<|.ref l
 repeat (any_goals (first|assumption|wp_step))
 generalize p:({ cls:=.type "set",dict:=none,data:=.set #[] 0 (.fresh 0 0<|leads w) }:Obj)=d;refine mx (zdc (E:=E) (Q:=λx T=>x=.ref s.heap.objs.size/\T={ s with heap:=s.heap.push d }) {rfl,by rw[<-p]}) λr T z=>?_;cases r with
 |error e=>exact z
 | ok fl =>
  cases fl with
  | ret x =>
   let[rfl,rfl]:=z
   have u:(s.heap.push d).get? s.heap.objs.size=some d:=ae _ (by rw[<-p];rfl)
   have B:Shared.TypeIs { s with heap:=s.heap.push d } (.ref s.heap.objs.size) "set":={_,u,by rw[<-p]}
   have i1:=PySem.F.called_set.init.lookup
   have i2:=PySem.F.called_set.init.bind<|.ref s.heap.objs.size
   repeat (any_goals (first|assumption|wp_step))
   refine mx (codeAny_call_builtin (R:=wants (λr U=>r=.none/\∃ h' tk,U={ s with heap:=h',toks:=tk }/\IntSet P w h' s.heap.objs.size (wu (λi=>ns.getD i 0) g.size) /\
    (∀ b o,s.heap.get? b=some o->h'.get? b=some o)) E) PySem.F.called_set.init.plain PySem.F.entry_set_init (check_set_init_1 B ?_)) λr2 U D=>?_
   ·let[ol,Y,cl,nl,dl]:=hl;let[c1,d1,dt1,sl1]:=ol;simp only at cl dl;subst cl;subst dl
    have j:=ν d Y
    have e1:=PySem.F.sub_list_set
    have e2:=PySem.F.sub_list_frozenset
    have e3:(jn "list" == jn "dict")=false:=by decide
    have y:(s.heap.push d).IsList l g:=⟨_,j,rfl,nl,rfl⟩
    have A0:l<s.heap.objs.size:=ak Y
    have big:=pq s.heap d;revert j y u B big
    have a:∀ b o,s.heap.get? b=some o->(s.heap.push d).get? b=some o:=λb o e=>ν _ e;revert a;generalize s.heap.push d=h0;intro a u B j y big;subst p;unfold vh.«set.__init__» noKeywords Iv;generalize H:zq=PI
    wp_walk
    subst H;refine xp y ?_;refine δ<|Af ?_
    have I:A.in1.in1.in1.handled=none:=by simp[hh]
    have J:l≠h0.objs.size:=a_ (by rw[big];exact fz A0)
    have L:s.heap.objs.size∉[h0.objs.size,l]:=by
     simp only[aj,bt,or_false,not_or];exact{a_ (by rw[big];exact fe _),gr A0}
    refine zdb ((Na I _ l J g).toS) s.heap.objs.size L (λi=>ns.getD i 0) (λi v e=>IntsAre.int_at hi i v (by rw[h_];exact e)) n (g.size-0) 0 _ (by omega) (bh _)
     {{_,ae _ rfl,rfl,rfl},y.push _} (x4 _ (#[]) 0 _ {ν _ u,⟨rfl,rfl,rfl⟩,rfl,λe he=>by simp at he,by exact .nil,by decide,by rfl,Led.fresh _}) λs3 m S3=>?_
    let[h3,g3,d3,M,N]:=s3
    have a1:g3=s.gens:=m.gens
    have a2:d3=s.drawn:=m.drawn
    have a3:N=s.os:=m.os;subst a1;subst a2;subst a3
    show wpAny _ _ _ _ _ _;refine ξ ?_
    show wpAny _ _ (ret ip) _ _ _;refine ξ {rfl,x2 h3 M {rfl,S3,λb o e=>?_}}
    have n:=ak e;refine m.heap b o ?_<|ν _<|a _ _ e;simp only[aj,bt,or_false,not_or];exact{a_ n,a_ (by rw[big];exact fz n)}
   ·cases r2 with
    |error e=>exact D
    |ok O =>
     cases O with
     |ret r =>
      let[rfl,h',tk,rfl,S',k']:=D
      repeat (any_goals (first|assumption|wp_step))
      exact q _ _ S' k'
     |_=>exact D.elim
  |_=>exact z.elim
end
end L2
namespace L2
section
variable{X:Cx}
def Inv.drawn(I:Inv X a b H s)(d):Inv X a b H { s with drawn:=d } :=
 { ok:=I.ok,os:=I.os,bare:=I.bare,base:=I.base,loc:=I.loc,cell:=I.cell,free:=I.free,freeC:=I.freeC,pin:=I.pin,hok:=I.hok,len:=I.len }
def zdu:∀ {ns:wE} {us:uD},Vals (ns.map V.int) us->s_ us ns:=by
 intro ys us h
 induction ys generalizing us with
 |nil=>rw[SF h];exact .nil
 |cons y r a =>
  let[u,m,rfl,[tk,rfl],t]:=SE h;exact .cons _ _<|a t
abbrev rF(X:Cx)(a:Addr)(b:wE):HO:=.ext λh=>IntSet X.prog X.w h a b
def zdv(g:X.calm=true):EG X (.type "set") (λxs H Q=>∃ (p:Addr) (ns:wE),xs=[.ref p]/\SqL X.K H p (ns.map V.int)/\ns.length<=1000 ∧
  ∀ (a:Addr),H a=none->Q (.ref a) (upd H a<|rF X a<|wu (λi=>ns.getD i 0) ns.length)):=by
 intro w s x H xs us Q I r h;revert h;apply u2;intro p ns [rfl,j,l,q];let[u,rfl,rfl]:=GI r;let[n,o,v,hz]:=I.list j
 have c:=zdu o
 have d:=An c
 have b:n.toArray.size=ns.length:=by rw[aw,d]
 refine zdt (I.ok.hd g) v.isList c (by rw[aw,d];exact cf (ym l) (by decide)) λh' tk S k=>?_;rw[b]at S;refine x2 (.ref _) _ {I.laid k (ο _) ?_,rfl,q _<|I.hok.fresh<|ο _};exact{S,⟨_,S.choose_spec.choose_spec.choose_spec.choose_spec.1⟩,λh1 h2 z e=>z.at e}
def zdw(l:X.calm=true):EG X (.builtin "sorted") (λxs H Q=>∃ (a:Addr) (e:wE),xs=[.ref a]/\H a=some (rF X a e)/\e.length<64 ∧
  ∀ (D:Addr) (b:wE),H D=none->q_ b e->b.Pairwise (· <=·)->Q (.ref D) (upd H D<|.lst<|b.map V.int)):=by
 intro v s w H xs us Q I r h;revert h;apply u2;intro a e [rfl,n,i,q];let[S,z,z]:=I.hok a _ n;let[u,rfl,rfl]:=GI r;refine zds (I.ok.hd l) S i λD h' tk d c out b k j g o pk p=>(x2 (.ref D) _ {(I.laid  k j ?_).drawn d,rfl,q D b (I.hok.fresh j) pk p})
 exact{by rw[ε];exact oB (by rw[pk.length_eq];exact i) rfl,x2 _ c {pK o,g}}
def zdx(val:Nat->Int)(n:Nat)(x:Int):x∈wu val n↔∃ i,i<n/\val i=x:=by
 have h:=firstMet_any val n x;rw[ku,du,du]at h;constructor;intro c;let[y,a,e]:=h.mp {x,c,beq_self_eq_true x};let[i,b,rfl]:=ay.mp a;exact{i,ao.mp b,eq_of_beq e};intro[i,b,rfl];let[y,a,e]:=h.mpr {_,ay.mpr {i,ao.mpr b,rfl},beq_self_eq_true _};exact eq_of_beq e ▸ a
theorem XY(val:Nat->Int):∀ n,(wu val n).Nodup
 |0=>jz
 |n+1=>by
  rw[firstMet_succ];by_cases h:val n∈wu val n;rw[qX h];exact XY _ n;rw[qY h];exact om.mpr {XY _ n,by simp,λa d b c e=>by rw[aa]at c;subst c e;exact h d}
theorem rG:∀ {l:wE},l.Pairwise (· <=·)->l.Nodup->l.Pairwise (· <·)
 | [],_,_=>.nil
 |x::r,h,n=>by
  let[b,c]:=ic.mp n;let[h1,h2]:=jh.mp h;refine jh.mpr {λy a=>?_,rG h2 c}
  have:=h1 y a
  have:x≠y:=λz=>b<|z ▸ a
  lia
def TK(K:W.Frag)(d:TE):TE:=λe H Q=>d e H λx b=>∃ (p:Addr) (ns:wE),x=.ref p/\SqL K b p (ns.map V.int)/\ns.length<64 /\
 ∀ (a:Addr) (o:HO) (D:Addr) (c:wE),b a=none->upd b a o D=none->c.Pairwise (· <·)->(∀ x,x∈c↔x∈ns)->c.length<=ns.length->Q (.ref D) (upd (upd b a o) D (.lst<|c.map V.int))
def clo(b:TE):TE:=λc H Q=>∃ C:VK,b c H C/\∀ x a,C x a->Q x a
def PE.clo(h:PE X e a):PE X e (clo a):=(by intro i s b H Q I [C,q,m];exact AO (h _ s b H C I q) (by intro v j [x,c,d,g,q1];exact x2 x c {d,g,m _ _ q1}))
def zdy(d:X.calm=true)(g1:Gl X "sorted")(j:X.mg "sorted"=none)(g2:Gl X "set")(l:X.mg "set"=none)(h:PE X e n)
  (he:az [e] X.env=[(false,eval e X.env)]:=by rfl) :
  PE X (.Call (.Name "sorted" A) [.Call (.Name "set" B) [e] [] E] [] J) (TK X.K n):=λL s o H Q I q=>by
 refine(NH (zdw d) g1 j (rfl) (ME (NI (zdv d) g2 l (rfl) (ME h.clo ST he) (he:=he)) ST)) _ s o H Q I ({_,q,λx M b=>?_});let[p,ns,rfl,r,g,q1]:=b;refine x2 p ns {rfl,r,oB g rfl,λa u=>x2 a _ {rfl,AE,(cf (wv ..) g),λD v w pk y=>?_}};refine q1 a _ D v u w (rG y<|pk.nodup_iff.mpr<|XY (λi=>ns.getD i 0) _) (λx=>?_) (by rw[pk.length_eq];exact wv ..);rw[pk.mem_iff,zdx];refine{λb=>?_,λz=>?_};let[i,c,e]:=b;rw[<-e];simp[c];let[i,c,e]:=jr z;exact{i,c,by simp[c,e]}
end
def TM(K:W.Frag)(a:Addr)(n:Nat):It :=
 {λi H=>i<n/\∃ xs,SqL K H a xs/\xs.length=n,λi H x b=>b=H/\∀ xs,SqL K H a xs->xs[n-1-i]? =some x,λi _=>n<=i}
def zdz{P:bw}{w:World}{K:W.Frag}{U:Expr}(a it:Addr)(n:Nat):JZ P w K U (TM K a n) [it] it (λi h=>i<=n/\h.IsRevIter it a ((n:Int)-1-(i:Int))) where
 mem:=by simp
 obj:=λi h ⟨_,st⟩ b g=>by
  have e:b=it:=by simpa using g
  subst e;let[o,e,c,d]:=st;exact{o,e,λv z=>by rw[d]at z;cases z}
 keep:=λi h h' ⟨l,st⟩ k=>{l,st.at λo e=>k it (by simp) o e}
 item:=by
  intro X D J L M i Y s N H E I hf [O,st] [hi,xs,Q,hn];subst D J L;let[AK,rv,p,hz]:=I.list Q
  have A0:n-1-i<xs.length:=by omega
  have T:=θ A0;let[q,f1,f2,r,x,A]:=hf it (by simp)
  have B:n-1-i=((n-1-i:Nat):Int):=by omega
  let[u,hu,ru]:=rv.get T;rw[B]at st
  have e2:((n-1-i:Nat))-1=n-1-((i+1):Int):=by omega
  refine wpAny_pyNext_rev_item st p.isList  (by simpa using hu) λh' j sb=>?_;rw[e2]at j
  have I1:Inv X _ N H { s with heap:=h' }:=I.turned  (λb o g e=>(sb.2 b g).trans e) q f1 r x A;let[o,e,c,d]:=id j;exact{u,rfl,ND  e c d (by decide) (x2 _ H {I1,ru,{rfl,λys hy=>by rw[I.list_inj hy Q];exact T},⟨hi,j⟩,λb g=>(hf b g).1})}
 done:=by
  intro X D J L M i Y s N H E I hf ⟨O,st⟩ hg;let[q,f1,f2,r,x,A]:=hf it (by simp)
  have e:=kq O hg;subst e
  have B:i-1-(i:Int)= -1:=by lia
  rw[B]at st;exact wpAny_pyNext_rev_end (I.ok.hd M) st λh' eb=>{rfl,I.turned  (λb o g e=>eb b o g e) q f1 r x A}
 self:=λy y y y y st h=>Ar st.2 h
def TN(K:W.Frag)(c:TA):TI:=λd H R=>c d H λvs b=>∃ a xs,vs=[.ref a]/\SqL K b a xs/\R (TM K a xs.length) b
def zd0:uc "reversed"=some (.type "reversed"):=rfl
section
variable{X:Cx}{tg:Expr}
def zd1{a:Expr}{i:TA}{p pos:Pos}(v:Gl X "reversed")(w:X.mg "reversed"=none)(x:PA X [a] i)(hs:az [a] X.env=[(false,eval a X.env)]:=by rfl):PI X tg (.Call (.Name "reversed" p) [a] [] pos) (TN X.K i):=by
 refine λJ s j H R I h=>Call_ (OY I v w zd0 (jt (AO (x _ _ s j H _ I h) λus c g=>?_) (by rw[hs];rfl) (rfl)));let[vs,n,d,y,q1]:=g;revert q1;apply u2;intro l xs [rfl,z,q];let[r,A,B,hz]:=d.list z;let[u,rfl,rfl]:=GI y;refine call_reversed_list B.isList ?_
 have st:(c.heap.push<|revObj l _).IsRevIter _ l (xs.length-1-(0)):=⟨_,ae _ rfl,rfl,by
  show Data.fields #[.ref l,lj<|r.toArray.size-1]=_;rw[aw,<-A.length];simp⟩
 have D:Inv X _ j n { c with heap:=c.heap.push (revObj l<|r.toArray.size-1) }:=d.kept  λb o e=>ν _ e;refine Ar st ?_;exact⟨_,_,_,_,n,rfl,D,zdz l _ _,{bh _,st},λb E=>by
  have e:b=c.heap.objs.size:=by simpa using E
  subst e;exact d.fpOk (ο _) (d.hok.fresh<|ο _),q⟩
def P9(K:W.Frag):cF->Hp->VK->Prop:=λxs H Q=>∃ (p:Addr) (kvs:vC),xs=[.ref p]/\H p=some (.dK kvs)/\∀ l,H l=none->Q (.ref l) (upd H l<|.dK kvs)
def zd2:EG X (.type "dict") (P9 X.K):=by
 intro d s e H xs us Q I r h;revert h;apply u2;intro p kvs [rfl,a,q];let[u,rfl,rfl]:=GI r;exact Zv I (.inl a) λl g b c=>x2 (.ref l) _ {c,rfl,q l b}
def zd3{K:W.Frag}{p:Addr}{H:Hp}{Q:VK}:P9 K [.ref p] H Q=∃ kvs,H p=some (.dK kvs)/\∀ l,H l=none->Q (.ref l) (upd H l<|.dK kvs):=by simp[P9]
end
def zd4{K:W.Frag}{as:TA}{g:TG}{c:TS}{D:Ends}{b:St}{H:Hp}:C4 (TN K as) g c D b H=(as b H λvs d=>∃ a xs,vs=[.ref a]/\SqL K d a xs/\GL (TM K a xs.length) g c D b d):=rfl
def zd5{K:W.Frag}{b:St}{H:Hp}{a:Addr}{xs:cF}{g:TG}{j:TS}{D:Ends}(Pv:vB)(h0:Pv 0 b H)(n:∀ i b H,i<=xs.length->Pv i b H->SqL K H a xs)
  (hs:∀ i x b H,i<xs.length->xs[xs.length-1-i]? =some x->Pv i b H->g x b H λd o=>j { D with nx:=Pv<|i+1,ct:=Pv<|i+1,bk:=D.nx } d o) (hd:∀ b H,Pv xs.length b H->D.nx b H):GL (TM K a xs.length) g j D b H:=by
 refine{λi m b H=>i+m=xs.length/\Pv i b H,{xs.length,by lia,h0},λi m b H c=>?_};let[e,p]:=c
 have h1:=n i b H (by lia) p;by_cases l:i<xs.length;refine .inr {⟨l,xs,h1,rfl⟩,_,λr s q=>{m-1,by lia,by lia,q},λv s c=>?_};let[rfl,q1]:=c;exact hs i v b _ l (q1 _ h1) p
 have e:i=xs.length:=by lia
 subst e;exact .inl {ο _,hd _ _ p}
section
variable{K:W.Frag}{tt:TT}{A6:xE}{σ:St}{H:Hp}{Q:VK}
abbrev _root_.yD:=Nat->Bool
def zd6(p:yD)(o:n<=sizeLine)(r:∀ i,i<n->∀ c:Bool->Hp->Prop,c (p i) H->tt (some (.int (i:Int))::C0 A6 σ) H c)
  (hd:∀ q,H q=none->Q (.ref q) (upd H q<|.lst<|((ρ n).filter p).map λ(i:Nat)=>V.int i)):EI (FM 0 n) (AG 0) tt (EJ 0) 1 A6 σ H Q:=by
 refine{λi m a ys d=>m=n-i/\i<=n/\d=H/\(∃ g,a=g::C0 _ σ)/\ys=((ρ i).filter p).map λ(i:Nat)=>V.int i,{n,rfl,bh _,rfl,⟨_,rfl⟩,rfl},?_};intro i m a ys d [rfl,z,rfl,[g,rfl],rfl];by_cases b:i<n;refine .inr {b,?_,λx s y=>?_};rw[ε]
 have:=cz p<|ρ i;rw[cr]at this;exact cf this<|ω b o;let[e,y]:=y;subst e y;rw[rf];refine r i b _ ?_;cases j:p i with
 |true =>
  refine{λv l=>v=.int i/\l=s,λy l ⟨u,w⟩=>{_,by omega,rfl,b,w,⟨_,rfl⟩,?_},(by simp[EJ])};rw[u,bz];simp[j]
 |false =>
  refine{_,by omega,rfl,b,rfl,⟨_,rfl⟩,?_};rw[bz];simp[j]
 have e:i=n:=by lia
 subst e;exact .inl {ο _,hd}
def XZ(p:V->Bool)(D:xs.length<=sizeLine)(c:SqL K H b xs)(w:∀ x∈xs,∀ j:Bool->Hp->Prop,j (p x) H->tt (some x::C0 A6 σ) H j)
  (hd:∀ q,H q=none->Q (.ref q) (upd H q<|.lst<|xs.filter p)):EI (GG K b) (AG 0) tt (EJ 0) 1 A6 σ H Q:=by
 refine{λi m a ys l=>m=xs.length-i/\i<=xs.length/\l=H/\(∃ n,a=n::C0 _ σ)/\ys=(xs.take i).filter p,{xs.length,rfl,bh _,rfl,⟨_,rfl⟩,rfl},?_};intro i m a ys l [rfl,E,rfl,[n,rfl],rfl];by_cases d:i<xs.length;refine .inr {x2 xs (xs[i]) {c,by simp[d]},?_,λx z y=>?_}
 have:=cz p<|xs.take i;rw[df]at this
 lia
 let[rfl,y]:=y
 have o:=y xs c
 have r:xs.take (i+1)=xs.take i++[x]:=by
  let[h1,h2]:=ζ.mp o;rw[<-h2,lu]
 refine w x (η o) _ ?_;cases s:p x with
 |true =>
  refine{λv u=>v=x/\u=z,λy u ⟨A,B⟩=>{_,by omega,rfl,d,B,⟨_,rfl⟩,?_},(by simp[EJ])};rw[r,A];simp[s]
 |false =>
  refine{_,by omega,rfl,d,rfl,⟨_,rfl⟩,?_};rw[r];simp[s]
 have e:i=xs.length:=by lia
 subst e;refine .inl {{xs,c,ο _},λq g=>?_};rw[ca];exact hd q g
end
section
variable{K:W.Frag}{td ty tv te:TE}{D:Ends}{σ:St}{H:Hp}{Q:VK}{QB:uC}
def zd7:IF σ H Q=(∀ p,H p=none->Q (.ref p) (upd H p<|.dK [])):=rfl
def zd8:NK σ H Q=(∀ p,H p=none->Q (.ref p) (upd H p<|.dT [])):=rfl
def zd9:TK K te σ H Q=(te σ H λx b=>∃ (p:Addr) (ns:wE),x=.ref p/\SqL K b p (ns.map V.int)/\ns.length<64 /\
 ∀ (a:Addr) (o:HO) (D:Addr) (c:wE),b a=none->upd b a o D=none->c.Pairwise (· <·)->(∀ x,x∈c↔x∈ns)->c.length<=ns.length->Q (.ref D) (upd (upd b a o) D (.lst<|c.map V.int))):=rfl
variable{a b:Addr}{i j:Int}{z:Str}{kvs:vC}{kvt:vA}{v:V}
def dI(e:H a=some (.dK kvs)):DGet H a (.int i) (BE kvs<|.inl i):=DGet.k (k:=.inl i) e
def dS(e:H a=some (.dK kvs)):DGet H a (.str z) (BE kvs<|.inr z):=DGet.k (k:=.inr z) e
def rH(e:H a=some (.dT kvt))(c:H b=some (.tup [.int i,.int j])):DGet H a (.ref b) (BE kvt [.inl i,.inl j]):=DGet.t  e c
def dS'(e:H a=some (.dK kvs))(h:BE kvs (.inr z)=some v):DGet H a (.str z) (some v):=h ▸ dS e
def zeb(e:H a=some (.dT kvt))(c:H b=some (.tup [.int i,.int j]))(h:BE kvt [.inl i,.inl j]=some v):DGet H a (.ref b) (some v):=h ▸ rH e c
def pI(e:H a=some (.dK kvs))(c:kvs.length<100000):DPut H a (.int i) v (upd H a<|.dK<|CD kvs (.inl i) v):=DPut.k (k:=.inl i) e (ω c (by decide))
def pS(e:H a=some (.dK kvs))(c:kvs.length<100000):DPut H a (.str z) v (upd H a<|.dK<|CD kvs (.inr z) v):=DPut.k (k:=.inr z) e (ω c (by decide))
def pT2(e:H a=some (.dT kvt))(eb:H b=some (.tup [.int i,.int j]))(hl:kvt.length<100000):DPut H a (.ref b) v (upd H a<|.dT<|CD kvt [.inl i,.inl j] v):=DPut.t  e eb (ω hl (by decide))
end
section
variable{X:Cx}
abbrev QC(K:W.Frag):R2:=o6 K false
def rJ(a:X.A.units+64<cLine):CC X (dz .In) (QC X.K):=Yc
end
def SqT.same{K:W.Frag}{H b:Hp}{a:Addr}{xs:cF}(e:Same H b)(h:SqT K H a xs):SqT K b a xs:=by
 rcases h with(h|⟨o,h⟩)|h
 exact .inl<|.inl<|e _ _ h;exact .inl<|.inr {o,e _ _ h};exact .inr h
def Dat(K:W.Frag)(H:Hp)(n:Nat)(v:V)(d:yd):Prop:=Rep K H v d/\d.canLay0=true/\d.depth<=n
section
variable{K:W.Frag}{H:Hp}{n:Nat}{Q:VK}
def Dat.int(i:Int):Dat K H n (.int i) (.int i):={.int i,rfl,bh _}
def Dat.non:Dat K H n .non .none:={.non,rfl,bh _}
def rK:∀ {xs:cF} {a:List yd},Paired (Dat K H n) xs a->RepAll K H xs a/\Fu a=true/\PyData.depthAll a<=n:=λh=>by
 induction h with
 |nil=>exact{.nil,rfl,bh _}
 |cons h t b =>
  let[c,d,e]:=b;exact{.cons h.1 c,by simp[Fu,h.2.1,d],Nat.max_le.mpr ⟨h.2.2,e⟩}
def Dat.lst(h:SqL K H p xs)(hs:Paired (Dat K H n) xs a):Dat K H (n+1) (.ref p) (.list a):=by
 let[b,c,d]:=rK hs;exact{.lst h b,c,by simpa [Mf]using d}
def Dat.tup(h:SqT K H p xs)(hs:Paired (Dat K H n) xs a):Dat K H (n+1) (.ref p) (.tuple a):=by
 let[b,c,d]:=rK hs;exact{.tup h b,c,by simpa [Mf]using d}
def Dat.shp(h:Dat K H n v d)(a:n<=64):shp d:=by
 unfold L2.shp PySem.SeqAt.shaped;rw[h.2.1];simpa using ψ h.2.2 a
def zed(a:n<=64)(h1:Dat K H n (.ref p) d)(h2:Dat K H n (.ref q) d)(b:Q (.bl false) H):LA K (.ref p) (.ref q) H Q:=by
 refine y2 {h1.1,h2.1,h1.shp a,h1.shp a,?_};rw[zcs (h1.shp a)];exact b
end
section
variable{prog:bw}{w:World}{A:dr}{E:yB}{s:π}{d it:Addr}{od:Obj}{es:Array wg}{ep i:Nat}
def zee(hd:(d==f_)=false)(b:s.heap.get? d=some od)(e:od.ExactDict)(a:od.data=.dict es ep)
  (g:Q (.ref s.heap.objs.size) { s with heap:=s.heap.push { cls:=.type "dict_keyiterator",data:=.fields #[.ref d,.int 0 0,.int es.size 0,.int ep 0] } }) :
  wpAny (model prog w) A (zq<|.ref d) Q E s:=by
 have c:s.TypeIs (.ref d) _:=⟨od,b,e.1⟩
 refine xu c F.slot_dict_iter<|di F.slot_dict_iter c F.entry_dict_iter (δ<|δ<|zm c<|ξ ?_) (F.args_dict_iter_1 _)
 show wpAny _ _ (uq d>>=_) _ _ s;unfold uq;rw[if_neg (by rw[hd];exact ax)];refine δ<|ξ<|δ<|iy b a<|δ<|tm b a<|δ<|dk<|ξ {_,rfl,_,_,{_,ae _ rfl,rfl},F.slot_dict_keyiterator_next.lookup,?_};exact g
def zef(hit:s.heap.IsKeyIter it d i es.size ep)(b:s.heap.get? d=some od)(c:od.data=.dict es ep)(he:es[i]? =some e)
  (j:∀ h',h'.IsKeyIter it d (i+1) es.size ep->gk it s.heap h'->Q (some e.key) { s with heap:=h' }) :
  wpAny (model prog w) A (xz<|.ref it) Q E s:=by
 let[o,g,l,hd]:=id hit;refine δ (lm (dg  hit.typeIs F.slot_dict_keyiterator_next
  (di F.slot_dict_keyiterator_next hit.typeIs F.entry_dict_keyiterator_next (δ<|ξ<|δ<|δ ?_) (F.args_dict_keyiterator_next_1 _))))
 first|refine δ (jm hit.typeIs<|ξ ?_)|refine δ<|lw _<|ξ ?_
 refine δ<|pi g hd ?_
 show wpAny _ _ _ _ _ s;refine δ<|ξ<|δ<|iy b c ?_;rw[if_neg (by simp)];refine δ<|ξ<|δ<|tm b c ?_;rw[if_neg (by simp)];refine ξ ?_;simp only[cj,he];refine δ ?_
 first|refine δ (jm hit.typeIs<|ξ ?_)|refine δ<|lw _<|ξ ?_
 refine δ<|zn hit.typeIs ?_
 show wpAny _ _ (setField _ 1 _>>=_) _ _ s;refine δ (me g hd (by simp) ?_)
 have a:(s.heap.update it (vg (·.setIfInBounds 1 (lj<|i+1)))).IsKeyIter it d (i+1) es.size ep :=
  {_,cy _ g<|oa<|ig hd _,(Er ..).trans l,by rw[ig hd];simp[lj]}
 refine δ<|fm<|δ<|zn  a.typeIs ?_;exact ξ<|ξ {_,rfl,ξ<|j _ a<|e_ ..}
def zeg(g:A.handled=none)(hit:s.heap.IsKeyIter it d i es.size ep)(a:s.heap.get? d=some od)(b:od.data=.dict es ep)(c:es.size<=i)
  (j:∀ h',mq it s.heap h'->Q none { s with heap:=h' }):wpAny (model prog w) A (xz<|.ref it) Q E s:=by
 let[o,e,l,hd]:=id hit;refine δ (lm (dg  hit.typeIs F.slot_dict_keyiterator_next
  (di F.slot_dict_keyiterator_next hit.typeIs F.entry_dict_keyiterator_next (δ<|ξ<|δ<|δ ?_) (F.args_dict_keyiterator_next_1 _))))
 first|refine δ (jm hit.typeIs<|ξ ?_)|refine δ<|lw _<|ξ ?_
 refine δ<|pi e hd ?_
 show wpAny _ _ _ _ _ s;refine δ<|ξ<|δ<|iy a b ?_;rw[if_neg (by simp)];refine δ<|ξ<|δ<|tm a b ?_;rw[if_neg (by simp)];refine ξ ?_;simp only[cj,uj c];refine δ ?_
 first|refine δ (jm hit.typeIs<|ξ ?_)|refine δ<|lw _<|ξ ?_
 show wpAny _ _ (setField _ 0 _>>=_) _ _ s;refine δ (me e hd (by simp) ?_);refine δ ?_;refine δ (dk (δ  (z_  (by first|rfl|(rfl)) (dk ?_ (by size_fits)))) (by size_fits));refine δ<|Ce ?_;rw[g];refine δ<|ξ<|Im ?_;exact δ<|mh   {_,ae _ rfl,rfl} ww (ξ<|j _<|((e_ ..).extBut.push _).push _)
end
def X4:∀ {ys:zD} {us:uD},Vals (ys.map V.str) us->Mi us ys:=by
 intro ys us h
 induction ys generalizing us with
 |nil=>rw[SF h];exact .nil
 |cons y r a =>
  let[u,m,rfl,[tk,rfl],t]:=SE h;exact .cons _ _<|a t
section
variable{X:Cx}
def LC(K:W.Frag):V->cF->Hp->VK->Prop:=λx vs H Q=>∃ (z:Str) (p:Addr) (ys:zD),x=.str z/\vs=[.ref p]/\SqL K H p (ys.map V.str)/\z.length<=16/\(ys.map (·.length)).sum+ys.length<=1048576/\Q (.str<|Txt.join z ys) H
def zeh:MG X "str.join" (LC X.K):=by
 intro i s j H x vs v us Q I a b h;revert h;apply u3;intro z p ys [rfl,rfl,c,hz,d,q];let[u,rfl,rfl]:=b.one;let[t,rfl]:=a;let[l,r,e,g]:=I.list c;exact join_listW e.isList (X4 r) hz d λt' k=>x2 (.str _) H {I.tok k,⟨t',rfl⟩,q}
end
section
variable{K:W.Frag}{tt:TT}{te:TE}{A6:xE}{σ:St}{H:Hp}{Q:VK}
end
section
variable{X:Cx}{tg:Expr}
end
section
variable{K:W.Frag}{tt:TT}{A6:xE}{σ:St}{H:Hp}{Q:VK}
end
def X5(n i:Nat)(P:Prop):Prop:=∃ a,a<n-i/\a=n-(i+1)/\i+1<=n/\P
def cnx(h:i<n)(p:P):X5 n i P:={_,cq ‹_›,rfl,h,p}
def rM{K:W.Frag}{g:TG}{j:TT}{l:TE}{k:Nat}{n:xE}{o:St}{H:Hp}{Q:VK}{b:Addr}{xs:cF}(z:xs.length<=sizeLine)(Pv:Nat->St->cF->Hp->Prop)(h0:Pv 0 (K6 k n o) [] H)(v:∀ i a ys H,Pv i a ys H->SqL K H b xs/\ys.length<=i)
  (hs:∀ i x a ys H,i<xs.length->xs[i]? =some x->Pv i a ys H->g x a H λd w=>j d w λc r=>if c=true then ∃ N:VK,(∀ y s,N y s->X5 xs.length i (Pv (i+1) d (ys++[y]) s))/\l d r N else X5 xs.length i (Pv (i+1) d ys r))
  (hd:∀ a ys H,Pv xs.length a ys H->∀ p,H p=none->Q (.ref p) (upd H p<|.lst ys)):EI (GG K b) g j l k n o H Q:=by
 refine{λi m a ys H=>m=xs.length-i/\i<=xs.length/\Pv i a ys H,{xs.length,rfl,bh _,h0},?_};intro i m a ys H [rfl,A,p];let[q,B]:=v i _ ys H p;by_cases u:i<xs.length;refine .inr {{xs,xs[i],q,by simp[u]},by lia,λx D y=>?_};let[rfl,y]:=y;exact hs i x _ ys _ u (y xs q) p
 have e:i=xs.length:=by lia
 subst e;exact .inl {{xs,q,ο _},hd _ ys H p}
section
variable{P:bw}{w:World}{A:dr}{E:yB}{s:π}
end
section
variable{X:Cx}
theorem rN:∀ {kvs:vC} {vs:List (AM × Value)},KV kvs vs->vs.map (·.1)=kvs.map (·.1)
 |_,_,.nil=>rfl
 |_,_,.cons h t=>by rw[ci,ci,rN t,h.1]
end
section
variable{P:bw}{w:World}{A:dr}{E:yB}{s:π}
def zej{e it l:Addr}{i:Nat}{a:Array Value}{x old:Value}{Q:Option Value->π->Prop}(he:IsEnum s.heap e it i old)(c:s.heap.IsListIter it l i)(d:s.heap.IsList l a)(ex:a[i]? =some x)(ne:e≠it)
  (q:∀ h',IsEnumOut h' e it (i+1) x s.heap.objs.size->h'.IsListIter it l (i+1)->h'.get? s.heap.objs.size=some { cls:=jn "tuple",data:=Data.seq #[uv i s.toks,x] }->(∀ b o,b≠e->b≠it->s.heap.get? b=some o->h'.get? b=some o) →
   Q (some<|.ref s.heap.objs.size) { s with heap:=h',toks:=s.toks+1 }):wpAny (model P w) A (xz<|.ref e) Q E s:=by
 have ty:s.TypeIs (.ref e) _:=⟨_,he,rfl⟩
 exact δ (lm (dg  ty F.slot_enumerate_next (di F.slot_enumerate_next ty F.entry_enumerate_next
  (enumerate_next_item he c d ex ne λh' g j n z p=>ξ<|q h' g j n p) (F.args_enumerate_next_1 _))))
def zek{e it l:Addr}{i:Nat}{a:Array Value}{old:Value}{Q:Fin->π->Prop}(b:A.handled=none)(he:IsEnum s.heap e it i old)(c:s.heap.IsListIter it l i)(d:s.heap.IsList l a)(ex:a[i]? =none)
  (q:∀ h' x,mq it s.heap h'->(∃ o,h'.get? x=some o/\o.cls=.type "StopIteration")->E (.ref x) { s with heap:=h' }):wpAny (model P w) A (vh.«enumerate.__next__» {[.ref e],[]}) Q E s:=by
 show wpAny _ A (field _ 2>>=_) _ _ s;exact δ<|jk he rfl  rfl (δ<|zcu (k:=true) b c d ex q)
def zel{e it l:Addr}{i:Nat}{a:Array Value}{old:Value}{Q:Option Value->π->Prop}(b:A.handled=none)(he:IsEnum s.heap e it i old)(c:s.heap.IsListIter it l i)(d:s.heap.IsList l a)(ex:a[i]? =none)
  (q:∀ h',mq it s.heap h'->Q none { s with heap:=h' }):wpAny (model P w) A (xz<|.ref e) Q E s:=by
 have ty:s.TypeIs (.ref e) _:=⟨_,he,rfl⟩
 exact δ<|lm<|dg  ty F.slot_enumerate_next (di F.slot_enumerate_next ty F.entry_enumerate_next (zek b he c d ex λh' x g ⟨o,j,n⟩=>(δ<|mh   ⟨o,j,n⟩ ww (ξ<|q _ g))) (F.args_enumerate_next_1 _))
end
def LD(K:W.Frag)(a:Addr):It :=
  ⟨λi H=>∃ xs x,SqL K H a xs/\xs[i]? =some x,
   λi H v b=>∃ t,H t=none/\v=.ref t/\∃ x,b=upd H t (.tup [.int (i:Int),x])/\∀ xs,SqL K H a xs->xs[i]? =some x,
   λi H=>∃ xs,SqL K H a xs/\xs.length<=i⟩
def EnSt(e it l:Addr)(i:Nat)(h:Heap):Prop:=(∃ old,IsEnum h e it i old)/\h.IsListIter it l i
def EnSt.lt(q:EnSt e it l i h):∀ b∈[e,it],b<h.objs.size:=by
 let[[old,h1],o,h2,z]:=q;intro b a;simp only[aj,bt,or_false]at a;let rfl||rfl:=a
 exact ak h1;exact ak h2
def zem{P:bw}{w:World}{K:W.Frag}{c:xD}{O:Nat}{pos:Pos}{e it l:Addr}(ne:e≠it) :
  JZ P w K (.Tuple c O pos) (LD K l) [e,it] e (λi h=>EnSt e it l i h) where
 mem:=by simp
 obj:=λi h st b a=>by
  let[[old,h1],h2]:=st;let[o4,Q,T]:=ItK.ob (k:=true) h2;simp only[aj,bt,or_false]at a;let rfl||rfl:=a
  exact{_,h1,λv q=>by cases q};exact{_,Q,λv q=>by rw[T]at q;cases q}
 keep:=λi h h' {⟨old,h1⟩,h2} q=>{{_,q e (by simp) _ h1},ItK.up (k:=true) h2 λo x=>q it (by simp) o x}
 item:=by
  intro X g j n L i M s N H E I hf st U;subst g j n;revert U;apply u2;intro xs x [d,ex];let[Y,p,r]:=I.seqK (k:=true) d
  have lt:=EnSt.lt st;let[[old,h1],h2]:=st;let[u,hu,ru]:=p.get ex
  have y:=λb a=>a_<|lt b a;refine zej h1 h2 r  (by simpa using hu) ne λh' g1 g2 g3 A=>{_,rfl,(wpAny_letOwnedTupleGo_enum g1 λB z2 sb=>?_)}
  have I2:Inv X M N (upd H s.heap.objs.size<|.tup [.int i,x]) { s with heap:=B,toks:=s.toks+1 }:=by
   refine Inv.turnedS (s:={ s with heap:=s.heap.push _ })   (I.tnew   (.cons (⟨s.toks,rfl⟩) (.cons ru .nil)) (by show 2<=sizeLine;decide)) (λb o a D=>?_) λb a=>(hf b a).upd (y b a);simp only[aj,bt,or_false,not_or]at a;let[J,e2]||J:=Heap.get?_push_cases D
   subst J e2;exact sb.extBut _ _ ((y e (by simp)).symm) g3;exact sb.extBut _ _ a.1<|A _ _ a.1 a.2 J
  exact⟨.ref _,_,I2,rfl,{_,I.fresh,rfl,x,rfl,λys' q=>by rw[I.seqK_inj (k:=true) q d];exact ex},
   {⟨_,z2⟩,ItK.up (k:=true) g2 λo x=>sb.extBut _ _ ne.symm x},λb a=>((hf b a).upd (y b a)).1⟩
 done:=by
  intro X g j n L i M s N H E I hf [[old,h1],h2] [xs,d,en];subst g j n;let[Y,p,r]:=I.seqK (k:=true) d;refine zel (I.ok.hd L) h1 h2 r (by simp;exact p.length ▸ en) λh' A=>{rfl,I.turnedS   (λb o a D=>?_) hf}
  simp only[aj,bt,or_false,not_or]at a;exact A _ _ a.2 D
 self:=λz z z z z st h=>by
  let[[old,h1],z]:=st;exact F_ h1 h
section
variable{X:Cx}
def TQ(K:W.Frag)(c:TA):TI:=λd H R=>c d H λvs b=>∃ a:Addr,vs=[.ref a]/\(∃ xs,SqL K b a xs)/\R (LD K a) b
def zen{a:Expr}{g:TA}{p pos r:Pos}{c:xD}{v:Nat}(w:Gl X "enumerate")(x:X.mg "enumerate"=none)(y:PA X [a] g)(hs:az [a] X.env=[(false,eval a X.env)]:=by rfl) :
  PI X (.Tuple c v r) (.Call (.Name "enumerate" p) [a] [] pos) (TQ X.K g):=by
 refine λM s i H R I h=>Call_ (OY I w x boot_enumerate (jt (AO (y _ _ s i H _ I h) λus z e=>?_) (by rw[hs];rfl) (rfl)));let[vs,j,d,A,[l,rfl,[xs,B],q]]:=e;let[N,O,D]:=d.seqK (k:=true) B;let[u,rfl,rfl]:=GI A;refine call_enumerate_list D λh' n E sz J=>F_ n ?_
 have L:Inv X _ i j { z with heap:=h' }:=d.kept  J;refine x5 _ _ _ _ j {rfl,L,zem<|gr<|fe _,{⟨_,n⟩,E},λb o=>d.fpOk ?_<|d.hok.fresh ?_,q}
 all_goals
  simp only[aj,bt,or_false]at o;let rfl||rfl:=o<;>omega
end
def X6{K:W.Frag}{b:St}{H:Hp}{a:Addr}{xs:cF}{g:TG}{j:TS}{D:Ends}(Pv:vB)(h0:Pv 0 b H)(l:∀ i b H,i<=xs.length->Pv i b H->SqL K H a xs)
  (hs:∀ i x b H t,xs[i]? =some x->Pv i b H->H t=none->g (.ref t) b (upd H t<|.tup [.int (i:Int),x]) λc n=>j { D with nx:=Pv<|i+1,ct:=Pv<|i+1,bk:=D.nx } c n) (hd:∀ b H,Pv xs.length b H->D.nx b H):GL (LD K a) g j D b H:=by
 refine{λi m b H=>i+m=xs.length/\Pv i b H,{xs.length,by lia,h0},λi m b H d=>?_};let[e,p]:=d
 have h1:=l i b H (by lia) p;by_cases o:i<xs.length;refine .inr {x2 xs _ {h1,θ o},_,λr s q=>{m-1,by lia,by lia,q},λv s ⟨t,u,e,x,w,q1⟩=>?_};subst e w;exact hs i x b H t (q1 _ h1) p u
 have e:i=xs.length:=by lia
 subst e;exact .inl {{xs,h1,ο _},hd _ _ p}
def QD(K:W.Frag):R2:=λx y H Q=>QC K x y H Q\/∃ t a p xs,x=.ref t/\SqT K H t a/\y=.ref p/\SqT K H p xs/\(∀ z∈xs,z=.non\/∃ i,z=.int i)/\Q (.bl false) H
def zeo:∀ {xs:cF} {us:uD} {u:Value},Vals xs us->u∈us->∃ x∈xs,RelV x u:=λh m=>by
 induction h with
 |nil=>cases m
 |cons r t a =>
  let rfl||m:=aj.mp m
  exact{_,χ ..,r};let[x,b,e]:=a m;exact{x,τ _ b,e}
def zep(l:X.A.units+64<cLine):CC X (dz .In) (QD X.K):=by
 intro M s n H x y v u Q I c d h;let h||[t,N,p,xs,rfl,o,rfl,w,B,q]:=h
 exact rJ l _ s n H x y v u Q I c d h;subst c;let[D,r,E,hz]:=I.tuple w;subst d;let[J,O,e,j]:=I.tuple o
 have a:X.A.in1.units<cLine:=by
  have:X.A.in1.units=X.A.units+1:=rfl
  lia
 refine He (λj=>false) E (λz b=>?_) (x2 (.bl _) H {I,rfl,?_});let[L,h0,g]:=zeo r (by simpa using b);let rfl||[i,rfl]:=B L h0
 subst g;exact SeqAt.EqAt.none_tuple e a;let[tk,rfl]:=g;exact SeqAt.EqAt.int_tuple _ _ e a
 have:D.toArray.any (λj=>false)=false:=by
  simp
 rw[this];exact q
section
variable{X:Cx}
def X7:∀ {us:uD} {ys:zD},Mi us ys->Vals (ys.map V.str) us:=λh=>by
 induction h with
 |nil=>exact .nil
 |cons z t h a=>exact .cons ⟨_,rfl⟩ a
def X8(K:W.Frag):cF->Hp->VK->Prop:=λxs H Q=>∃ (p:Addr) (ys:zD),xs=[.ref p]/\SqL K H p (ys.map V.str)/\ys.length<64 /\
  ∀ (D:Addr) (a:zD),H D=none->a.Perm ys->yy a=true->Q (.ref D) (upd H D<|.lst<|a.map V.str)
def zeq(y:X.calm=true):EG X (.builtin "sorted") (X8 X.K):=by
 intro z s A H xs us Q I r h;revert h;apply u2;intro p ys [rfl,l,n,q];let[a,d,v,hz]:=I.list l;let[u,rfl,rfl]:=GI r
 have B:a.length=ys.length:=by simpa using d.length.symm
 refine sorted_strs v.isList (X4 d) (by omega) λout i w pk x=>?_;let[c,g]:=sortedAll_at s.heap a out
 have j:s.heap.objs.size<=s.heap.objs.size+1:=jv _;refine x2 (.ref _) _ {I.laid  (λb o e=>sortedAll_old e) j ?_,rfl,q _ i (I.hok.fresh j) pk x}
 have D:i.length<64:=by rw[pk.length_eq];exact n
 exact{by rw[ε,d_];omega,x2 out.toList c {X7 w,g}}
theorem X9:∀ {l:zD},yy l=true->l.Pairwise λa b=>¬ b.cps.toList<a.cps.toList
 | [],_=>.nil
 | [x],_=>List.pairwise_singleton _ _
 |x::y::r,h=>by
  have h':(!Spec.ltCps y.cps.toList x.cps.toList&&risingS y r)=true:=h;rw[bx,xw,ltCps_eq,decide_eq_false_iff_not]at h'
  have c:=X9 (l:=y::r) h'.2;refine jh.mpr {λz hz=>?_,c};let e||hz:=aj.mp hz
  ·rw[e];exact h'.1
  ·exact λd=>absurd d<|xx.mpr<|List.le_trans (xx.mp h'.1) (xx.mp<|(jh.mp c).1 z hz)
def zer(h1:yy l=true)(h2:yy m=true)(p:l.Perm m):l=m :=
 List.Perm.eq_of_pairwise (λa b z z h h'=>congrArg Str.mk<|Array.toList_inj.mp<|List.le_antisymm (xx.mp h) (xx.mp h')) (X9 h1) (X9 h2) p
def rO:V->cF->Hp->VK->Prop:=λx vs H Q=>∃ z y:Str,x=.str z/\vs=[.str y]/\Q (.int<|Txt.find z y) H
def zes:MG X "str.find" rO:=by
 intro d s e H x vs v us Q I a b h;revert h;apply u2;intro z y [rfl,rfl,q];let[t,rfl]:=a;let[u,rfl,c]:=b.one;let[g,rfl]:=c;exact PySem.SC.find<|x2 (.int _) H {I.tok _,⟨_,rfl⟩,q}
end
section
variable{P:bw}{w:World}{A:dr}{E:yB}{s:π}
def zet(hh:A.handled=none)(KV:PySem.W.KdlKeysView s.heap v a)(D:s.heap.DictOf (DL P w) a kvs)(hn:kvs.length<=sizeLine)(hk:kvs.map (·.1)=ks.map λi=>(vc i:AM))
  (q:∀ h' tk vs,(∀ b o,s.heap.get? b=some o->h'.get? b=some o)->s.heap.objs.size<=h'.objs.size->Mi vs ks->R vs { s with heap:=h',toks:=tk }):wpAny (model P w) A (collect<|.ref v) R E s:=by
 let[od,es,p,ho,hex,r,h1,h2,h3]:=D
 have M:a<s.heap.objs.size:=ak ho;let[ov,O,HC,Q]:=KV
 have B:v<s.heap.objs.size:=ak O
 have DA:∀ h':Heap,(∀ b o,s.heap.get? b=some o->h'.get? b=some o)->h'.DictAt (DL P w) a kvs p:=λh' k=>{od,es,k _ _ ho,hex,r,h1,h2,h3}
 unfold collect;refine δ<|Af<|jp Ai ?_;rw[As PySem.F.plain_proto_collect _]
 show wpAny _ A.in1 (newList []>>=λl=>again<|.builtin "list.__iadd__" {[l,.ref v],[]}) _ _ s;refine δ<|dk ?_;refine ξ {sq PySem.F.plain_list_iadd _,jp Ho ?_};rw[As PySem.F.plain_list_iadd _]
 show wpAny _ A.in1 (og (.ref s.heap.objs.size) (.ref v) (.ref s.heap.objs.size)) _ _ _;generalize L:s.heap.objs.size=N at M B ⊢
 have U:(s.heap.push { cls:=.type "list",data:=.seq ([]:uD).toArray }).get? N=some { cls:=.type "list",data:=.seq #[] }:=L ▸ ae _ rfl
 have d:∀ b o,s.heap.get? b=some o->(s.heap.push { cls:=.type "list",data:=.seq ([]:uD).toArray }).get? b=some o:=λb o e=>ν _ e
 have big:(s.heap.push { cls:=.type "list",data:=.seq ([]:uD).toArray }).objs.size=N+1:=by rw[pq,L]
 revert U d big;generalize s.heap.push { cls:=.type "list",data:=.seq ([]:uD).toArray }=h0;intro U d big
 have T1:∀ h':Heap,(∀ b o,h0.get? b=some o->h'.get? b=some o)->∀ tk,({ s with heap:=h',toks:=tk }:π).TypeIs (.ref v) "dict_keys":=λh' k tk=>{ov,k _ _<|d _ _ O,HC}
 unfold og;refine δ<|v_ (T:="dict_keys") (T1 h0 (λj j e=>e) s.toks) ?_
 have ne:lq (.ref N) (.ref v)=false:=by
  simp only[lq,beq_eq_false_iff_ne];exact gr B
 have n1:(jn "dict_keys" == jn "list")=false:=by decide
 have n2:(jn "dict_keys" == jn "tuple")=false:=by decide
 simp only[ne,n1,n2,n_,kf,if_false];refine δ<|PySem.W.kdl_pyIter_keys (knd:=DL P w) (s:={ s with heap:=h0 }) {ov,d _ _ O,HC,Q} (DA h0 d) ?_
 have hI:h0.objs.size≠a:=gr (by rw[big];exact fz M)
 have k1:∀ b o,h0.get? b=some o->(h0.push { cls:=.type "dict_keyiterator",data:=.fields #[.ref a,.int 0 0,.int kvs.length 0,.int p 0] }).get? b=some o:=λb o e=>ν _ e
 have Y:(h0.push { cls:=.type "dict_keyiterator",data:=.fields #[.ref a,.int 0 0,.int kvs.length 0,.int p 0] }).IsKeyIter h0.objs.size a 0 kvs.length p:={_,ae _ rfl,rfl,rfl}
 revert k1 Y
 show _->_->wpAny _ _ _ _ _ { s with heap:=h0.push { cls:=.type "dict_keyiterator",data:=.fields #[.ref a,.int 0 0,.int kvs.length 0,.int p 0] } };generalize h0.push { cls:=.type "dict_keyiterator",data:=.fields #[.ref a,.int 0 0,.int kvs.length 0,.int p 0] }=h1;intro k1 Y
 have W:=Walks.dictKeys (prog:=P) (w:=w) (A:=A.in1) (knd:=DL P w) (by simpa using hh) h0.objs.size a (fi hI) kvs p;refine δ<|fm<|PySem.W.kdl_hint_keys (T1 h1 k1 s.toks) ?_;rw[if_pos (by decide)];refine δ<|pe ?_;refine δ ?_
 show wpAny _ _ (updateSeq N (·.push .none)>>=λj=>updateSeq N (·.pop)) _ _ _
 have g1:=k1 _ _ U;refine δ<|tj (s:={ s with heap:=h1 }) g1 rfl ?_
 have g2:=cy (gb (·.push ip)) g1 rfl;refine tj (hz:=by seq_fits) g2 rfl ?_
 have g3:=cy (gb (·.pop)) g2 rfl
 have H:∀ b o,b≠N->h1.get? b=some o->((h1.update N (gb (·.push ip))).update N (gb (·.pop))).get? b=some o:=λb o g e =>
  (cm _ _<|fi g).trans ((cm _ _<|fi g).trans e)
 have I:N∉[h0.objs.size,a]:=λz=>by
  simp only[aj,bt,or_false]at z;let z||z:=z
  ·rw[big]at z;exact absurd z<|a_<|fe _
  ·exact gr M z
 refine ξ {sq PySem.F.plain_extend_loop _,?_}
 have st0:=W.frame 0 h1 ((h1.update N (gb (·.push ip))).update N (gb (·.pop))) {Y,DA _ λb o e=>k1 _ _<|d _ _ e} λb g o e=>H b o (λz=>I<|z ▸ g) e;refine Ao W.toS hn N I (.ref N) kvs.length 0 { s with heap:=(h1.update N (gb (·.push ip))).update N (gb (·.pop)) } #[] _ rfl (bh _) st0 g3 (Mr _) λs' BX c m g4 n=>?_
 show wpAny _ A (load N>>=_) _ _ _;refine δ<|Jr g4 ?_;refine ξ ?_
 show R BX.toList s';let[h3',gn3,dr3,tk3,os3]:=s'
 have a1:gn3=s.gens:=m.gens
 have a2:dr3=s.drawn:=m.drawn
 have a3:os3=s.os:=m.os;subst a1;subst a2;subst a3;refine q _ _ _ (λb o e=>?_) (by rw[L];exact js<|ak g4) ?_
 ·have g:b<N:=L ▸ ak e;refine m.heap b o (λz=>?_) (H b o (a_ g) (k1 _ _<|d _ _ e));simp only[aj,bt,or_false]at z;let z||z:=z
  ·exact a_ g z
  ·rw[big]at z;exact a_ (fz g) z
 ·refine X4 (zcz (by have h5:=congrArg g_ hk;have h6:=n.1;simp at h5;simp;omega) λi y u ey eu=>?_);rw[h_]at eu;let[k,x,e1,e2]:=n.2 i u eu
  have J:(kvs.map (·.1))[i]? =some k:=by rw[υ,e1];rfl
  rw[hk,υ]at J;rw[υ]at ey;cases ez:ks[i]? with
  |none=>rw[ez]at J;cases J
  |some z =>
   rw[ez]at J ey;cases J;cases ey;rcases IC (show KW (vc z) u=true from e2)with⟨_,_,e5,_⟩|⟨x',t,e5,e6⟩
   ·cases e5
   ·cases e5;exact⟨t,e6⟩
def zeu(H:A.handled=none)(KV:W.KdlKeysView s.heap v a)(D:s.heap.DictOf (DL P w) a kvs)(u:kvs.map (·.1)=j.map λi=>(vc i:AM))(I:j.length<64)
  (q:∀ D h' tk c out l,(∀ b o,s.heap.get? b=some o->h'.get? b=some o)->s.heap.objs.size<=D->h'.get? D=some (Kn "list" out c)->Mi out.toList l->l.Perm j->yy l=true->Q (.ref D) { s with heap:=h',toks:=tk }) :
  wpAny (model P w) A (call (.builtin "sorted") [.ref v]) Q E s:=by
 refine xf kind_sorted plain_sorted entry_sorted (args_sorted1 _) ?_;unfold vh.«sorted»;refine δ (m:=checkCount "sorted" 1 1 _) (ξ ?_)
 have T:kvs.length=j.length:=by have:=congrArg g_ u;simpa using this
 refine δ (zet (A:=A.in1) (by simpa using H) KV D (by rw[d_];omega) u λh1 tk vs k1 size_le d=>?_)
 have J:vs.length<64:=by rw[StrsAre.length d];exact I
 refine δ (wpAny_newList ?_ (by rw[d_];omega))
 have g:(h1.push<|Kn "list" vs.toArray 0).get? h1.objs.size=some (Kn "list" vs.toArray 0):=ae _ rfl
 show wpAny _ _ _ _ _ { s with heap:=h1.push<|Kn "list" vs.toArray 0,toks:=tk };refine δ (fm (di slot_list_sort ⟨_,g,rfl⟩ entry_list_sort (list_sort_treeK strKind_oneLt g (StrsAre.keysOf d) (λy z rest e=>keyKind_strs (by rw[<-e];exact d)) J λp L hs=>{_,rfl,?_}) (args_list_sort _)));let[r,M,N,O]:=sorted_out_str d L hs;let[c,gc]:=sortedHeap_at (n:=0) (out:=Array.map (λx=>x.snd) (arrOf p)) g;refine ξ {_,rfl,q _ _ tk c _ r (λb o e=>?_) size_le gc M N O}
 have B:=ak<|k1 _ _ e;rw[sortedHeap_old (a_ B) (by rw[pq];exact fz B)];exact ν _<|k1 _ _ e
end
section
variable{X:Cx}
def NQ(v a:Addr):Heap->Prop:=λh=>W.KdlKeysView h v a
def rP:V->cF->Hp->VK->Prop:=λx vs H Q=>∃ (a:Addr) (kvs:vC),x=.ref a/\vs=[]/\H a=some (.dK kvs)/\∀ v,H v=none->Q (.ref v) (upd H v<|.ext<|NQ v a)
def zev:MG X "dict.keys" rP:=by
 intro A s B H x vs v us Q I j l h;let[a,kvs,rfl,rfl,n,q]:=h;obtain rfl:v=fh a:=j;cases l;let[z,hs,ws,rel,D]:=PJ I.hok n;let[d,p,r,i,hex,c,h1,h2,h3]:=D;refine ui PySem.F.slot_dict_keys ⟨d,i,hex.1⟩ PySem.F.entry_dict_keys (PySem.F.args_dict_keys_1 _) (W.kdl_meets_keys (DL X.prog X.w) a hs) {⟨ws,d,p,r,i,hex,c,h1,h2,h3⟩,?_}
 have g:(s.heap.push { cls:=.type "dict_keys",data:=.fields #[.ref a] }).get? s.heap.objs.size=some { cls:=.type "dict_keys",data:=.fields #[.ref a] }:=ae _ rfl;refine{.ref s.heap.objs.size,_,I.laid (t':=s.toks) (o:=.ext<|NQ s.heap.objs.size a) (λb o e=>ν _ e) (ο _) ?_,rfl,q _<|I.hok.fresh<|ο _};exact{⟨_,g,rfl,rfl⟩,⟨_,g⟩,λh h' ⟨o,u,w,y⟩ k=>{o,k _ u,w,y}}
def rQ(K:W.Frag):cF->Hp->VK->Prop:=λxs H Q=>∃ (v a:Addr) (kvs:vC) (b:zD),xs=[.ref v]/\H v=some (.ext<|NQ v a)/\H a=some (.dK kvs)/\kvs.map (·.1)=b.map (λi=>(vc i:AM))/\b.length<64 /\
  ∀ (D:Addr) (c:zD),H D=none->c.Perm b->yy c=true->Q (.ref D) (upd H D<|.lst<|c.map V.str)
def zew(i:X.calm=true):EG X (.builtin "sorted") (rQ X.K):=by
 intro x s y H xs us Q I r h;let[v,a,kvs,A,rfl,j,l,n,b,q]:=h;let[u,rfl,o]:=GI r;cases o;let[z,hs,vs,rel,D]:=PJ I.hok l
 have KV:NQ v a s.heap:=(show ObjOk X.prog X.w H s.heap v (.ext<|NQ v a)from I.hok v _ j).1;refine zeu (I.ok.hd i) KV D (by rw[rN rel];exact n) b λD h' tk c out d k e g p pk w=>?_
 have B:d.length<64:=by rw[pk.length_eq];exact b
 refine{.ref D,_,I.laid (t':=tk) k e ?_,rfl,q D d (I.hok.fresh e) pk w};exact{by rw[ε,d_];omega,out.toList,c,X7 p,g}
end
section
variable{X:Cx}{AA:yA}{σ:St}{H:Hp}{s:π}
def Inv.thaw(I:Inv X AA σ H s)(e:H d=some (.frz o<|.dK kvs))(l:∀ o u,X.H₀ d≠some (.frz o u)):Inv X AA σ (upd H d<|.dK kvs) s:=by
 have up:∀ {b:Addr},H b=none->upd H d (.dK kvs) b=none:=λg=>by rw[AI ((λg z=>by rw[z,e]at g;cases g) g)];exact g
 refine{I.ok,I.os,I.bare,{I.base.keep,I.base.slot,λb j n q r=>up<|I.base.free b j n q r,I.base.there,λb xs a=>?_,λb j u a=>?_,λb ps a=>?_},I.loc,I.cell,up I.free,λx c v=>up<|I.freeC x c v,λp w=>?_,λb u a=>?_,I.len}
 have:=I.base.tups b xs a;rw[AI λz=>by rw[z,e]at this;cases this];exact this;rw[AI (λz=>l j u (by rw[<-z];exact a))];exact(I.base.frzs b j u a);let[more,this]:=I.base.tbls b ps a;exact{_,by rw[AI λz=>by rw[z,e]at this;cases this];exact this};let[h1,h2,h3]:=I.pin p w;exact{h1,up h2,h3}
 have st:∀ {b:Addr} {u:HO},ObjOk _ _ H _ b u->ObjOk X.prog X.w (upd H d<|.dK kvs) s.heap b u:=λh=>h.stay (λy y y e=>e) (λA i=>by rw[AI (BI i e (by intro z;cases z))];exact i) λA xs i=>by rw[AI (BI i e (by intro z;cases z))];exact i
 by_cases g:b=d;subst g;rw[AE]at a;obtain rfl:=ι a;exact st (I.hok b _ e).2;rw[AI g]at a;exact st<|I.hok b u a
def TR(d:Addr)(o:Obj)(kvs:vC):It :=
 {λi H=>H d=some (.frz o<|.dK kvs)/\i<kvs.length,λi H x a=>a=H/\∃ k v,x=kV k/\kvs[i]? =some (k,v),λi H=>H d=some (.frz o<|.dK kvs)/\kvs.length<=i}
theorem rR:∀ {a:List wg} {vs:List (AM × Value)} {i:Nat} {x:AM × Value},Pairs (DL P w) a vs->vs[i]? =some x->∃ e,a[i]? =some e/\KW x.1 e.key=true
 |_,_,0,_,.cons h _ _,e=>by obtain rfl:=ι e;exact⟨_,rfl,h⟩
 |_,_,i+1,_,.cons _ _ t,e=>rR (i:=i) t e
theorem rS:∀ {a:List wg} {vs:List (AM × Value)},Pairs (DL P w) a vs->a.length=vs.length
 |_,_,.nil=>rfl
 |_,_,.cons _ _ t=>by rw[b_,b_,rS t]
def zex{P:bw}{w:World}{K:W.Frag}{tg:Expr}(d it:Addr){o:Obj}{kvs:vC}{n:Array wg}{U:Nat}(a:o.data=.dict n U):JZ P w K tg (TR d o kvs) [it] it (λi h=>h.IsKeyIter it d i n.size U) where
 mem:=by simp
 obj:=λi h st b g=>by
  have e:b=it:=by simpa using g
  subst e;let[o,e,c,d]:=st;exact{o,e,λv z=>by rw[d]at z;cases z}
 keep:=λi h h' st k=>st.at λo e=>k it (by simp) o e
 item:=by
  intro X hP hw hK Y i AA s σ H E I hf st [p,hi];let[h1,z,y,vs,r,o',q,A,g1,g2,g3,g4,B,g6]:=(I.hok d _ p)
  rw[h1]at g1;cases g1;rw[a]at g3;cases g3;let[D,f1,f2,J,L,M]:=hf it (by simp)
  have hl:=r.length.symm
  have N:i<vs.length:=by lia
  let[x,ex,O,hx2]:=JB r<|θ _;let[en,ee,hk]:=rR B<|θ N;refine zef st h1 a (by rw[<-h_];exact ee) λh' l sb=>?_;let[o2,e2,c2,d2]:=id l
  have I1:Inv X _ σ H { s with heap:=h' }:=I.turned  (λb o g e=>(sb.2 b g).trans e) D f1 J L M
  have rk:RelV (kV x.1) en.key:=by
   rw[O];let[j,t,Q,T]||[j,t,Q,T]:=IC hk
   rw[Q,T];exact⟨t,rfl⟩;rw[Q,T];exact⟨t,rfl⟩
  exact{_,rfl,ND  e2 c2 d2 (by decide) (x2 _ H {I1,rk,{rfl,x2 _ _ ⟨rfl,ex⟩},l,λb g=>(hf b g).1})}
 done:=by
  intro X hP hw hK Y i AA s σ H E I hf st [p,hi];let[h1,z,y,vs,r,o',q,A,g1,g2,g3,g4,B,g6]:=(I.hok d _ p)
  rw[h1]at g1;cases g1;rw[a]at g3;cases g3;let[D,f1,f2,J,L,M]:=hf it (by simp)
  have hes:n.size=kvs.length:=by rw[<-da,rS B];exact r.length.symm
  exact zeg (I.ok.hd Y) st h1 a (by lia) λh' eb=>{rfl,I.turned  (λb o g e=>eb b o g e) D f1 J L M}
 self:=λu u u u u st h=>wpAny_pyIter_keyiter st h
variable{tg iter EW:Expr}{EX:xD}{scope:Scope}{pos:Pos}{td:TE}{g:TG}{tt:TT}{te:TE}{tn cn:zD}{A6:xE}
end
def FnScope.go(h1:a.kind=.function:=by exact rfl)(h2:a.isCoroutine=false:=by exact rfl)(h3:a.isGenerator=false:=by exact rfl)(h4:N.Nodup:=by decide +kernel)(h5:N.take P.length=P:=by exact rfl)(h6:∀ x∈P,a.names.lookup x=some .local\/a.names.lookup x=some .cell:=by decide +kernel)(h7:∀ y∈a.names,y.2≠.free:=by decide +kernel):FnScope N P a:=⟨h1,h2,h3,h4,h5,h6,h7⟩
def Room.m(r:Room k A)(h:j<=k:=by decide):Room j A:=r.mono h
abbrev FP(P:bw)(w:World)(K:W.Frag)(mg:uB)(base:Heap)(k:Nat)(f:Addr)(fd:gx)(ps:zD)(sp:Sp):Prop:=FnOk P w K mg base (EH P w) k f fd ps sp
def Fun.okF{P:bw}{w:World}{K:W.Frag}{mg:uB}{base:Heap}{x a:Str}{st:Stmt}{f:Addr}{fd:gx}{N ps:zD}{k:Nat}{sp:Sp}(F:Fun K x a st f fd)(c:(St->XK)->TS)(S:FnScope N ps (AU st))(len:∀ {vs H Q E},sp vs H Q E->vs.length=ps.length)
  (ok:∀ {vs H Q E},sp vs H Q E->c (λ_=>E) { nx:=λz d=>Q .non d,rt:=Q } (AW N vs) H)
  (e:∀ (b:Value) (A:dr) (outer:cE) (s:π) (H:Hp) (E:XK),Room k (A.deeper<|x_ a (AU st) s.heap.objs.size f b)->XOk (IZ (EH P w) P w K mg base N a (AU st) f b A outer s H E) (λz=>E) ->
   E8 (IZ (EH P w) P w K mg base N a (AU st) f b A outer s H E) (HL st) (c λz=>E)):FP P w K mg base (k+1) f fd ps sp :=
 F.okE S (λz z z z=>len) λb A outer s H z z E g h=>{_,e _ A _ s H E g zah,ok h}
section
variable{X:Cx}{pos:Pos}
def psl(i:Nat)(b:X.N.Nodup)(he:PE X e c)(d:X.N[i]? =some x:=by exact rfl)(g:L9 X.env.scope x:=by exact De rfl)(hs:we e (some<|.Name x a) pos.line X.env=pure false:=by rfl)(hf:X.fn x=true\/X.env.scope.names.lookup x=some .local:=by first|exact .inl rfl|exact .inr rfl|assumption) :
  PS X (.Assign [.Name x a] e pos) (AT c<|AG i):=m9 b d g he hs hf
def rT(i:Nat)(a:X.N.Nodup)(b:X.N[i]? =some x:=by exact rfl)(c:L9 X.env.scope x:=by exact De rfl)(hf:X.fn x=true\/X.env.scope.names.lookup x=some .local:=by first|exact .inl rfl|exact .inr rfl|assumption):PG X (.Name x pos) (AG i):=m8 a b c hf
end
section
variable{X:Cx}{pos:Pos}
def pei{j b}(c:PE X a d):PE X (.Subscript a (.Constant (.int i) j b) pos) (AD (B7 X.K) d (tC<|.int i)):=oP p9 c mZ<|λz z=>rfl
def FnScope.cp(_:FnScope N P outer)(h:TC scope outer N a b=true:=by decide +kernel)(h1:X.env.scope=outer:=by exact rfl)(h2:X.N=N:=by exact rfl):KB X scope c a b:=qJ h1 h2 h
end
section
variable{X:Cx}{E:St->XK}{k j:Nat}{x m:Str}{ps:zD}{sp:Sp}{C:Addr}{p pos CW:Pos}{e o e1 e2 e3:Expr}{es:xD}{ta tb tc td:TE}{t:TA}
def rV(h:PE X e ta)(s:az [e] X.env=(false,eval e X.env)::az [] X.env:=by rfl):PA X [e] (D4 ta BM):=ME h ST s
def rW(h:PE X e ta)(h1:PE X e1 tb)(s:az [e,e1] X.env=(false,eval e X.env)::az [e1] X.env:=by rfl)(a:az [e1] X.env=(false,eval e1 X.env)::az [] X.env:=by rfl):PA X [e,e1] (D4 ta<|D4 tb BM):=ME h (rV h1 a) s
def rX(h:PE X e ta)(h1:PE X e1 tb)(h2:PE X e2 tc)(s:az [e,e1,e2] X.env=(false,eval e X.env)::az [e1,e2] X.env:=by rfl)(a:az [e1,e2] X.env=(false,eval e1 X.env)::az [e2] X.env:=by rfl)(b:az [e2] X.env=(false,eval e2 X.env)::az [] X.env:=by rfl):PA X [e,e1,e2] (D4 ta<|D4 tb<|D4 tc BM):=ME h (rW h1 h2 a b) s
def ze0(h:PE X e ta)(h1:PE X e1 tb)(h2:PE X e2 tc)(h3:PE X e3 td)(s:az [e,e1,e2,e3] X.env=(false,eval e X.env)::az [e1,e2,e3] X.env:=by rfl)(a:az [e1,e2,e3] X.env=(false,eval e1 X.env)::az [e2,e3] X.env:=by rfl)(b:az [e2,e3] X.env=(false,eval e2 X.env)::az [e3] X.env:=by rfl)(c:az [e3] X.env=(false,eval e3 X.env)::az [] X.env:=by rfl):PA X [e,e1,e2,e3] (D4 ta<|D4 tb<|D4 tc<|D4 td BM):=ME h (rX h1 h2 h3 a b c) s
def pcx(c:S6 X.prog X.w X.K X.mg X.base k x ps sp)(b:Room j X.A)(d:XOk X E)(g:PA X (e::es) t)(i:k<=j:=by decide)(l:Gl X x:=by exact rfl)(a:(x ==("__debug__":Str))=false:=by decide)
  (he:az (e::es) X.env=(false,eval e X.env)::az es X.env:=by rfl) (n:(jj pos<|az es X.env).any (·.1)=false:=by rfl):PE X (.Call (.Name x p) (e::es) [] pos) (MF sp [] E t):=pX c (b.mono i) d.passes l g a he n
def pmx(he:PE X o ta)(d:Cls X.K C)(c:NM X.prog X.w X.K X.mg X.base C k m ps sp)(g:Room j X.A)(i:XOk X E)(l:PA X (e::es) t)(n:k<=j:=by decide)
  (a:az (e::es) X.env=(false,eval e X.env)::az es X.env:=by rfl) (q:(jj pos<|az es X.env).any (·.1)=false:=by rfl)
  (r:eval (.Call (.Attribute o m CW) (e::es) [] pos) X.env=(do
   let b ← eval o X.env
   yp CW.atName
   let (f,first) ← ue [b] (uw b m s)
   zu pos f first (jj pos<|az (e::es) X.env) (vj pos<|mo [] X.env)):=by rfl):PE X (.Call (.Attribute o m CW) (e::es) [] pos) (IY C m sp [] E ta t):=XI he d c (g.mono n) i.passes l a q r
def pmz(he:PE X o ta)(b:Cls X.K C)(c:NM X.prog X.w X.K X.mg X.base C k m ps sp)(d:Room j X.A)(g:XOk X E)(i:k<=j:=by decide)
  (l:eval (.Call (.Attribute o m CW) [] [] pos) X.env=(do
   let a ← eval o X.env
   yp CW.atName
   let (f,first) ← ue [a] (uw a m n)
   zu pos f first (jj pos<|az [] X.env) (vj pos<|mo [] X.env)):=by rfl):PE X (.Call (.Attribute o m CW) [] [] pos) (IY C m sp [] E ta BM):=zaj he b c (d.mono i) g.passes l
end
def Fun.oK(P:bw)(w:World){K:W.Frag}(mg:uB)(base:Heap){x a:Str}{st:Stmt}{f:Addr}{fd:gx}{N ps:zD}(k:Nat){sp:Sp}(F:Fun K x a st f fd)(b:(St->XK)->TS)(S:FnScope N ps (AU st))
  (ok:∀ {vs H Q E},sp vs H Q E->b (λ_=>E) { nx:=λz d=>Q .non d,rt:=Q } (AW N vs) H)
  (e:∀ (c:Value) (A:dr) (outer:cE) (s:π) (H:Hp) (E:XK),Room k (A.deeper<|x_ a (AU st) s.heap.objs.size f c)->XOk (IZ (EH P w) P w K mg base N a (AU st) f c A outer s H E) (λz=>E) ->
   E8 (IZ (EH P w) P w K mg base N a (AU st) f c A outer s H E) (HL st) (b λz=>E))
  (len:∀ {vs H Q E},sp vs H Q E->vs.length=ps.length:=by
   intro z z z z h
   repeat (first|(let[rfl,z]:=h;rfl)|(refine Or.elim h ?_ ?_<;>(clear h;intro h))|let[z,h]:=h)):FP P w K mg base (k+1) f fd ps sp:=F.okF b S len ok e
abbrev AZ(N:zD)(k:Nat)(a:Scope):Prop:=FnScope N (N.take k) a
abbrev CJ(P:bw)(w:World)(K:W.Frag)(mg:uB)(base:Heap)(k:Nat)(x:Str)(_:FnScope N ps a)(sp:Sp):Prop:=S6 P w K mg base k x ps sp
abbrev BY(P:bw)(w:World)(K:W.Frag)(mg:uB)(base:Heap)(C:Addr)(k:Nat)(x:Str)(_:FnScope N ps a)(sp:Sp):Prop:=NM P w K mg base C k x ps sp
abbrev MM(P:bw)(w:World)(K:W.Frag)(mg:uB)(base:Heap)(C:Addr)(k:Nat)(x:Str)(_:FnScope N ps a)(sp:Sp):Prop:=XH P w K mg base C k x ps sp
def rY{α :Type}:Nat->(List α ->Prop)->Prop
 |0,P=>P []
 |n+1,P=>∀ a,rY n λl=>P (a::l)
theorem un{α :Type}:∀ {n:Nat} {P:List α ->Prop},rY n P->∀ us:List α,us.length=n->P us
 |0,_,h,[],_=>h
 |_+1,_,h,a::us,e=>un (h a) us (Ga e)
def YA(x a:Str)(st:Stmt)(ps:zD):Prop:=∀ (kV b pm:Value) (c:Option Addr) (d ct:Value) (us:uD),us.length=ps.length->bindArgs (W.fnOf x a (KA st) (HL st) (AU st) .none kV b pm c d ct) {us,[]}=pure (ps.zip us)
structure GF(K:W.Frag)(x:Str)(st:Stmt):Prop where
 ex:∃ (f:Addr) (fd:gx),W.nsIn K bq x=some (some<|.ref f)/\Fun K x x st f fd
structure GM(K:W.Frag)(C:Addr)(m q:Str)(st:Stmt):Prop where
 ex:∃ (f:Addr) (fd:gx),W.findIn K (.ref C) m=some (some<|.ref f)/\W.isFn K (.ref f)=true/\Fun K m q st f fd
structure GC(K:W.Frag)(C:Addr)(x:Str):Prop where
 ac:W.nsIn K bq x=some (some<|.ref C)
 c:Cls K C
structure GN(K:W.Frag)(C:Addr)(x q:Str)(st:Stmt):Prop where
 m:GM K C "__init__" q st
 mks:W.makesIn K C=true
 kc:W.keepIn K (.ref C)=true
 ac:W.nsIn K bq x=some (some<|.ref C)
structure GX(K:W.Frag)(C:Addr)(x:Str):Prop where
 ac:W.nsIn K bq x=some (some<|.ref C)
 ex:W.excIn K C [.type "ValueError",.type "Exception",.type "BaseException",.type "object"] "ValueError.__new__"=true
section
variable{K:W.Frag}{x q:Str}{st:Stmt}{C f:Addr}{oc:Value}{od an:Option Addr}{osl:Array (Option Value)}{kV doc pm CN ct:Value}
def gf(a:W.nsIn K bq x=some (some<|.ref f))(l:K.lookup f=some {oc,od,.func<|W.fnOf x x (KA st) (HL st) (AU st) .none kV doc pm an CN ct,osl})
  (c:W.codeIn K CN x=true) (k:W.keepIn K (.ref f)=true):GF K x st:={_,_,a,pL l c k}
def gm(a:W.findIn K (.ref C) x=some (some<|.ref f))(l:K.lookup f=some {oc,od,.func<|W.fnOf x q (KA st) (HL st) (AU st) .none kV doc pm an CN ct,osl})
  (c:W.codeIn K CN q=true) (k:W.keepIn K (.ref f)=true) (i:W.isFn K (.ref f)=true):GM K C x q st:={_,_,a,i,pL l c k}
def gn(a:W.findIn K (.ref C) "__init__"=some (some<|.ref f))(l:K.lookup f=some {oc,od,.func<|W.fnOf "__init__" q (KA st) (HL st) (AU st) .none kV doc pm an CN ct,osl})
  (c:W.codeIn K CN q=true) (k:W.keepIn K (.ref f)=true) (i:W.isFn K (.ref f)=true) (m:W.makesIn K C=true) (n:W.keepIn K (.ref C)=true) (s:W.nsIn K bq y=some (some<|.ref C)):GN K C y q st:={gm a l c k i,m,n,s}
def gc(a:W.nsIn K bq x=some (some<|.ref C))(l:W.plainGet K C ux=true)(c:W.hasDictIn K C=true)(k:W.plainOver K C=true)(i:W.findIn K (.ref C) "__setattr__"=some (some<|.builtin "object.__setattr__")):GC K C x:=⟨a,l,c,k,i⟩
end
section
variable{P:bw}{w:World}{K:W.Frag}{h:Heap}{mg:uB}{base:Heap}{x q:Str}{st:Stmt}{C:Addr}{k:Nat}{ps:zD}{sp:Sp}
def gfc(P:bw:=by assumption)(w:World:=by assumption)(base:Heap:=by assumption)(ok:∀ {f fd},Fun K x x st f fd->FP P w K mg base k f fd ps sp)(g:GF K x st:=by assumption)(X:K.In h:=by assumption)(G:h.Ns bq mg:=by assumption)
  (b:YA x x st ps:=by intro z z z z z z;apply un;(repeat intro z);rfl):S6 P w K mg base k x ps sp:=by
 refine u2 ?_ g.ex;intro f fd [a,F];exact{f,fd,ok F,W.mg_of X G a,F.kp,F.binds b}
def gmc(P:bw:=by assumption)(w:World:=by assumption)(base:Heap:=by assumption)(ok:∀ {f fd},Fun K x q st f fd->FP P w K mg base k f fd ps sp)(g:GM K C x q st:=by assumption)
  (b:YA x q st ps:=by intro z z z z z z;apply un;(repeat intro z);rfl):NM P w K mg base C k x ps sp:=by
 refine u2 ?_ g.ex;intro f fd [a,i,F];exact{f,fd,ok F,⟨a,i,F.kp⟩,F.binds b}
def gnc(P:bw:=by assumption)(w:World:=by assumption)(base:Heap:=by assumption)(ok:∀ {f fd},Fun K "__init__" q st f fd->FP P w K mg base k f fd ps sp)(g:GN K C x q st:=by assumption)(X:K.In h:=by assumption)(G:h.Ns bq mg:=by assumption)
  (b:YA "__init__" q st ps:=by intro z z z z z z;apply un;(repeat intro z);rfl):XH P w K mg base C k x ps sp:=by
 refine u2 ?_ g.m.ex;intro f fd [a,i,F];exact{f,fd,ok F,⟨g.mks,a,i,g.kc⟩,W.mg_of X G g.ac,F.binds b}
def GF.law(g:GF K x st)(X:K.In h)(G:h.Ns bq mg)(d:mg x=some (.ref j))
  (b:∀ (kV c pm:Value) (e:Option Addr) (i ct:Value) (s:π) (v:Value),xm s (W.fnOf x x (KA st) (HL st) (AU st) .none kV c pm e i ct) {[v],[]} [("script",v)]) :
  ∃ fd:gx,(∀ (s:π) (v:Value),xm s fd {[v],[]} [("script",v)])/\Fun K x x st j fd:=by
 refine u2 ?_ g.ex;intro f fd [a,F];cases (d.symm.trans<|W.mg_of X G a);refine u9 ?_ F.ex;intro n o kV c pm e i ct l [rfl,p,r];exact{_,b kV _ pm e _ ct,F}
end
def TU(K:W.Frag)(to c d:TE)(e:V->V->Hp->VK->Prop):TS:=λD a H=>to a H λx g=>c a g λy b=>∃ p xs,∃ n:Nat,∃ v,x=.ref p/\y=.int n/\SqL K b p xs/\xs[n]? =some v/\d a b λz i=>e v z i λu j=>PU (.ref p) (.int n) u j λl=>D.nx a l
def ze7{K:W.Frag}{to b c:TE}{d:V->V->Hp->VK->Prop}{D:Ends}{a:St}{H:Hp}:TU K to b c d D a H=(to a H λx g=>b a g λy e=>∃ p xs,∃ n:Nat,∃ v,x=.ref p/\y=.int n/\SqL K e p xs/\xs[n]? =some v/\c a e λz i=>d v z i λu j=>PU (.ref p) (.int n) u j λl=>D.nx a l):=rfl
section
variable{X:Cx}{o i value:Expr}{td ty tv:TE}{tpos pos:Pos}
def ze8(E:PE X o td)(J:PE X i ty)(L:PE X value tv)(c:WX X op M)
  (N:∀ b iv new,augStore i b iv new=(do ue [new,b,iv] (Me b iv new);release [new,b,iv] [];pure .next):=by intros;rfl):PS X (.AugAssign (.Subscript o i tpos) op value pos) (TU X.K td ty tv M):=by
 refine λAA s a H D I h=>wpAny_AugAssign_SubscriptAny (AO (E _ s a H _ I h) λu O ⟨x,Q,T,U,q1⟩=>AO (J _ O a Q _ T q1) λiv Y d=>?_) N;let[y,H2,l,A,p,xs,n,v,ex,ey,hq,B,q2]:=d;subst ex ey
 have e:=A;obtain rfl:u=fh p:=U;let[t,rfl]:=A;let[AK,r,pl,hz]:=l.list hq
 have hn:=O3;let[w,ew,g]:=r.get B
 have A0:=(ζ.mp B).1;exact wpAny_getItem_list pl.isList (by lia) (by lia)  (by simpa using ew) (AO (L _ Y a H2 _ l q2) (by intro w2 s4 [y2,H3,I4,j,q3];exact AO (c _ s4 a H3 v y2 w w2 _ I4 g j q3) (by intro w3 s5 [z,H4,I5,rz,q4];exact(AO (qG _ s5 a H4 (.ref p) _ z _ _ _ _ I5 rfl e rz q4) (by intro q s6 [H5,I6,q5];exact⟨a,H5,I6,q5⟩)))))
end
def ze9(l:Addr)(c:Array Value)(n:Nat)(b:Addr)(a:Array Value)(j:Nat)(d:Option Addr)(o:Array (Option Value))(p:¬(!c.isEmpty&&li (c.size+a.size))=true)(e:c.size<=sizeLine)(g:c.size+a.size<=sizeLine+1) :
  Meets (vh.«list.extend» {[.ref l,.ref b],[]}) (λ_ R s=>s.heap.get? l=some { cls:=.type "list",dict:=none,data:=.seq c n,slots:= #[] }/\s.heap.get? b=some { cls:=.type "tuple",dict:=d,data:=.seq a j,slots:=o }/\R (.ok<|.ret ip) { s with heap:=s.heap.update l<|gb λx=>x++a,toks:=s.toks }) :=
 .of_wp λprog w A R s h=>by
  let[i,q,h]:=h;have r:(c++a).size<=sizeLine+1:=by rw[Es];exact g
  wp_walk using (tj i rfl (hz:=e) ),yf i,yf q;exact⟨_,rfl,h⟩
def YB(K:W.Frag):V->cF->Hp->VK->Prop:=λx vs H Q=>∃ l b xs a,x=.ref l/\vs=[.ref b]/\H l=some (.lst xs)/\SqT K H b a/\xs.length+a.length<=sizeLine/\Q .non (upd H l<|.lst<|xs++a)
def zfa:SV X "list.extend" (YB X.K):=by
 intro L s M H x vs v us Q I p w [l,b,xs,N,rfl,rfl,g,y,hz,q];subst p;let[z,c,n,r,O,e]:=I.lstM g;let[u,rfl,rfl]:=w.one;let[d,i,[o,A,B,D,hd],E]:=I.tuple y
 have T:=i.length;let[U,Y,j,J]:=o;subst B hd
 have hsz:c.toArray.size+d.toArray.size<=sizeLine:=by rw[aw,aw];lia
 have a:¬ (!c.toArray.isEmpty&&li (c.toArray.size+d.toArray.size))=true:=by
  rw[o8 hsz,wx];exact ax
 refine iu F.slot_list_extend ⟨_,e,rfl⟩ F.entry_list_extend (F.args_list_extend_2 _ _)
  (ze9 l c.toArray n b d.toArray D _ _ a (by lia) (by lia)) {e,A,{.non,_,I.lset  g e (by simp) (r.append i) ?_,rfl,q}}
 rw[ai];omega
section
variable{X:Cx}{tg:Expr}
end
section
variable{K:W.Frag}{g:TG}{tt:TT}{te:TE}{k:Nat}{A6:xE}{σ:St}{H:Hp}{Q:VK}
def YC(p:yD)(u:xs.length<=sizeLine)(Pv:Nat->cF->Hp->Prop)(h0:Pv 0 [] H)(n:∀ i ys H,i<=xs.length->Pv i ys H->SqL K H b xs/\ys.length<=i)
  (o:∀ i x ys H,xs[i]? =some x->Pv i ys H->∀ d:Bool->Hp->Prop,d (p i) H->tt (some x::C0 A6 σ) H d)
  (hs:∀ i x ys H,xs[i]? =some x->p i=true->Pv i ys H->te (some x::C0 A6 σ) H λy r=>Pv (i+1) (ys++[y]) r)
  (hf:∀ i x ys H,xs[i]? =some x->p i=false->Pv i ys H->Pv (i+1) ys H)
  (hd:∀ ys H,Pv xs.length ys H->∀ q,H q=none->Q (.ref q) (upd H q<|.lst ys)):EI (GG K b) (AG 0) tt te 1 A6 σ H Q:=by
 refine{λi m a ys H=>m=xs.length-i/\i<=xs.length/\(∃ j,a=j::C0 _ σ)/\Pv i ys H,{xs.length,rfl,bh _,⟨_,rfl⟩,h0},?_};intro i m a ys H [rfl,s,[j,rfl],P];let[q,v]:=n i ys H s P;by_cases c:i<xs.length;refine .inr {{xs,xs[i],q,by simp[c]},by lia,λx w y=>?_};let[rfl,y]:=y
 have ex:=y xs q;refine o i x ys _ ex P _ ?_;cases l:p i with
 |true =>
  exact{_,λy z q=>{_,by omega,rfl,c,⟨_,rfl⟩,q},hs i x ys _ ex l P}
 |false =>
  exact{_,by omega,rfl,c,⟨_,rfl⟩,hf i x ys _ ex l P}
 have e:i=xs.length:=by lia
 subst e;exact .inl {{xs,q,ο _},hd ys H P}
def YD(p:yD)(I:xs.length<=sizeLine)(Pv:Nat->cF->Hp->Prop)(h0:Pv 0 [] H)(w:∀ i ys H,i<=xs.length->Pv i ys H->SqL K H b xs/\ys.length<=i)
  (z:∀ i ys H t o,Pv i ys H->H t=none->Pv i ys (upd H t o))
  (A:∀ i x ys H,xs[i]? =some x->Pv i ys H->∀ n:Bool->Hp->Prop,n (p i) H->tt (some (.int (i:Int))::some x::C0 A6 σ) H n)
  (hs:∀ i x ys H,xs[i]? =some x->p i=true->Pv i ys H->te (some (.int (i:Int))::some x::C0 A6 σ) H λy B=>Pv (i+1) (ys++[y]) B)
  (hf:∀ i x ys H,xs[i]? =some x->p i=false->Pv i ys H->Pv (i+1) ys H)
  (hd:∀ ys H,Pv xs.length ys H->∀ q,H q=none->Q (.ref q) (upd H q<|.lst ys)):EI (LD K b) (FL K 2<|DP (AG 0) (DP (AG 1) FJ)) tt te 2 A6 σ H Q:=by
 refine{λi m a ys H=>m=xs.length-i/\i<=xs.length/\(∃ r s,a=r::s::C0 _ σ)/\Pv i ys H,{xs.length,rfl,bh _,⟨_,_,rfl⟩,h0},?_};intro i m a ys H [rfl,D,[r,s,rfl],P];let[q,J]:=w i ys H D P;by_cases c:i<xs.length;refine .inr {{xs,xs[i],q,by simp[c]},by lia,λv L d=>?_};let[t,j,e,x,E,q1]:=d
 have ex:=q1 xs q;subst e E
 have l:=z i ys H t (.tup [.int i,x]) P j;refine{t,_,rfl,SqT.of AE,rfl,({_,_,rfl,{_,_,rfl,{rfl,(A i x ys _ ex l _ ?_)}}})};cases u:p i with
 |true =>
  exact{_,λy M q=>{_,by omega,rfl,c,⟨_,_,rfl⟩,q},hs i x ys _ ex u l}
 |false =>
  exact{_,by omega,rfl,c,⟨_,_,rfl⟩,hf i x ys _ ex u l}
 have e:i=xs.length:=by lia
 subst e;exact .inl {{xs,q,ο _},hd ys H P}
end
section
variable{prog:bw}{w:World}{K:Type}[DecidableEq K]{knd:HeapKind prog w K}{A:dr}{E:yB}{s:π}
def zfb(H:knd.room A)(c:knd.is s.heap k a)(I:s.heap.DictOfH knd d xs)
  (r:∀ h',h'.DictOfH knd d (xn xs k a v)->gk d s.heap h'->Q () { s with heap:=h' }) (hsz:xs.length<=sizeLine) :
  wpAny (model prog w) A (dictSetHashed d (.ref a) (knd.hash k) v) Q E s:=by
 revert I;apply u3;intro o L J [g,u,hd,he,i,l]
 have keep:∀ {f:Obj->Obj} {x:K × Addr × Value},x∈xs->knd.is (s.heap.update d f) _ _:=λb=>knd.keeps (i _ b) g hd (e_ ..);unfold dictSetHashed
 try with_reducible refine fm ?_
 refine δ<|wpAny_dictFind_heap H c g hd he i l (λn=>?_) λj p B=>?_;refine δ (pe (wpAny_updateDictKeys (hz:=by have e:=size_of_entries he;lia) g hd (r _ ?_<|e_ ..)));rw[(storedH_new (atKey_none_of_get n) a v)];refine x3 _ _ _ {cy _ g<|vt<|pr hd _,u.mapDictKeys _,pr hd _,by simp[he,wj],λx b=>?_,?_};let b||b:=bc.mp b
 exact keep b;cases aa.mp b;exact knd.keeps c g hd<|e_ ..;rw[av,om];refine{l,by simp,λx b y q e=>not_mem_keys_of_get n ?_};rw[show k=y from(aa.mp q).symm,<-e];exact b;refine δ<|pe<|δ<|wpAny_updateDict g hd<|wpAny_point<|r _ ?_<|e_ ..;rw[(storedH_old (atKey_of_get l B) a v)];refine x3 _ _ J {cy _ g<|vt<|Hr hd _,u.mapDict _,Hr hd _,?_,λx b=>?_,by rw[keys_map_putAt];exact l}
 have:=modify_map_putAt (wj knd) (λe:wg=>{ e with val:=v }) k v (λz z=>rfl) l B;rw[<-he]at this;simpa using this;let[y,q,rfl]:=ay.mp b
 have D:=λf=>keep (f:=f) q;unfold putAt;split;exact D _;exact D _
def JD(xs ys:List (K × Addr × Value)):List (K × Addr × Value):=ys.foldl (λa y=>xn a y.1 y.2.1 y.2.2) xs
def zfc(xs:List (K × Addr × Value))(k:K)(a:Addr)(v:Value):(xn xs k a v).length<=xs.length+1:=by
 unfold xn;split;rw[ε];lia;rw[ai];exact ο _
theorem rZ:∀ (ys xs:List (K × Addr × Value)),(JD xs ys).length<=xs.length+ys.length
 | [],xs=>ο _
 |y::ys,xs=>by
  have h1:=rZ ys<|xn xs y.1 y.2.1 y.2.2
  have h2:=zfc xs y.1 y.2.1 y.2.2
  show(JD _ ys).length<=_;rw[b_];lia
def zfd{xs ys:List (K × Addr × Value)}{y:K × Addr × Value}(h:ys[i]? =some y):JD xs (ys.take<|i+1)=xn (JD xs<|ys.take i) y.1 y.2.1 y.2.2:=by
 have:ys.take (i+1)=ys.take i++[y]:=by rw[cw,h];rfl
 unfold JD;rw[this,k_]
 rfl
def zfe(b:s.heap.get? a=some o)(c:o.cls=.type "tuple")(h:Q false s):wpAny (model prog w) A (Builtin.Dict.quietEq<|.ref a) Q E s:=δ<|vp ⟨o,b,c⟩ F.slot_tuple_eq.lookup (ξ h)
def YE(knd:HeapKind prog w K)(ys:List (K × Addr × Value)):Prop:=(ys.map λy=>knd.hash y.1).Nodup
def zff{id:String}{d:Addr}{o:Obj}{c n}{ys:List (K × Addr × Value)}{Q:Array wg->π->Prop}(p:s.heap.get? d=some o)(hd:o.data=.dict c n)(he:c.toList=ys.map (wj knd))(q:∀ y∈ys,∃ ob,s.heap.get? y.2.1=some ob/\ob.cls=.type "tuple")(ap:YE knd ys)(h:Q c s) :
  wpAny (model prog w) A (Builtin.Dict.entriesForEmpty id d) Q E s:=by
 refine δ<|iy p hd ?_
 have one:∀ e∈c.toList,(c.filter (·.hash==e.hash)).size<=1:=λe g=>by
  rw[<-da,Array.toList_filter,he,zf,ε];rw[he]at g;let[y,l,rfl]:=ay.mp g
  have:(ys.filter<|(λx:wg=>x.hash ==(wj knd y).hash) ∘ wj knd).length=(ys.map λy=>knd.hash y.1).count (knd.hash y.1):=by
   rw[List.count_eq_countP,List.countP_map,List.countP_eq_length_filter]
   rfl
  rw[this];exact At.mp ap _
 refine δ ?_;rw[<-Array.forIn_toList];refine Ht _ (λrest z j=>j=s/\∀ e∈rest,e∈c.toList) _ ?_ ?_ _ _ {rfl,λe h=>h};intro e rest b j [rfl,a]
 have g:=a e χ
 have i:=g;rw[he]at i;let[y,l,r]:=ay.mp i
 have u:e.key=.ref y.2.1:=by rw[<-r];rfl
 let[ob,h1,h2]:=q y l;rw[u];refine δ<|zfe h1 h2 ?_;simp only[Bool.not_false,if_true];rw[if_neg (by have:=one e g;omega)];exact ξ {rfl,λv h'=>a v<|τ _ h'};intro b j [rfl,z];exact ξ h
def zfg{xs ys:List (K × Addr × Value)}{Q:Unit->π->Prop}(hu:knd.room A)(u:d≠o)(M:(o == f_)=false)
  (hd:s.heap.DictOfH knd d xs) (ho:s.heap.DictOfH knd o ys) (ht:∀ y∈ys,∃ ob,s.heap.get? y.2.1=some ob/\ob.cls=.type "tuple") (ap:xs=[]->YE knd ys)
  (N:∀ h',(h'.DictOfH knd d (JD xs ys)\/(xs=[]/\h'.DictOfH knd d ys))->gk d s.heap h'->Q () { s with heap:=h' })
  (hsz:xs.length+ys.length<=sizeLine) :
  wpAny (model prog w) A (yz nm d o) Q E s:=by
 refine u3 ?_<|id hd;intro od esd epd [e,GW,c,B,hisd,hnd];refine u3 ?_<|id ho;intro oo g epo [j,hco,a,n,q,O]
 have D:=size_of_entries n;unfold yz;rw[if_neg (by simpa using u)];unfold uq;rw[if_neg (by rw[M];exact ax)];refine δ<|ξ<|δ<|iy j a ?_;dsimp only;split
 any_goals (refine δ<|iy e c ?_;split)
 rename_i H
 have I:xs=[]:=by
  rw[(Ge.mp H)]at B;exact Bt.mp B.symm
 refine δ<|zff  j a n ht (ap I) ?_;split;refine δ (wpAny_updateDictKeysTo e c (ξ (N _ (.inr ⟨I,_,_,_,cy _ e<|vt<|pr c _,GW.mapDictKeys _,
  pr c _,n,λx hx=>knd.keeps (q x hx) e c (e_ ..),O⟩) (e_ ..))) (by lia))
 rename_i T
 have h0:=Ge.mp (by simpa using T)
 have U:=cu.mp (by rw[<-D,h0];rfl);subst U;exact ξ<|N _ (.inl hd) (xt _ _)
 all_goals
  refine δ<|tm j a<|δ<|iy j a<|δ ?_;rw[Std.Legacy.Range.forIn_eq_forIn_range'];refine Ht _
   (λrest _ Y=>∃ h' i,Y={ s with heap:=h' }/\rest=Io i (g.size-i)/\i<=g.size/\h'.DictOfH knd d (JD xs<|ys.take i)/\gk d s.heap h')
   _ ?_ ?_ _ _ (x2 s.heap 0 {rfl,by simp,bh _,hd,xt _ _})
  intro x rest b Y [h',i,rfl,v,hi,p,l]
  have A0:i<g.size:=by
   let h||h:=ff i g.size
   ·exact h
   ·rw[zk h]at v;simp at v
  obtain⟨rfl,z⟩:x=i/\rest=Io (i+1) (g.size-(i+1)):=by
   rw[show g.size-i=(g.size-(i+1))+1 by omega,Hu]at v;injection v with h1 h2
   exact⟨h1,h2⟩
  have r:h'.get? o=some oo:=(l.2 o<|fi u).trans j;obtain⟨y,hy⟩:∃ y,ys[x]? =some y:={ys[x]'(by lia),θ _}
  have hk:knd.is h' y.1 y.2.1:=knd.keeps (q y<|η hy) e c l;refine δ<|iy r a ?_;rw[entry_at n x,hy]
  have hmx:(JD xs<|ys.take x).length<=sizeLine:=by
   have e1:=rZ (ys.take x) xs
   have e2:(ys.take x).length<=ys.length:=by rw[df];lia
   lia
  refine δ<|fm<|zfb (s:={ s with heap:=h' }) hu hk p (λh2 hd2 J=>?_) hmx
  have L:h2.get? o=some oo:=(J.2 o<|fi u).trans r;refine δ<|tm L a ?_;rw[if_neg (by simp)];exact ξ (x2 h2 (x+1) {rfl,z,A0,by rw[zfd hy];exact hd2,l.trans J})
  ·intro b Y [h',i,rfl,v,hi,p,l]
   have hin:i=g.size:=by
    let h||h:=ff i g.size
    ·rw[show g.size-i=(g.size-(i+1))+1 by omega,Hu]at v;exact nomatch v
    ·exact kq hi h
   refine ξ<|N h' (.inl ?_) l;rw[hin,D,ca]at p;exact p
def zfh(knd:HeapKind prog w K)(d o:Addr)(b:d≠o)(c:(o == f_)=false) :
  MeetsIn prog w (vh.«dict.update» {[.ref d,.ref o],[]}) (λA R s=>knd.room A.in1/\∃ xs ys,s.heap.DictOfH knd d xs/\s.heap.DictOfH knd o ys/\(∀ y∈ys,∃ ob,s.heap.get? y.2.1=some ob/\ob.cls=.type "tuple")/\(xs=[]->YE knd ys)/\xs.length+ys.length<=sizeLine ∧
   ∀ h',(h'.DictOfH knd d (JD xs ys)\/(xs=[]/\h'.DictOfH knd d ys))->gk d s.heap h'->R (.ok<|.ret .none) { s with heap:=h' }) :=
 .of_wp (by
  intro A R s [i,xs,ys,hd,a,j,ap,hsz,h];refine δ<|δ<|zm hd.typeIs<|ξ ?_;exact δ<|v_ a.typeIs<|δ<|δ<|δ<|mh a.typeIs isSubtype_dict_dict<|δ<|vp a.typeIs F.slot_dict_iter.lookup<|ξ<|δ<|ξ<|zfg i b c hd a j ap (λh' e g=>(δ<|ξ<|ξ {_,rfl,h h' e g})) hsz)
end
def EQ(kvs more:vA):vA:=more.foldl (λb a=>CD b a.1 a.2) kvs
def KT.merge:∀ {more:vA} {ys:bA} {kvs:vA} {xs:bA},KT H more ys->KT H kvs xs->KT H (EQ kvs more) (JD xs ys):=by
 intro more ys kvs xs r
 induction r generalizing kvs xs with
 |nil=>intro q;exact q
 |@cons p q ps c h t a =>
  intro b
  have e:KT H (CD kvs p.1 p.2) (xn xs q.1 q.2.1 q.2.2):=by
   rw[<-h.1];exact(b.put _ h.2.1 h.2.2)
  exact a e
theorem YF:∀ (more kvs:vA),(EQ kvs more).length<=kvs.length+more.length
 | [],kvs=>ο _
 |p::r,kvs=>by
  have h2:=HK kvs p.1 p.2
  have h1:=YF r<|CD kvs p.1 p.2
  show(EQ _ r).length<=_;rw[b_];lia
theorem YG:∀ (more a:vA),((a++more).map (·.1)).Nodup->EQ a more=a++more
 | [],a,_=>by simp[EQ]
 |p::r,a,h=>by
  have e:CD a p.1 p.2=a++[p]:=by
   unfold CD;rw[if_neg];rw[du];intro[x,b,he];rw[av,om]at h;exact h.2.2 _ (ay.mpr ⟨x,b,rfl⟩) _ (by simp) (of_decide_eq_true he)
  show EQ (CD _ _ _) r=_;rw[e,YG r _ (by rw[dw];exact h),dw]
  rfl
def KT.keys(r:KT H kvs xs):kvs.map (·.1)=xs.map (·.1):=by
 induction r with
 |nil=>rfl
 |cons h t a=>rw[ci,ci,a,h.1]
def TX(more:vA):Prop:=∀ (P:bw) (w:World),((more.map (·.1)).map (py<|DL P w).hash).Nodup
def YH:V->cF->Hp->VK->Prop:=λx vs H Q=>∃ d o kvs more,x=.ref d/\vs=[.ref o]/\d≠o/\H d=some (.dT kvs)/\H o=some (.dT more)/\(kvs=[]->TX more)/\kvs.length+more.length<=sizeLine/\Q .non (upd H d<|.dT<|EQ kvs more)
def zfi(N:X.A.units+1<cLine):SV X "dict.update" YH:=by
 intro O s T H x vs v us Q I U Y h;revert h;apply u4;intro d o kvs more [rfl,rfl,n,p,hO,ap,hz,q];subst U;let[z1,w,xs,g,l]:=SY I.hok p;let[u,rfl,rfl]:=Y.one;let[z2,B,ys,a,j]:=SY I.hok hO
 have J:=Paired.length g
 have l2:=Paired.length a
 have nd:(more.map (·.1)).Nodup:=by
  revert j;apply u3;intro _ _ _ [_,_,_,_,_,hn];rw[a.keys];exact hn
 refine ui PySem.F.slot_dict_update l.typeIs PySem.F.entry_dict_update (PySem.F.args_dict_update_2 _ _) (zfh (py<|DL X.prog X.w) d o n B) {jg N,x2 xs ys {l,j,λy hy=>?_,λe=>?_,by lia,λh' dd hs=>?_}}
 ·revert j;apply u3;intro _ _ _ [_,_,_,_,D,_];refine u3 ?_<|D y hy;intro ob _ _ [h1,h2,_];exact⟨ob,h1,h2⟩
 ·have:=ap (cu.mp (by rw[J,e];rfl)) X.prog X.w;rw[a.keys,lb]at this;exact this
 ·have tk:∀ {i:vA} {b:bA},KT H i b->KT (upd H d<|.dT<|EQ kvs more) i b:=λr=>r.keeps λc ys L=>by
   rw[AI (BI L p (λz=>nomatch z))];exact L
  have fin:∀ {b},KT H (EQ kvs more) b->h'.DictOfH (py<|DL X.prog X.w) d b->EP X O T Q .none { s with heap:=h' }:=λ{b} r E=>by
   revert E;apply u3;intro ob es ep [M,h2,h3,h4,_,h5];exact x2 (.non) _ {SZ (ob:=.dT<|EQ kvs more) I (by rw[p];exact tz) hs ⟨ob,M⟩ {(by have:=YF more kvs;lia),w,_,tk r,x3 ob es ep ⟨M,h2,h3,h4,h5⟩},rfl,q}
  let dd||[e,dd]:=dd
  ·exact fin (a.merge g) dd
  ·have e0:kvs=[]:=cu.mp (by rw[J,e];rfl);refine fin ?_ dd;rw[e0,YG more [] nd];exact a
def TY(H:Hp)(ps:List (V × V))(kvs:vA):Prop:=Paired (λ(q:V × V) (a:List AM × V)=>(∃ b,q.1=.ref b/\H b=some (.tup<|a.1.map kV))/\q.2=a.2) ps kvs
def zfj:upd (upd H p o) p a=upd H p a:=by
 funext x;by_cases e:x=p;rw[e,AE,AE];rw[AI e,AI e,AI e]
def zfk(h:H p=some o):upd H p o=H:=by
 funext x;by_cases e:x=p;rw[e,AE,h];rw[AI e]
def zfl(hu:X.A.units+1<cLine):∀ (ws:List (Value × Value)) (ps:List (V × V)) (kvs a:vA) (s:π) (H:Hp) (Q:PUnit->π->Prop),Inv X L n H s->H d=some (.dT a)->VV ps ws->TY H ps kvs->a.length+kvs.length<=sizeLine ->
  (∀ j,Inv X L n (upd H d<|.dT<|EQ a kvs) j->Q PUnit.unit j)->wpAny (model X.prog X.w) X.A (storeAll d ws) Q E s:=by
 intro ws
 induction ws with
 |nil =>
  intro ps kvs a s H Q I e rel g hz h;cases rel;cases g;refine ξ<|h s ?_
  show Inv X _ n (upd H d<|.dT a) s;rw[zfk e];exact I
 | cons x ws M =>
  intro ps kvs a s H Q I e rel g hz h;cases rel with
  | @cons p _ ps _ w rel =>
   cases g with
   |@cons _ o _ kvs N g =>
    let[[b,O,y],T]:=N;let[u,v]:=x
    have B:=w.2
    have D:=w.1;rw[O]at D;rw[T]at B;cases (D);rw[b_]at hz;let[z,hd,xs,rl,dd]:=SY I.hok e
    have hl:=HK a o.1 o.2;unfold storeAll;rw[jb];refine δ (δ (wpAny_dictSet_heap (hsz:=(by rw[<-Paired.length rl];exact z))  (show X.A.units<cLine by lia) (K3 I.hok y) dd λh' r hs=>ξ ?_))
    have tk:∀ {U:HO} {c:Addr} {ys:cF},H c=some (.tup ys)->upd H d U c=some _:=λl=>by
     rw[AI (BI l e (λz=>nomatch z))];exact l
    revert r;apply u3;intro q Y ep [J,h2,h3,h4,_,h5]
    have I':Inv X _ n _ { s with heap:=h',toks:=s.toks+(py<|DL X.prog X.w).draws o.1 } :=
     SZ (ob:=.dT _) I (by rw[e];exact tz) hs ⟨q,J⟩ {by omega,hd,_,(rl.put _ y B).keeps λc ys l=>tk l,x3 q Y ep ⟨J,h2,h3,h4,h5⟩}
    refine M ps _ _ _ _ Q I' AE rel (Paired.mapP g (by intro q kv' [[b',e1,e2],e3];exact{{b',e1,tk e2},e3})) (by omega) λj i=>h j ?_;rw[zfj]at i;exact i
def MN(a:List (TE × TE)):TE:=λc H Q=>∀ p,H p=none->MJ a c (upd H p<|.dT []) λps b=>b p=some (.dT [])/\∃ kvs:vA,TY b ps kvs/\kvs.length<=15/\Q (.ref p) (upd b p<|.dT<|EQ [] kvs)
def zfm(c:X.A.units+1<cLine)(h:S0 X pos keys values b)(a:keys.all (·.isSome)=true)(d:keys.length=values.length)(h0:keys≠[])
  (h15:keys.length<=15):PE X (.Dict keys values pos) (MN b):=by
 refine λp s g H Q I q=>wpAny_Dict_any a d h0 h15<|AO (h _ _ g _ _ (I.laid     (λz z q=>ν _ q) (ο _) (pH _ I.big)) (q _<|I.hok.fresh<|ο _)) λws j ⟨ps,l,n,rel,e,kvs,o,r,q2⟩=>(zfl c ws ps _ [] j l _ n e rel o ?_ λu i=>x2 (.ref _) _ ⟨i,rfl,q2⟩);rw[d_,nu];lia
def zfn:MN a c H Q=∀ p,H p=none->MJ a c (upd H p<|.dT []) λps b=>b p=some (.dT [])/\∃ kvs:vA,TY b ps kvs/\kvs.length<=15/\Q (.ref p) (upd b p<|.dT<|EQ [] kvs):=rfl
def zfo:XC e ty tx b H Q=(e b H λx c=>∃ a,x=.ref a/\NL c a/\ty b c λy g=>tx b g λz d=>∃ o,DGet d a y o/\Q (o.getD z) d):=rfl
def zfp:MJ [] b H a=a [] H:=rfl
def zfq:MJ ((tk,b)::r) a H c=(tk a H λx d=>b a d λy e=>MJ r a e λps g=>c ((x,y)::ps) g):=rfl
def zfr(Pv:vB)(h0:Pv 0 a H)(j:∀ i a H,i<=kvs.length->Pv i a H->H d=some (.frz ob<|.dK kvs))
  (hs:∀ i k v a H,kvs[i]? =some (k,v)->Pv i a H->g (kV k) a H λb n=>o { D with nx:=Pv<|i+1,ct:=Pv<|i+1,bk:=D.nx } b n) (hd:∀ a H,Pv kvs.length a H->D.nx a H):GL (TR d ob kvs) g o D a H:=by
 refine{λi m a H=>m=kvs.length-i/\i<=kvs.length/\Pv i a H,{_,rfl,bh _,h0},?_};intro i m a H [rfl,c,p];by_cases q:i<kvs.length;refine .inr {{j i a H c p,q},_,λr l s=>{_,by omega,rfl,by omega,s},?_};intro x l [rfl,k,v,rfl,u];exact hs i k v a l u p
 have e:i=kvs.length:=by lia
 subst e;exact .inl {{j _ a H c p,c},hd a H p}
def Ends.thaw(D:Ends)(d:Addr)(o:Obj)(kvs:vC):Ends:={ D with nx:=λa H=>H d=some (.frz o<|.dK kvs)/\D.nx a (upd H d<|.dK kvs),rt:=λv H=>H d=some (.frz o<|.dK kvs)/\D.rt v (upd H d<|.dK kvs) }
def YI(c:TE)(g:TG)(e:TS):TS:=λD a H=>c a H λx b=>∃ d kvs,x=.ref d/\b d=some (.dK kvs)/\∀ o,GL (TR d o kvs) g e (D.thaw d o kvs) a (upd b d<|.frz o<|.dK kvs)
def zfs:YI c g e D a H=(c a H λx b=>∃ d kvs,x=.ref d/\b d=some (.dK kvs)/\∀ o,GL (TR d o kvs) g e (D.thaw d o kvs) a (upd b d<|.frz o<|.dK kvs)):=rfl
section
variable{X:Cx}{tg:Expr}
def zft(U:G_ (model X.prog X.w) X.A X.env X.xe)(hc:X.calm=true)(hi:PE X iter te)(hg:PG X tg g)(j:E8 X body tb)
  (hs:∀ x,ky iter X.env x=pure x:=by intro t;rfl):PS X (.For tg iter body [] pos) (YI te g tb):=by
 intro Y s Q H D I h
 have key:wpAny (model X.prog X.w) X.A (eval iter X.env) (λv E=>wpAny (model X.prog X.w) X.A (zq v) (WR X Y Q tg λJ H2=>∃ d o kvs,(∀ o u,X.H₀ d≠some (.frz o u))/\GL J g tb (D.thaw d o kvs) Q H2) X.xe E) X.xe s:=by
  refine AO (hi _ s Q H _ I h) λv E c=>?_;let[x,H1,I1,r1,d,kvs,rfl,hd,q]:=c
  have nb:∀ o u,X.H₀ d≠some _:=λo u e=>by
   have:=I1.base.frzs d o u e;rw[hd]at this;cases this
  subst r1;let[z,y,vs,r,o,es,ep,g1,g2,g3,g4,g5,g6]:=(I1.hok d _ hd)
  refine zee y g1 g2 g3 ?_
  have I2:Inv X _ Q (upd H1 d<|.frz o _) { E with heap:=E.heap,toks:=E.toks }:=I1.write (by rw[hd];trivial) (.inl rfl) (λt t t e=>e) ⟨o,g1⟩ {g1,(I1.hok d _ hd).stay (λt t t e=>e) (λb e=>by rw[AI (BI e hd (by intro z;cases z))];exact e) λb xs e=>by rw[AI (BI e hd (by intro z;cases z))];exact e}
  have I3:Inv X _ Q _ { E with heap:=E.heap.push { cls:=.type "dict_keyiterator",data:=.fields #[.ref d,.int 0 0,.int es.size 0,.int ep 0] } }:=I2.kept  λb o e=>ν _ e;exact⟨_,_,_,_,_,rfl,I3,zex d _ g3,{_,ae _ rfl,rfl,rfl},λb j=>by
   have e:b=E.heap.objs.size:=by simpa using j
   subst e;exact I2.fpOk (ο _) (I2.hok.fresh<|ο _),d,o,_,nb,q o⟩
 refine wpAny_For (AO key λv E h1=>AO h1 λitv s2 h2=>?_) hs;let[it,fp,tn,J,H2,rfl,I2,T,st2,f2,d,o,kvs,nb,W,[m0,w0],turn]:=h2
 have l:∀ {B:Hp},(∀ b∈fp,B b=none)->∀ b∈fp,FpOk X _ B b:=λhn b j=>{hn b j,(f2 b j).2}
 refine Bo (λn s'=>∃ i p B,Inv X _ p B s'/\tn i s'.heap/\(∀ b∈fp,B b=none)/\W i n p B) ?_ m0 {0,Q,H2,I2,st2,λb j=>(f2 b j).1,w0};intro n s3 [i,w,H3,I3,st3,fr3,w3];let[stop,qe,qn]||[go,N,hN,step]:=turn i n w H3 w3
 refine fk U<|AO (T.done X rfl rfl rfl hc i Y s3 w H3 X.xe I3 (l fr3) st3 stop) λr s4 c=>?_;let[rfl,I4]:=c;exact nj {w,_,I4.thaw qe nb,qn};refine fk U<|AO (T.item X rfl rfl rfl hc i Y s3 w H3 X.xe I3 (l fr3) st3 go) λr s4 c=>?_;let[u,rfl,h4]:=c;refine fk U<|AO h4 λt s5 c=>?_;let[x,H5,I5,r5,y5,O,fr5]:=c;refine fk U<|AO (hg _ s5 w H5 x u _ (I5.pinned (l fr5) (T.obj _ _ O)) r5 (step x H5 y5)) λt s6 c=>?_;let[σ6,H6,I6,q6]:=c;refine fk U<|AO (j _ s6 σ6 H6 _ I6 q6) λf s7 M=>?_
 have again:∀ {a:St} {L:Hp},Inv X (Y++O1 fp s5.heap) a L s7->N a L->∃ m,m<n/\∃ i p B,Inv X Y p B s7/\tn i s7.heap/\(∀ b∈fp,B b=none)/\W i m p B:=λ{a L} A n7=>by
  let[m',hm,w7]:=hN a L n7;refine{m',hm,i+1,a,L,A.unpinned,T.keep _ _ _ O λb j o e=>(A.pin (b,o) (bu _<|bu _<|NE j e)).1,λb j=>?_,w7};let[o,e,d]:=T.obj _ _ O b j;exact(A.pin (b,o) (bu _<|bu _<|NE j e)).2.1
 cases f with
 |next=>let[a,L,A,n7]:=M;exact again A n7
 |cont=>let[a,L,A,n7]:=M;exact again A n7
 |brk=>let[a,L,A,M,q8]:=M;exact{a,_,A.unpinned.thaw M nb,q8}
 |ret v=>let[x7,a,L,A,r7,M,q8]:=M;exact{x7,a,_,A.unpinned.thaw M nb,r7,q8}
end
section
variable{X:Cx}
end
def Fly.kept{bad:Addr->Prop}{H:Hp}{h h':Heap}{e:Addr}{cls:Value}(F:Fly bad H h e cls)(k:∀ b o,h.get? b=some o->h'.get? b=some o):Fly bad H h' e cls:=by
 let[i,fr,j,vs,h1,h2,h3,h4,h5]:=F;refine{i,fr,x2 j vs {k _ _ h1,h2,h3,h4,?_}};let z||[T,l,n,a,b,c,d,f,g]:=h5
 ·exact .inl z
 ·exact .inr<|x3 T l n {a,b,c,d,k _ _ f,g}
def r8{X:Cx}{x y:Str}{j l pos:Pos}{n:Nat}{C D:Value}(p:Gl X x)(r:X.mg x=some C)(c:Gl X y)(d:X.mg y=some D)(hd:(x ==("__debug__":Str))=false:=by decide)(g:(y ==("__debug__":Str))=false:=by decide):PX X (.Tuple [.Name x j,.Name y l] n pos) (λcls=>W.exmAny X.K cls [C,D]):=by
 intro u s w H e cls b Q E I F A h
 have i:Inv (X.hand e) u w H s:=I.hand;refine wpAny_Tuple (HB (MA  i p r (HB (MA  i c d (wpAny_items_nil {by rw[d_];show 2<=_;omega,?_}) g)) hd))
 have a:∀ q o,s.heap.get? q=some o->(s.heap.push { cls:=.type "tuple",data:=.seq [C,D].toArray }).get? q=some o:=λv v z=>ν _ z;exact(W.exm_tup2 (I.kIn.keeps a) (pY<|F.kept a) (ae s.heap rfl) A).here (h _ (I.kept  a) (F.kept a))
def CS(x:V)(P:Addr->Prop):Prop:=match x with
 |.ref a=>P a
 |_=>False
def G0(x:V)(P:Int->Prop):Prop:=match x with
 |.int a=>P a
 |_=>False
def II(x:V)(P:Bool->Prop):Prop:=match x with
 |.bl a=>P a
 |_=>False
def FO(xs:cF)(P:V->Prop):Prop:=match xs with
 | [x]=>P x
 |_=>False
def QE(xs:cF)(P:V->cF->Prop):Prop:=match xs with
 |x::r=>P x r
 |_=>False
def QF(xs:cF)(P:Prop):Prop:=match xs with
 | []=>P
 |_=>False
def GO:CS x P=∃ a,x=.ref a/\P a:=by cases x<;>simp[CS]
def QH:G0 x P=∃ a,x=.int a/\P a:=by cases x<;>simp[G0]
def TZ:II x P=∃ a,x=.bl a/\P a:=by cases x<;>simp[II]
def NR:FO xs P=∃ x,xs=[x]/\P x:=by rcases xs with _|⟨x,_|⟨y,r⟩⟩<;>simp[FO]
def zfu:QE xs P=∃ x r,xs=x::r/\P x r:=by
 let _||[x,r]:=xs<;>simp[QE]
 exact{λh=>{x,r,⟨rfl,rfl⟩,h},(by intro[z,z,[e,a],h];exact e ▸ a ▸ h)}
def zfv:QF xs P=(xs=[]/\P):=by let _||[x,r]:=xs<;>simp[QF]
section
variable{P:Addr->Prop}{PI':Int->Prop}{PB:Bool->Prop}{P1:V->Prop}{P2:V->V->Prop}{PC':V->cF->Prop}{Z:Prop}{p:Addr}{i:Int}{b:Bool}{x y:V}{r:cF}
def zfw:CS (.ref p) P=P p:=rfl
def zfx:G0 (.int i) PI'=PI' i:=rfl
def zfy:II (.bl b) PB=PB b:=rfl
def zfz:FO [x] P1=P1 x:=rfl
def zf0:QE (x::r) PC'=PC' x r:=rfl
def zf1:QF [] Z=Z:=rfl
def zf2:@ite Prop (true=true) (instDecidableEqBool true true) A B=A:=rfl
def zf3:@ite Prop (false=true) (instDecidableEqBool false true) A B=B:=rfl
def zf4:(!true)=false:=rfl
def zf5:(!false)=true:=rfl
def zf6{α c :Type}:Ms f (a::l)=f a::Ms f l:=rfl
def zf7{α a :Type}:Ms f []=[]:=rfl
end
section
variable{K:W.Frag}{ta tb tc to ti tv tl td ty tx:TE}{s1:TS}{r r':R2}{σ:St}{H:Hp}{Q:VK}{D:Ends}{QB:uC}{as:TA}{g:TG}{gs:HE}{tt:TT}{te:TE}{k i:Nat}{A6:xE}{f m:Str}{C:Addr}{sp:Sp}{E:St->XK}{v:V}{vs:cF}{QG:St->Hp->Prop}{X:Cx}{e:Expr}{es:xD}{st:Stmt}{tg it:Expr}{QO:Option Int->Hp->Prop}{p q:Addr}{x y:Int}{b b':Bool}{s s':Str}
def AS(K:W.Frag)(ta:TE)(f:Str):TE:=λσ H Q=>ta σ H λx c=>CS x λa=>∃ C d fs,c a=some (.ins C d fs)/\Cls K C/\NoAttr K C f/\∃ v,fs.lookup f=some v/\Q v c
def zf8:AS K ta f=O5 K ta f:=by funext σ H Q;simp only[AS,O5,GO];simp
def zf9:AS K ta f σ H Q=ta σ H λx c=>CS x λa=>∃ C d fs,c a=some (.ins C d fs)/\Cls K C/\NoAttr K C f/\∃ v,fs.lookup f=some v/\Q v c:=rfl
def pFl(h:PE X e (O5 K ta f)):PE X e (AS K ta f):=zf8 ▸ h
def AN(C:Addr)(m:Str)(sp:Sp)(E:St->XK)(ta:TE)(t:TA):TE:=λσ H Q=>ta σ H λx c=>CS x λa=>∃ d fs,c a=some (.ins C d fs)/\fs.lookup m=none/\t σ c λvs j=>sp (x::vs) j Q (E σ)
def zgb:AN C m sp E ta as=IY C m sp [] E ta as:=by funext σ H Q;simp only[AN,IY,GO];simp
def zgc:AN C m sp E ta as σ H Q=ta σ H λx c=>CS x λa=>∃ d fs,c a=some (.ins C d fs)/\fs.lookup m=none/\as σ c λvs j=>sp (x::vs) j Q (E σ):=rfl
def T2(h:PE X e (IY C m sp [] E ta as)):PE X e (AN C m sp E ta as):=zgb ▸ h
def BO(sp:Sp)(E:St->XK)(t:TA):TE:=λσ H Q=>t σ H λvs a=>sp vs a Q<|E σ
def zgd:BO sp E as=MF sp [] E as:=by funext σ H Q;simp only[BO,MF,ja]
def zge:BO sp E as σ H Q=as σ H λvs a=>sp vs a Q (E σ):=rfl
def sA(h:PE X e (MF sp [] E as)):PE X e (BO sp E as):=zgd ▸ h
def GP(C:Addr)(sp:Sp)(E:St->XK)(t:TA):TE:=λσ H Q=>t σ H λvs c=>∀ x a,c x=none->c a=none->a≠x->sp (.ref x::vs) (upd (upd c a<|.own x) x (.ins C a [])) (λv d=>v=.non/\Q (.ref x) d) (E σ)
def zgf:GP C sp E as=NG C sp [] E as:=by funext σ H Q;simp only[GP,NG,ja]
def zgg:GP C sp E as σ H Q=as σ H λvs c=>∀ x a,c x=none->c a=none->a≠x->sp (.ref x::vs) (upd (upd c a<|.own x) x (.ins C a [])) (λv d=>v=.non/\Q (.ref x) d) (E σ):=rfl
def pMk(h:PE X e (NG C sp [] E as)):PE X e (GP C sp E as):=zgf ▸ h
def CT(K:W.Frag)(ta tv:TE)(f:Str):TS:=λD σ H=>tv σ H λy j=>ta σ j λx c=>CS x λa=>∃ C d fs,c a=some (.ins C d fs)/\Cls K C/\NoAttr K C f/\fs.length<1000/\D.nx σ (upd c a<|.ins C d<|BS f y fs)
def zgi:CT K ta tv f=O6 K ta tv f:=by funext D σ H;simp only[CT,O6,GO];simp
def zgj:CT K ta tv f D σ H=tv σ H λy j=>ta σ j λx c=>CS x λa=>∃ C d fs,c a=some (.ins C d fs)/\Cls K C/\NoAttr K C f/\fs.length<1000/\D.nx σ (upd c a<|.ins C d<|BS f y fs):=rfl
def pSf(h:PS X st (O6 K ta tv f)):PS X st (CT K ta tv f):=zgi ▸ h
def A5(t:TE):TT:=λσ H Q=>t σ H λx a=>II x λk=>Q k a
def YJ:A5 ta=MC ta:=by funext σ H Q;simp only[A5,MC,TZ]
def zgl:A5 ta σ H QB=ta σ H λx a=>II x λk=>QB k a:=rfl
def KF(h:PT X e (MC ta)):PT X e (A5 ta):=YJ ▸ h
def pTb(h:PT X e (tB ta)):PT X e (A5 ta):=by rw[YJ];exact h
def FA(r r':R2)(ta tb tc:TE):TE:=λσ H Q=>ta σ H λx c=>tb σ c λy d=>r x y d λz a=>II z λk=>if k=true then tc σ a λj l=>r' y j l Q else Q (.bl false) a
def sB:FA r r' ta tb tc=MD r r' ta tb tc:=by funext σ H Q;simp only[FA,MD,TZ]
def zgn:FA r r' ta tb tc σ H Q=ta σ H λx c=>tb σ c λy d=>r x y d λz a=>II z λk=>if k=true then tc σ a λj l=>r' y j l Q else Q (.bl false) a:=rfl
def pCh(h:PE X e (MD r r' ta tb tc)):PE X e (FA r r' ta tb tc):=sB ▸ h
def sC(h:PT X e (MC<|MD r r' ta tb tc)):PT X e (A5<|FA r r' ta tb tc):=by rw[YJ,sB];exact h
def LE(ta tb:TE):TE:=λσ H Q=>ta σ H λx a=>II x λc=>if c=true then tb σ a Q else Q (.bl false) a
def zgp:LE ta tb=OZ ta tb:=by funext σ H Q;simp only[LE,OZ,TZ]
def zgq:LE ta tb σ H Q=ta σ H λx a=>II x λc=>if c=true then tb σ a Q else Q (.bl false) a:=rfl
def pAv(h:PE X e (OZ ta tb)):PE X e (LE ta tb):=zgp ▸ h
def QI(ta tb:TE):TE:=λσ H Q=>ta σ H λx a=>II x λc=>if c=true then Q (.bl true) a else tb σ a Q
def zgs:QI ta tb=SI ta tb:=by funext σ H Q;simp only[QI,SI,TZ]
def zgt:QI ta tb σ H Q=ta σ H λx a=>II x λc=>if c=true then Q (.bl true) a else tb σ a Q:=rfl
def pOv(h:PE X e (SI ta tb)):PE X e (QI ta tb):=zgs ▸ h
def KG(K:W.Frag)(x:V)(H:Hp)(Q:Bool->Prop):Prop:=match x with
 |.bl b=>Q b
 |.int i=>Q<|i != 0
 |.non=>Q false
 |x=>∃ k,KZ K x H k/\Q k
def zgv{x:V}{Q:Bool->Prop}:KG K x H Q=∃ k,KZ K x H k/\Q k:=by cases x<;>simp[KG,KZ]
def zgw{Q:Bool->Prop}:KG K (.bl b) H Q=Q b:=rfl
def zgx{Q:Bool->Prop}:KG K (.int x) H Q=Q (x != 0):=rfl
def zgy{Q:Bool->Prop}:KG K .non H Q=Q false:=rfl
def zgz{Q:Bool->Prop}:KG K (.ref p) H Q=∃ k,KZ K (.ref p) H k/\Q k:=rfl
def zg0{Q:Bool->Prop}:KG K (.str s) H Q=∃ k,KZ K (.str s) H k/\Q k:=rfl
def G1(K:W.Frag)(ta:TE):TT:=λσ H Q=>ta σ H λx a=>KG K x a λk=>Q k a
def zg1:G1 K ta=p8 K ta:=by funext σ H Q;simp only[G1,zgv]
def zg2:G1 K ta σ H QB=ta σ H λx a=>KG K x a λk=>QB k a:=rfl
def pTr(h:PT X e (p8 K ta)):PT X e (G1 K ta):=zg1 ▸ h
def NS(C:Int->Int->Prop)(g:Int->Int->V):R2:=λx y H Q=>G0 x λi=>G0 y λj=>C i j/\Q (g i j) H
def sD{C:Int->Int->Prop}{g:Int->Int->V}:NS C g=rI C g:=by funext x y H Q;simp only[NS,rI,QH];simp
def T5(g:Int->Int->V):R2:=λx y H Q=>G0 x λi=>G0 y λj=>Q (g i j) H
def zg4{g:Int->Int->V}:T5 g=J0 g:=by funext x y H Q;simp only[T5,J0,QH];simp
def T6(g:Int->V):V->Hp->VK->Prop:=λx H Q=>G0 x λi=>Q (g i) H
def zg5{g:Int->V}:T6 g=rU g:=by funext x H Q;simp only[T6,rU,QH]
abbrev T7:R2:=T5 λi j=>.int<|i-j
abbrev DD:R2:=NS (λ_ j=>0<j) λi j=>.int<|i%j
abbrev DH:R2:=NS nF λi j=>.int<|i/j
abbrev rPw:R2:=NS Ug λi j=>.int<|i^j.toNat
abbrev NT:V->Hp->VK->Prop:=T6 λi=>.int (-i)
def zg7{C:Int->Int->Prop}{g:Int->Int->V}:NS C g (.int x) (.int y) H Q=(C x y/\Q (g x y) H):=rfl
def zg8{g:Int->Int->V}:T5 g (.int x) (.int y) H Q=Q (g x y) H:=rfl
def zg9{g:Int->V}:T6 g (.int x) H Q=Q (g x) H:=rfl
def zha:CC X (jd .Sub) T7:=by rw[T7,zg4];exact Uj
def zhb:CC X (jd .Mod) DD:=by rw[DD,sD];exact Um
def zhc:CC X (jd .FloorDiv) DH:=by rw[DH,sD];exact Ul
def zhd:SO X (unaryOp .USub) NT:=by rw[NT,zg5];exact Uq
def rB(K:W.Frag)(x y:V)(H:Hp)(R:uC):Prop:=match x,y with
 |.int i,.int j=>R (decide<|i=j) H
 |.str i,.str j=>R (decide<|i=j) H
 |.bl i,.bl j=>R (decide<|i=j) H
 |.non,.int _=>R false H
 |.int _,.non=>R false H
 |.non,.non=>R true H
 |x,y=>rD K x y H R
def CK(K:W.Frag):R2:=λx y H Q=>rB K x y H λb=>Q<|.bl b
def DI(K:W.Frag):R2:=λx y H Q=>rB K x y H λb=>Q<|.bl<|!b
def zhe:CK K (.int x) (.int y) H Q=Q (.bl<|decide<|x=y) H:=rfl
def zhf:CK K (.str s) (.str s') H Q=Q (.bl<|decide<|s=s') H:=rfl
def zhg:CK K (.bl b) (.bl b') H Q=Q (.bl<|decide<|b=b') H:=rfl
def zhh:CK K .non (.int x) H Q=Q (.bl false) H:=rfl
def zhi:CK K (.int x) .non H Q=Q (.bl false) H:=rfl
def zhj:CK K .non .non H Q=Q (.bl true) H:=rfl
def zhk:CK K (.ref p) (.ref q) H Q=NN K (.ref p) (.ref q) H Q:=rfl
def zhl:CK K (.ref p) .non H Q=NN K (.ref p) .non H Q:=rfl
def zhm:CK K .non (.ref p) H Q=NN K .non (.ref p) H Q:=rfl
def zhn:CK K (.str s) .non H Q=NN K (.str s) .non H Q:=rfl
def zho:CK K .non (.str s) H Q=NN K .non (.str s) H Q:=rfl
def zhp:DI K (.int x) (.int y) H Q=Q (.bl<|!decide (x=y)) H:=rfl
def zhq:DI K (.str s) (.str s') H Q=Q (.bl<|!decide (s=s')) H:=rfl
def zhr:DI K (.bl b) (.bl b') H Q=Q (.bl<|!decide (b=b')) H:=rfl
def zhs:DI K .non (.int x) H Q=Q (.bl true) H:=rfl
def zht:DI K (.int x) .non H Q=Q (.bl true) H:=rfl
def zhu:DI K .non .non H Q=Q (.bl false) H:=rfl
def zhv:DI K (.ref p) (.ref q) H Q=LA K (.ref p) (.ref q) H Q:=rfl
def zhw:DI K (.ref p) .non H Q=LA K (.ref p) .non H Q:=rfl
def zhx:DI K .non (.ref p) H Q=LA K .non (.ref p) H Q:=rfl
def nC{p q:Addr}(h:LA K (.ref p) (.ref q) H Q):DI K (.ref p) (.ref q) H Q:=h
def sE(d:X.A.units+64<cLine):CC X (dz .Eq) (CK X.K):=by
 intro j s σ H x y v u Q I a c h;unfold CK rB at h;split at h;let[t,rfl]:=a;let[w,rfl]:=c;exact eq_int<|GH I h rfl;let[t,rfl]:=a;let[w,rfl]:=c;exact eq_str<|GH I h rfl;cases a;cases c;exact eq_bool<|GH I h rfl;cases a;let[t,rfl]:=c;exact PySem.EqNone.eq_none_int<|GH I h rfl;cases c;let[t,rfl]:=a;exact PySem.EqNone.eq_int_none<|GH I h rfl;cases a;cases c;exact PySem.EqNone.eq_none_none<|GH I h rfl;exact zaq d j s σ H _ _ v u Q I a c h
def sF(d:X.A.units+64<cLine):CC X (dz .NotEq) (DI X.K):=by
 intro j s σ H x y v u Q I a c h;unfold DI rB at h;split at h;let[t,rfl]:=a;let[w,rfl]:=c;exact ne_int<|GH I h rfl;let[t,rfl]:=a;let[w,rfl]:=c;exact ne_str<|GH I h rfl;cases a;cases c;exact ne_bool<|GH I h rfl;cases a;let[t,rfl]:=c;exact PySem.EqNone.ne_none_int<|GH I h rfl;cases c;let[t,rfl]:=a;exact PySem.EqNone.ne_int_none<|GH I h rfl;cases a;cases c;exact PySem.EqNone.ne_none_none<|GH I h rfl;exact zar d j s σ H _ _ v u Q I a c h
def HM:R2:=λx y H Q=>match y with
 |.non=>Q (.bl<|decide<|x=.non) H
 |_=>False
def FY:R2:=λx y H Q=>match y with
 |.non=>Q (.bl<|!decide (x=.non)) H
 |_=>False
def zhy:HM v .non H Q=Q (.bl<|decide<|v=.non) H:=rfl
def zhz:FY v .non H Q=Q (.bl<|!decide (v=.non)) H:=rfl
def zh0:HM=p5:=by funext x y H Q;cases y<;>simp[HM,p5]
def zh1:FY=p6:=by funext x y H Q;cases y<;>simp[FY,p6]
def zh2:CC X (dz .Is) HM:=zh0 ▸ Uy
def zh3:CC X (dz .IsNot) FY:=zh1 ▸ Uz
def DQ(K:W.Frag):cF->Hp->VK->Prop:=λxs H Q=>FO xs λx=>∃ n,SQ K x H n/\Q (.int n) H
def zh4:DQ K=XN K:=by funext xs H Q;simp only[DQ,XN,NR];simp
def zh5:DQ K vs H Q=FO vs λx=>∃ n:Nat,SQ K x H n/\Q (.int n) H:=rfl
def zh6:EG X (.builtin "len") (DQ X.K):=zh4 ▸ za8
def LF(K:W.Frag):cF->Hp->VK->Prop:=λxs H Q=>FO xs λx=>CS x λp=>∃ ys,(SqL K H p ys\/SqT K H p ys)/\∀ l,H l=none->Q (.ref l) (upd H l<|.lst ys)
def zh7:LF K=qH K:=by
 funext xs H Q;simp only[LF,NR,GO];exact propext {(by intro[z,e,p,a,ys,h];exact{p,ys,a ▸ e,h}),(by intro[p,ys,e,h];exact⟨_,e,p,rfl,ys,h⟩)}
def zh8:LF K vs H Q=FO vs λx=>CS x λp=>∃ ys,(SqL K H p ys\/SqT K H p ys)/\∀ l,H l=none->Q (.ref l) (upd H l<|.lst ys):=rfl
def zh9:EG X (.type "list") (LF X.K):=zh7 ▸ za9
def LG(K:W.Frag):cF->Hp->VK->Prop:=λxs H Q=>FO xs λx=>CS x λp=>∃ ys,((SqL K H p ys/\∀ l,H l=none->Q (.ref l) (upd H l<|.tup ys))\/(SqT K H p ys/\Q (.ref p) H))
def zia:LG K=qI K:=by
 funext xs H Q;simp only[LG,NR,GO];exact propext {(by intro[z,e,p,a,ys,h];exact{p,ys,a ▸ e,h}),(by intro[p,ys,e,h];exact⟨_,e,p,rfl,ys,h⟩)}
def zib:LG K vs H Q=FO vs λx=>CS x λp=>∃ ys,((SqL K H p ys/\∀ l,H l=none->Q (.ref l) (upd H l<|.tup ys))\/(SqT K H p ys/\Q (.ref p) H)):=rfl
def zic:EG X (.type "tuple") (LG X.K):=zia ▸ zba
def JE(td ty:TE):TE:=λσ H Q=>td σ H λx d=>ty σ d λy c=>CS x λa=>∃ v,DGet c a y (some v)/\Q v c
def zid:JE td ty=PK td ty:=by funext σ H Q;simp only[JE,PK,GO];simp
def zie:JE td ty σ H Q=td σ H λx d=>ty σ d λy c=>CS x λa=>∃ v,DGet c a y (some v)/\Q v c:=rfl
def pDg(h:PE X e (PK td ty)):PE X e (JE td ty):=zid ▸ h
def JF(ty td:TE):TE:=λσ H Q=>ty σ H λy d=>td σ d λx c=>CS x λa=>∃ o,DGet c a y o/\Q (.bl o.isSome) c
def zig:JF ty td=PL ty td:=by funext σ H Q;simp only[JF,PL,GO];simp
def zih:JF ty td σ H Q=ty σ H λy d=>td σ d λx c=>CS x λa=>∃ o,DGet c a y o/\Q (.bl o.isSome) c:=rfl
def pDi{op:CmpOp}{a b:Expr}(h:PC X op a b (PL ty td)):PC X op a b (JF ty td):=zig ▸ h
def HN(ty td:TE):TE:=λσ H Q=>ty σ H λy d=>td σ d λx c=>CS x λa=>∃ o,DGet c a y o/\Q (.bl<|!o.isSome) c
def zij:HN ty td=PN ty td:=by funext σ H Q;simp only[HN,PN,GO];simp
def zik:HN ty td σ H Q=ty σ H λy d=>td σ d λx c=>CS x λa=>∃ o,DGet c a y o/\Q (.bl<|!o.isSome) c:=rfl
def pDn{op:CmpOp}{a b:Expr}(h:PC X op a b (PN ty td)):PC X op a b (HN ty td):=zij ▸ h
def FZ(td ty tv:TE):TS:=λD σ H=>tv σ H λv d=>td σ d λx j=>ty σ j λy l=>CS x λa=>∃ c,DPut l a y v c/\D.nx σ c
def zim:FZ td ty tv=PQ td ty tv:=by funext D σ H;simp only[FZ,PQ,GO];simp
def zin:FZ td ty tv D σ H=tv σ H λv d=>td σ d λx j=>ty σ j λy l=>CS x λa=>∃ c,DPut l a y v c/\D.nx σ c:=rfl
def pDp(h:PS X st (PQ td ty tv)):PS X st (FZ td ty tv):=zim ▸ h
def NU(td ty:TE):TE:=λσ H Q=>td σ H λx c=>CS x λa=>NL c a/\ty σ c λy d=>∃ o,DGet d a y o/\Q (o.getD .non) d
def ziq:NU td ty=S5 td ty:=by funext σ H Q;simp only[NU,S5,GO]
def zir:NU td ty σ H Q=td σ H λx c=>CS x λa=>NL c a/\ty σ c λy d=>∃ o,DGet d a y o/\Q (o.getD .non) d:=rfl
def pD1(h:PE X e (S5 td ty)):PE X e (NU td ty):=ziq ▸ h
def DR(ta:TA):TI:=λσ H R=>ta σ H λvs a=>FO vs λx=>G0 x λj=> -(2^62)<=j/\j<2^62/\R (FM 0 j.toNat) a
def zit:DR as=SN as:=by
 funext σ H R;simp only[DR,NR,QH];congr 1;funext vs c;exact propext {(by intro[z,e,j,a,h];exact{j,a ▸ e,h}),(by intro[j,e,h];exact⟨_,e,j,rfl,h⟩)}
def pR1(h:PI X tg it (SN as)):PI X tg it (DR as):=zit ▸ h
def ziv:B0 (DR as) g tt te k A6 σ H Q=as σ H λvs a=>FO vs λx=>G0 x λj=> -(2^62)<=j/\j<2^62/\EI (FM 0 j.toNat) g tt te k A6 σ a Q:=rfl
def ziw:C4 (DR as) g s1 D σ H=as σ H λvs a=>FO vs λx=>G0 x λj=> -(2^62)<=j/\j<2^62/\GL (FM 0 j.toNat) g s1 D σ a:=rfl
def CI(K:W.Frag)(tl:TE):TI:=λσ H R=>tl σ H λx c=>CS x λa=>(((∃ xs,SqL K c a xs)/\R (GG K a) c)\/((∃ xs,SqT K c a xs)/\R (IX K a) c))
def zix:CI K tl=PY K tl:=by funext σ H R;simp only[CI,PY,GO]
def pSq(h:PI X tg it (PY K tl)):PI X tg it (CI K tl):=zix ▸ h
def ziz:B0 (CI K tl) g tt te k A6 σ H Q=tl σ H λx c=>CS x λa=>(((∃ xs,SqL K c a xs)/\EI (GG K a) g tt te k A6 σ c Q)\/((∃ xs,SqT K c a xs)/\EI (IX K a) g tt te k A6 σ c Q)):=rfl
def zi0:C4 (CI K tl) g s1 D σ H=tl σ H λx c=>CS x λa=>(((∃ xs,SqL K c a xs)/\GL (GG K a) g s1 D σ c)\/((∃ xs,SqT K c a xs)/\GL (IX K a) g s1 D σ c)):=rfl
def FQ(K:W.Frag)(ta:TA):TI:=λσ H R=>ta σ H λvs c=>FO vs λx=>CS x λa=>(∃ xs,SqL K c a xs)/\R (LD K a) c
def zi1:FQ K as=TQ K as:=by
 funext σ H R;simp only[FQ,NR,GO];congr 1;funext vs c;exact propext {(by intro[z,e,j,a,h];exact{j,a ▸ e,h}),(by intro[j,e,h];exact⟨_,e,j,rfl,h⟩)}
def pEn(h:PI X tg it (TQ K as)):PI X tg it (FQ K as):=zi1 ▸ h
def zi3:B0 (FQ K as) g tt te k A6 σ H Q=as σ H λvs c=>FO vs λx=>CS x λa=>(∃ xs,SqL K c a xs)/\EI (LD K a) g tt te k A6 σ c Q:=rfl
def zi4:C4 (FQ K as) g s1 D σ H=as σ H λvs c=>FO vs λx=>CS x λa=>(∃ xs,SqL K c a xs)/\GL (LD K a) g s1 D σ c:=rfl
def JG(ta:TE):TO:=λσ H Q=>ta σ H λx a=>G0 x λi=>Q (some i) a
def zi5:JG ta=O8 ta:=by funext σ H Q;simp only[JG,O8,QH]
def zi6:JG ta σ H QO=ta σ H λx a=>G0 x λi=>QO (some i) a:=rfl
def pPt(h:PO X o (O8 ta)):PO X o (JG ta):=zi5 ▸ h
def LH(K:W.Frag)(n:Nat)(t:HE):TG:=λv σ H Q=>CS v λa=>∃ xs,SqT K H a xs/\xs.length=n/\t xs σ H Q
def zi8:LH K k gs=FL K k gs:=by funext v σ H Q;simp only[LH,FL,GO];simp
def zi9:LH K k gs v σ H QG=CS v λa=>∃ xs,SqT K H a xs/\xs.length=k/\gs xs σ H QG:=rfl
def pTp(h:PG X e (FL K k gs)):PG X e (LH K k gs):=zi8 ▸ h
def LJ:HE:=λvs σ H Q=>QF vs<|Q σ H
def zjb:LJ=FJ:=by funext vs σ H Q;simp only[LJ,FJ,zfv]
def zjc:LJ vs σ H QG=QF vs (QG σ H):=rfl
def pGn(h:IW X es FJ):IW X es LJ:=zjb ▸ h
def IJ(g:TG)(gs:HE):HE:=λvs σ H Q=>QE vs λv r=>g v σ H λa c=>gs r a c Q
def zje:IJ g gs=DP g gs:=by funext vs σ H Q;simp only[IJ,DP,zfu]
def zjf:IJ g gs vs σ H QG=QE vs λv r=>g v σ H λa c=>gs r a c QG:=rfl
def pGc(h:IW X es (DP g gs)):IW X es (IJ g gs):=zje ▸ h
def FR:V->cF->Hp->VK->Prop:=λx vs H Q=>CS x λl=>FO vs λy=>∃ xs,H l=some (.lst xs)/\xs.length<sizeLine/\Q .non (upd H l<|.lst<|xs++[y])
def zjh:FR=o9:=by
 funext x vs H Q;simp only[FR,NR,GO];exact propext {(by intro[l,e,y,a,xs,h];exact⟨l,xs,y,e,a,h⟩),(by intro[l,xs,y,e,a,h];exact⟨l,e,y,a,xs,h⟩)}
def zji:SV X "list.append" FR:=zjh ▸ Yj
end
section
variable{α :Sort _}{p: α ->Prop}{x: α}{b c d:Prop}
def qF:(∃ _: α,False)=False:=eq_false exists_false
def qD[Decidable b]:(decide b=false)=¬ b:=propext decide_eq_false_iff_not
def qR:(∃ x,p x/\b)=((∃ x,p x)/\b):=propext exists_and_right
def qL:(∃ x,b/\p x)=(b/\∃ x,p x):=propext exists_and_left
def q1:(∃ y,x=y/\p y)=p x:=propext exists_eq_left'
def q2:(∃ y,y=x/\p y)=p x:=propext exists_eq_left
def q3:(∃ y,x=y)=True:=eq_true exists_eq'
def q4:(∃ y,y=x)=True:=eq_true exists_eq
def qA:((b/\c)/\d)=(b/\c/\d):=propext and_assoc
def qC[Nonempty α]:(α ->b)=b:=propext<|forall_const α
end
open PySem PySem.Spec PyProof.Rows PySem.Builtin PySem.Builtin.Str
section
variable{X:Cx}
theorem sG:∀ (l:List (Str × Tok)),Vals ((l.map (·.1)).map V.str) (strValues l)
 | []=>.nil
 |(x,t)::r=>.cons ⟨t,rfl⟩ (sG r)
def Inv.pushL{a:yA}{c:St}{H:Hp}{s:π}{Q:VK}(I:Inv X a c H s){xs:cF}{us:uD}{t':Nat}(r:Vals xs us)(hz:xs.length<=sizeLine)(q:∀ l,H l=none->Q (.ref l) (upd H l<|.lst xs)):EP X a c Q (.ref s.heap.objs.size) { s with heap:=s.heap.push { cls:=.type "list",data:=.seq us.toArray },toks:=t' }:=by
 refine{.ref s.heap.objs.size,_,I.laid (t':=t') (λb u e=>ν _ e) (ο _) (show ObjOk X.prog X.w _ _ _ (.lst xs)from{hz,us,0,r,ae _ rfl}),rfl,q _<|I.hok.fresh<|ο _}
def Inv.pushT{a:yA}{c:St}{H:Hp}{s:π}{Q:VK}(I:Inv X a c H s){xs:cF}{us:uD}{t':Nat}(r:Vals xs us)(hz:xs.length<=sizeLine)(q:∀ l,H l=none->Q (.ref l) (upd H l<|.tup xs)):EP X a c Q (.ref s.heap.objs.size) { s with heap:=s.heap.push { cls:=.type "tuple",data:=.seq us.toArray },toks:=t' }:=by
 refine{.ref s.heap.objs.size,_,I.laid (t':=t') (λb u e=>ν _ e) (ο _) (show ObjOk X.prog X.w _ _ _ (.tup xs)from{hz,us,r,{_,ae _ rfl,rfl,0,rfl}}),rfl,q _<|I.hok.fresh<|ο _}
def sI:V->cF->Hp->VK->Prop:=λx vs H Q=>∃ z y:Str,x=.str z/\vs=[.str y]/\(y.length==0)=false/\z.length<=1000/\∀ t,H t=none->Q (.ref t) (upd H t<|.tup [.str (Txt.partition z y).1,.str (Txt.partition z y).2.1,.str (Txt.partition z y).2.2])
def zjj:MG X "str.partition" sI:=by
 intro g s j H x vs v us Q I a b h;let[z,y,rfl,rfl,c,hz,q]:=h;let[t,rfl]:=a;let[u,rfl,d]:=b.one;let[e,rfl]:=d;refine iu PySem.F.slot_str_partition (my _ _ _) PySem.F.entry_str_partition (PySem.F.args_str_partition_2 _ _) (meets_str_partition z y t e c (by rw[d_];omega)) ?_;revert q;unfold Txt.partition;cases occurrences z y 0 z.length 1 with
 |nil=>intro q;exact I.pushT (xs:=[.str _,.str _,.str _]) (.cons ⟨_,rfl⟩ (.cons ⟨_,rfl⟩ (.cons ⟨_,rfl⟩ .nil))) (show 3<=sizeLine by rw[d_];omega) q
 |cons i r=>intro q;exact I.pushT (xs:=[.str _,.str _,.str _]) (.cons ⟨_,rfl⟩ (.cons ⟨_,rfl⟩ (.cons ⟨_,rfl⟩ .nil))) (show 3<=sizeLine by rw[d_];omega) q
def YK:V->cF->Hp->VK->Prop:=λx vs H Q=>∃ z y:Str,x=.str z/\(y.length==0)=false/\z.length<=1000/\((vs=[.str y]/\∀ l,H l=none->Q (.ref l) (upd H l<|.lst<|(Txt.split z y).map V.str))\/∃ k:Nat,k<=100/\vs=[.str y,.int k]/\∀ l,H l=none->Q (.ref l) (upd H l<|.lst<|(Txt.splitMax z y k).map V.str))
def zjk:MG X "str.split" YK:=by
 intro n s o H x vs v us Q I p j h;let[z,y,rfl,c,hz,h]:=h;let[t,rfl]:=p
 have r:z.length+2<=sizeLine:=by rw[d_];omega
 have fin:∀ (l:List (Str × Tok)) (d:zD) (t':Nat),l.map (·.1)=d->d.length<=sizeLine->(∀ l,H l=none->Q (.ref l) (upd H l<|.lst<|d.map V.str))->EP X n o Q (.ref s.heap.objs.size) { s with heap:=s.heap.push { cls:=.type "list",data:=.seq (strValues l).toArray },toks:=t' }:=λl d t' e A q=>by
  subst e;exact I.pushL (sG l) (by rw[ε];exact A) q
 let[rfl,q]||[k,D,rfl,q]:=h
 ·let[u,rfl,g]:=j.one;let[u,rfl]:=g
  have b:(partsBetween z (occurrences z y 0 z.length<|z.length+1) y.length).length<=sizeLine:=by
   have B:=StrLaws.occ_length_le z y 0 z.length<|z.length+1;rw[Bu];omega
  revert q;unfold Txt.split;cases h1:(decide (z.length<y.length)||decide (strKind z<strKind y))
  ·cases hf:(occurrences z y 0 z.length<|z.length+1).isEmpty
   ·intro q;refine iu PySem.F.slot_str_split (my _ _ _) PySem.F.entry_str_split (PySem.F.args_str_split_2 _ _) (meets_str_split_sep z y t u h1 c hf (by omega) b) ?_
    show wants _ _ _ { s with toks:=_,heap:=s.heap.push { cls:=.type "list",data:=.seq (strsFrom s.toks<|partsBetween z (occurrences z y 0 z.length<|z.length+1) y.length).toArray } };rw[strsFrom_eq];exact fin (numbered s.toks _) _ _ (numbered_texts _ _) b q
   ·intro q;exact iu PySem.F.slot_str_split (my _ _ _) PySem.F.entry_str_split (PySem.F.args_str_split_2 _ _) (meets_str_split_not_found z y t u h1 c hf) (fin [(z,t)] _ s.toks rfl (show 1<=sizeLine by rw[d_];omega) q)
  ·intro q;exact iu PySem.F.slot_str_split (my _ _ _) PySem.F.entry_str_split (PySem.F.args_str_split_2 _ _) (meets_str_split_cannot_occur z y t u h1) (fin [(z,t)] _ s.toks rfl (show 1<=sizeLine by rw[d_];omega) q)
 ·let[u,u2,rfl,g,i]:=Vj j;let[u,rfl]:=g;let[w,rfl]:=i
  have a:(decide ((k:Int)< -(2^63:Int))||decide ((k:Int) ≥ 2^63))=false:=by
   simp only[fj,decide_eq_false_iff_not];omega
  have b:(partsBetween z (occurrences z y 0 z.length<|Ja z k) y.length).length<=sizeLine:=by
   have B:=StrLaws.occ_length_le_len z y 0 z.length<|Ja z k;rw[Bu];omega
  revert q;unfold Txt.splitMax;cases h1:(decide (z.length<y.length)||decide (strKind z<strKind y))
  ·cases hf:(occurrences z y 0 z.length<|Ja z k).isEmpty
   ·intro q;refine iu PySem.F.slot_str_split (my _ _ _) PySem.F.entry_str_split (PySem.F.args_str_split_3 _ _ _) (meets_str_split_sep_max z y k t u w a h1 c hf (by omega) b) ?_
    show wants _ _ _ { s with toks:=_,heap:=s.heap.push { cls:=.type "list",data:=.seq (strsFrom s.toks<|partsBetween z (occurrences z y 0 z.length<|Ja z k) y.length).toArray } };rw[strsFrom_eq];exact fin (numbered s.toks _) _ _ (numbered_texts _ _) b q
   ·intro q;exact iu PySem.F.slot_str_split (my _ _ _) PySem.F.entry_str_split (PySem.F.args_str_split_3 _ _ _) (meets_str_split_max_not_found z y k t u w a h1 c hf) (fin [(z,t)] _ s.toks rfl (show 1<=sizeLine by rw[d_];omega) q)
  ·intro q;exact iu PySem.F.slot_str_split (my _ _ _) PySem.F.entry_str_split (PySem.F.args_str_split_3 _ _ _) (meets_str_split_max_cannot_occur z y k t u w a h1) (fin [(z,t)] _ s.toks rfl (show 1<=sizeLine by rw[d_];omega) q)
def CF(i:Int):Str:=μ<|toString i
def MO(K:W.Frag):cF->Hp->VK->Prop:=λxs H Q=>∃ i:Int,xs=[.int i]/\0<=i/\i<1000000/\Q (.str<|CF i) H
def YL{i:Int}(h0:0<=i)(h1:i<1000000):i.natAbs.log2<1920:=by
 have h:i.natAbs<2^20:=by
  have:(2:Nat)^20=1048576:=by decide
  omega
 by_cases h2:i.natAbs=0
 ·rw[h2];decide
 ·have:=(Nat.log2_lt h2).mpr h;omega
def zjl:EG X (.type "str") (MO X.K):=by
 intro b s c H xs us Q I r h;let[i,rfl,h0,h1,q]:=h;let[u,rfl,a]:=GI r;let[t,rfl]:=a;exact PySem.P.str_of_int (YL h0 h1) {.str _,H,I.tok _,⟨_,rfl⟩,q}
def YM(K:W.Frag):cF->Hp->VK->Prop:=λxs H Q=>∃ (z:Str) (i:Int),xs=[.str z]/\z.length<=640/\intText? z=some i/\Q (.int i) H
def zjm:EG X (.type "int") (YM X.K):=by
 intro b s c H xs us Q I r h;let[z,i,rfl,h0,h1,q]:=h;let[u,rfl,a]:=GI r;let[t,rfl]:=a;exact W.KIN.call_text h1 h0 {.int _,H,I.tok _,⟨_,rfl⟩,q}
def YN(z:Str)(b c:TE):TE:=λa H Q=>b a H λx d=>∃ i:Int,x=.int i/\0<=i/\i<1000000/\c a d λy e=>∃ j:Int,y=.int j/\0<=j/\j<1000000/\Q (.str<|CF i++z++CF j) e
def MP{i:Int}(h0:0<=i)(h1:i<1000000):(CF i).length<=10:=W.KT.len_num h0 (by omega)
def zjn{z:Str}{b c:TE}{a:St}{H:Hp}{Q:VK}:YN z b c a H Q=(b a H λx d=>∃ i:Int,x=.int i/\0<=i/\i<1000000/\c a d λy e=>∃ j:Int,y=.int j/\0<=j/\j<1000000/\Q (.str<|CF i++z++CF j) e):=rfl
def zjo{a b:Expr}{z:Str}{d g:TE}{l r v pos:Pos}{j:Nat}(w:PE X a d)(A:PE X b g)(hz:z.length<=100:=by decide +kernel):PE X (.JoinedStr [.FormattedValue a (-1) none l,.Constant (.str z) j r,.FormattedValue b (-1) none v] pos) (YN z d g):=by
 intro n s o H Q I h;refine wpAny_JoinedStr ?_
 show wpAny _ _ (eval (.FormattedValue a (-1) none l) X.env) _ _ s;refine wy<|AO (w n s o H _ I h) λu T c=>?_;let[x,B,D,E,i,ex,h0,h1,q]:=c;subst ex;let[t,rfl]:=E;refine zo (YL h0 h1) {_,_,rfl,?_,?_}
 ·have:=MP h0 h1
  show(ux++CF i).length<=_;rw[sr,d_]
  show 0+_<=_;omega
 refine Cu {_,_,rfl,?_,?_}
 ·have:=MP h0 h1
  show(ux++CF i++z).length<=_;rw[sr,sr,d_]
  show 0+_+_<=_;omega
 refine wy<|AO (A n _ o B _ (D.tok _) q) λu U c=>?_;let[y,J,L,M,k,N,k0,k1,q2]:=c;subst N;let[Y,rfl]:=M
 have p:(ux++CF i++z++CF k).length<=sizeLine:=by
  have:=MP h0 h1
  have:=MP k0 k1;rw[sr,sr,sr,d_]
  show 0+_+_+_<=_;omega
 have e:ux++CF i++z++CF k=CF i++z++CF k:=by
  have O:ux++CF i=CF i:=by
   show Str.mk (#[]++(CF i).cps)=_;rw[Array.empty_append]
  rw[O]
 refine zo (YL k0 k1) {_,_,rfl,p,?_};refine{p,.str _,J,L.tok _,⟨_,rfl⟩,?_};rw[<-e]at q2;exact q2
abbrev _root_.wB:=List (Str × Int)
def NV(D:wB):List (Str × KTD.Dat):=D.map λp=>(p.1,.flat<|.int p.2)
def T8(o:Obj)(D:wB):Bool:=o.cls == .type "dict" && o.dict.isNone&&o.slots.isEmpty&&(match o.data with|.dict a _=>KTD.rowsLook (KTD.datLooks λ_=>none) a.toList (NV D)|_=>false)
def TabK(K:W.Frag)(p:Addr)(D:wB):Prop:=(p==f_)=false/\∃ o,K.lookup p=some o/\T8 o D=true
set_option tactic.hygienic true in
def TabK.text{K:W.Frag}{p:Addr}{D:wB}{h:Heap}(T:TabK K p D)(X:K.In h):KTD.Here h h p (NV D):=by
 let[h0,o,c,b]:=T;refine{?_,λ_ _ e=>e};simp only[T8,bx]at b;let[[[d,g],i],a]:=b;split at a
 ·rename_i j l hd;exact{h0,o,j,l,X _ _ c,{beq_iff_eq.mp d,by simpa using g,by simpa using i},hd,KTD.rows_of_look (KTD.dat_of_looks (h:=h) (get:=λ_=>none) λ_ _ e=>by cases e) a}
 ·cases a
def T9(o:Obj)(a:zD):Bool:=o.cls == .type "tuple" && (match o.data with|.seq vs _=>KTD.strsLook vs.toList a&&decide (vs.size<=1000)|_=>false)
set_option tactic.hygienic true in
def sJ{K:W.Frag}{p:Addr}{o:Obj}{b:zD}(e:K.lookup p=some o)(c:T9 o b=true)(H:Hp):SqT K H p (b.map V.str):=by
 simp only[T9,bx]at c;let[d,a]:=c;split at a
 ·rename_i vs n hd;simp only[bx,decide_eq_true_eq]at a;exact .inr {o,vs,n,e,beq_iff_eq.mp d,hd,by rw[d_];omega,X7<|KTD.strs_of_look a.1}
 ·cases a
def zjp{K:W.Frag}{p:Addr}{o:Obj}{D:wB}(e:K.lookup p=some o)(a:T8 o D=true)(h0:(p==f_)=false):TabK K p D:=⟨h0,o,e,a⟩
def HP(D:wB)(k:Str):Option Int:=(D.find? λp=>decide<|p.1=k).map (·.2)
theorem sK{k:Str}:∀ {D:wB},KTD.datumAt k (NV D)=(HP D k).map λi=>KTD.Dat.flat (.int i)
 | []=>rfl
 |(x,i)::D=>by
  show(if decide (k=x)=true then _ else KTD.datumAt k (NV D))=_;unfold HP;rw[vq];by_cases h:k=x
  ·subst h;simp
  ·rw[if_neg (by simpa using h),show decide ((x,i).1=k)=false from decide_eq_false λe=>h e.symm];exact sK
def sL{k:Str}{D:wB}:KTD.inKeys k (NV D)=(HP D k).isSome:=by
 rw[<-KTD.isSome_datumAt,sK,uh]
theorem sM{a:Heap}{k:Str}{P:Value->Prop}{i:Int}(q:∀ t,P<|.int i t):∀ {D:wB},HP D k=some i->KTD.EachL a k P (NV D)
 | [],e=>by cases e
 |(x,j)::D,e=>by
  unfold HP at e;rw[vq]at e;by_cases h:k=x
  ·subst h;rw[show decide ((k,j).1=k)=true from decide_eq_true rfl]at e;cases e;exact KTD.eachL_hit rfl q
  ·rw[show decide ((x,j).1=k)=false from decide_eq_false λz=>h z.symm]at e;exact KTD.eachL_miss h<|sM q e
section
variable{x:Str}{p:Addr}{D:wB}{i:Expr}{ty:TE}{pos pos':Pos}
def YO(D:wB)(ty:TE):TE:=λa H Q=>ty a H λy b=>∃ k,y=.str k/\Q (.bl<|!(HP D k).isSome) b
def YQ(D:wB)(ty:TE):TE:=λa H Q=>ty a H λy b=>∃ k n,y=.str k/\HP D k=some n/\Q (.int n) b
def zjq{a:St}{H:Hp}{Q:VK}:YO D ty a H Q=(ty a H λy b=>∃ k,y=.str k/\Q (.bl<|!(HP D k).isSome) b):=rfl
def zjr{a:St}{H:Hp}{Q:VK}:YQ D ty a H Q=(ty a H λy b=>∃ k n,y=.str k/\HP D k=some n/\Q (.int n) b):=rfl
def zjs(g:GV X.mg x (.ref p))(j:Gl X x)(T:TabK X.K p D)(l:PE X i ty)(hd:(x ==("__debug__":Str))=false:=by decide):PC X .NotIn i (.Name x pos) (YO D ty):=by
 intro b s c H Q I h;refine AO (l b s c H _ I h) λiv n ⟨y,d,o,r,k,w,q⟩=>AO ((K9 g j hd:PE X (.Name x pos) _) b n c d (λv A=>v=.ref p/\A=d) o ⟨rfl,rfl⟩) λu L a=>?_;let[z,z,e,B,E,J]:=a;subst E J w;obtain rfl:u=fh p:=B;let[t,rfl]:=r;refine KTD.notin_text (T.text e.kIn) {.bl _,_,e.tok _,rfl,?_};rw[sL];exact q
def zjt(g:GV X.mg x (.ref p))(l:Gl X x)(T:TabK X.K p D)(o:PE X i ty)(hs:oO i)(hd:(x ==("__debug__":Str))=false:=by decide):PE X (.Subscript (.Name x pos) i pos') (YQ D ty):=by
 intro c s d H Q I h;refine C_<|AO ((K9 g l hd:PE X (.Name x pos) _) c s d H (λv b=>v=.ref p/\b=H) I ⟨rfl,rfl⟩) λu r a=>?_;let[z,z,w,A,B,E]:=a;subst B E;obtain rfl:u=fh p:=A;refine AO (o c r d _ _ w h) λiv M a=>?_;let[y,b,e,J,k,n,L,j,q]:=a;subst L;let[t,rfl]:=J;exact KTD.item_text (T.text e.kIn) (by rw[sL,j];rfl) (sM (λt'=>{.int _,b,e.tok _,⟨_,rfl⟩,q}) j) (hs _ _)
end
end
end L2
namespace L2
section
variable{X:Cx}
def sN:R2:=λx y H Q=>CS x λa=>CS y λb=>∃ kvs,H a=some (.dK kvs)/\H b=some (.dK [])/\Q (.bl kvs.isEmpty) H
def zju(i:X.A.units+64<cLine):CC X (dz .Eq) sN:=by
 intro o s p H x y v u Q I j l h;cases x with
 | ref a =>
  cases y with
  | ref b =>
   let[kvs,h1,h2,q]:=h;cases j;cases l;let[z,hd,xs,rel,dd]:=PJ I.hok h1;let[z,d,ys,c,g]:=PJ I.hok h2
   have n:ys=[]:=cu.mp c.length.symm;subst n;refine W.keq_eq (r:=true) hd d dd g (cf (uy _ _) i) (λe=>?_) ?_
   ·rw[cu.mp e];exact .nil
   ·refine{.bl kvs.isEmpty,H,I,?_,q}
    have:kvs.isEmpty=(xs.length ==([]:List (AM × Value)).length&&true):=by
     have:=rel.length;cases kvs<;>cases xs<;>simp_all
    rw[this];rfl
  |_=>exact h.elim
 |_=>exact h.elim
end
open PySem PySem.Spec PyProof.Rows PySem.Builtin PySem.Builtin.Str
def CY:xE->List (xE)
 | []=>[[]]
 |c::r=>if c=32 then []::CY r else match CY r with
  |w::ws=>(c::w)::ws
  | []=>[[c]]
def JH:List (xE)->xE
 | []=>[]
 | [p]=>p
 |p::q::r=>p++32::JH (q::r)
theorem QJ{r:xE}:∀ {p:xE},32∉p->CY (p++32::r)=p::CY r
 | [],_=>rfl
 |c::p,h=>by
  have a:c≠32:=λe=>h<|e ▸ χ;rw[p_,CY,if_neg a,QJ λz=>h<|τ _ z]
theorem NW:∀ {p:xE},32∉p->CY p=[p]
 | [],_=>rfl
 |c::p,h=>by
  have a:c≠32:=λe=>h<|e ▸ χ;unfold CY;rw[if_neg a,NW λz=>h<|τ _ z]
theorem sO:∀ {ps:List (xE)},ps≠[]->(∀ p∈ps,32∉p)->CY (JH ps)=ps
 | [],h,_=>(h rfl).elim
 | [p],_,h=>NW<|h p χ
 |p::q::r,_,h=>by
  show CY (p++32::JH (q::r))=_;rw[QJ (h p χ),sO (by simp) λx a=>h x<|τ _ a]
abbrev C1(l:xE):Str:=⟨l.toArray⟩
theorem YR:∀ (ps:zD),(Gf {#[32]} ps).cps.toList=JH (ps.map (·.cps.toList))
 | []=>rfl
 | [p]=>rfl
 |p::q::r=>by
  show((p++({#[32]}:Str)++Gf {#[32]} (q::r)).cps).toList=p.cps.toList++32::JH ((q::r).map (·.cps.toList));rw[<-YR (q::r)]
  show((p.cps++ #[32])++(Gf {#[32]} (q::r)).cps).toList=_;simp
def YS(x:Str):C1 x.cps.toList=x:=by cases x;rfl
def YT:(" ":Str)={#[32]}:=by decide +kernel
def sP(x:Str):Txt.split x {#[32]}≠[]:=λe=>by have:=split_pos x {#[32]};rw[e]at this;simp at this
def YU(x:Str):Txt.split x " "=(CY x.cps.toList).map C1:=by
 rw[YT]
 have h1:=StrLaws.join_split x {#[32]}
 have h2:=StrLaws.split_free x 32
 have h3:=sP x;revert h1 h2 h3;generalize Txt.split x {#[32]}=ps;intro h1 h2 h3
 have e:x.cps.toList=JH (ps.map (·.cps.toList)):=by rw[<-YR,h1]
 rw[e,sO (by simpa using h3) λp a=>?_,lb]
 ·refine(Mt _).symm.trans (vx λp z=>(YS p).symm)
 ·let[q,b,rfl]:=ay.mp a;exact h2 q b
def UA:List (xE)->List (xE)
 |a::b::c::r=>[a,b,JH (c::r)]
 |ws=>ws
theorem sQ(x y:Str)(n b:Nat)(A:Array Nat):∀ (l:xE) (f:Nat),b<=A.size->(forIn l (A,f) (ie x y n b)).run.fst=A
 | [],_,_=>rfl
 |a::l,f,h=>by
  rw[jb];unfold ie;rw[if_neg λz=>by have:=z.1.1.1;simp only at this;omega];exact sQ x y n b A l f h
theorem YV(x y:Str)(n b:Nat):∀ (l:xE) (A:Array Nat) (f:Nat),∃ r:xE,(forIn l (A,f) (ie x y n b)).run.fst.toList=A.toList++r
 | [],A,_=>{[],(ja _).symm}
 |a::l,A,f=>by
  rw[jb];unfold ie;split
  ·let[r,e]:=YV x y n b l (A.push a) (a+y.length);exact{a::r,e.trans (by simp)}
  ·exact YV x y n b l A f
theorem YW(x y:Str)(n big b:Nat)(g:b<=big):∀ (l:xE) (A:Array Nat) (f:Nat),A.size+l.length<=big->A.size<=b ->
  ∃ r:xE,(forIn l (A,f) (ie x y n big)).run.fst.toList=A.toList++r/\(forIn l (A,f) (ie x y n b)).run.fst.toList=A.toList++r.take (b-A.size)
 | [],A,_,_,_=>{[],by simp}
 | a::l,A,f,h1,h2=>by
  rw[b_]at h1;by_cases c:(f<=a/\a+y.length<=n)/\subAt x y a=true
  ·have i:(((A,f).fst.size<big/\(A,f).snd<=a)/\a+y.length<=n)/\subAt x y a=true:={{{by show A.size<big;omega,c.1.1},c.1.2},c.2}
   by_cases j:A.size<b
   ·have o:(((A,f).fst.size<b/\(A,f).snd<=a)/\a+y.length<=n)/\subAt x y a=true:={{⟨j,c.1.1⟩,c.1.2},c.2}
    let[r,d,e]:=YW x y n big b g l (A.push a) (a+y.length) (by rw[zg];omega) (by rw[zg];omega);refine{a::r,?_,?_}
    ·rw[jb]
     conv=>lhs;unfold ie
     rw[if_pos i];exact d.trans (by simp)
    ·rw[jb]
     conv=>lhs;unfold ie
     rw[if_pos o];refine e.trans ?_;rw[zg,show b-A.size=(b-(A.size+1))+1 by omega,List.take_succ_cons];simp
   ·let[r,d]:=YV x y n big (a::l) A f;refine{r,d,?_};rw[sQ x y n b A (a::l) f (by omega),show b-A.size=0 by omega];simp
  ·let[r,d,e]:=YW x y n big b g l A f (by omega) h2;refine{r,?_,?_}
   ·rw[jb]
    conv=>lhs;unfold ie
    rw[if_neg λz=>c {⟨z.1.1.2,z.1.2⟩,z.2}];exact d
   ·rw[jb]
    conv=>lhs;unfold ie
    rw[if_neg λz=>c {⟨z.1.1.2,z.1.2⟩,z.2}];exact e
def zjv(x y:Str)(a:Nat)(h:a<=x.length+1):occurrences x y 0 x.length a=(occurrences x y 0 x.length<|x.length+1).take a:=by
 rw[Ko,Ko];let[r,b,c]:=YW x y x.length (x.length+1) a h (Io 0<|x.length+1-0) #[] 0 (by simp) (bh _);rw[b,c];simp
def zjw(x:Str):Txt.splitMax x " " 2=(UA<|CY x.cps.toList).map C1:=by
 have hs:=YU x;rw[YT]at hs ⊢;unfold Txt.split at hs;unfold Txt.splitMax;by_cases h1:(decide (x.length<({#[32]}:Str).length)||decide (strKind x<strKind ⟨#[32]⟩))=true
 ·rw[if_pos h1]at hs ⊢;cases d:CY x.cps.toList with
  |nil=>rw[d]at hs;cases hs
  |cons a r =>
   cases r with
   |nil=>rw[d]at hs;exact hs
   |cons b r=>rw[d]at hs;cases hs
 ·rw[if_neg h1]at hs ⊢
  have L:1<=x.length:=by
   rw[yn,fj,decide_eq_false_iff_not]at h1
   have:=h1.1
   have e:({#[32]}:Str).length=1:=rfl;omega
  have v:Ja x 2=2:=rfl;rw[v,zjv x _ 2 (by omega)];let[f,g]:=StrLaws.occ_chain x {#[32]} (x.length+1);revert hs g;generalize occurrences x {#[32]} 0 x.length (x.length+1)=l;intro hs g
  match l,hs,g with
  | [],hs,_ =>
   rw[if_pos (by rfl)]at hs;rw[List.take_nil,if_pos (by rfl)];cases d:CY x.cps.toList with
   |nil=>rw[d]at hs;cases hs
   |cons a r =>
    cases r with
    |nil=>rw[d]at hs;exact hs
    |cons b r=>rw[d]at hs;cases hs
  | [i],hs,_ =>
   rw[if_neg (by simp),mj]at hs;rw[show [i].take 2=[i]from rfl,if_neg (by simp),mj,hs]
   have o:=congrArg g_ hs;rw[ε]at o;cases d:CY x.cps.toList with
   |nil=>rfl
   |cons a r =>
    cases r with
    |nil=>rfl
    |cons b r =>
     cases r with
     |nil=>rfl
     |cons c r=>rw[d]at o;simp[xy]at o
  | i::j::r,hs,g =>
   rw[if_neg (by simp),mj]at hs;rw[show(i::j::r).take 2=[i,j]from rfl,if_neg (by simp),mj]
   have n:=StrLaws.join_partsFrom x {#[32]} r (j+1) f g.2.2.2.2;let[p,q,s]:=StrLaws.partsFrom_ne x 1 (j+1) r
   have hs:strSub x 0 i::strSub x (i+1) j::xy x 1 (j+1) r=(CY x.cps.toList).map C1:=hs
   have n:Gf {#[32]} (xy x 1 (j+1) r)=strSub x (j+1) x.length:=n
   show [strSub x 0 i,strSub x (i+1) j,strSub x (j+1) x.length]=_;rw[s]at hs n;cases d:CY x.cps.toList with
   |nil=>rw[d]at hs;cases hs
   | cons w y =>
    cases y with
    |nil=>rw[d]at hs;exact absurd (congrArg g_ hs) (by simp)
    |cons z A =>
     cases A with
     |nil=>rw[d]at hs;exact absurd (congrArg g_ hs) (by simp)
     |cons B u =>
      rw[d]at hs;simp only[ci,zh]at hs;let[D,E,H,I]:=hs
      show _=[C1 w,C1 z,C1<|JH (B::u)];rw[D,E,<-n,<-YS (Gf {#[32]} (p::q)),YR,H,I]
      have J:u.map ((λx:Str=>x.cps.toList) ∘ C1)=u:=(vx λx _=>rfl).trans (Mt _);rw[ci,lb,J]
def zjx(x:Str)(n:x.length<=1000):(Txt.partition x " ").1=C1 ((CY x.cps.toList).headD []):=by
 have hs:=YU x;rw[YT]at hs ⊢
 have hz:(Txt.split x {#[32]})[0]? =some (C1<|(CY x.cps.toList).headD []):=by
  rw[hs];cases l:CY x.cps.toList with
  |nil=>rw[l]at hs;exact absurd hs<|sP x
  |cons a r=>rfl
 unfold Txt.partition;rcases StrLaws.occ_head x {#[32]} 1 (ο _)with⟨e,b⟩|⟨i,r,e,j,b⟩
 ·rw[e];let[h,_]||[k,h,c,_]:=split_head x {#[32]} (by decide +kernel) _ hz
  ·exact h.symm
  ·exact absurd c<|b k
 ·rw[e];rcases split_head x {#[32]} (by decide +kernel) _ hz with⟨h,d⟩ | ⟨k,h,c,g⟩
  ·exact absurd j<|d i
  ·have:k=i:=by
    let z||z||z:=E_ k i
    ·exact absurd c<|b k z
    ·exact z
    ·exact absurd j<|g i z
   subst this;exact h.symm
theorem UB:∀ {l w:xE},w∈CY l->w.length<=l.length
 | [],w,h=>by rw[aa.mp h];exact ο _
 | c::r,w,h=>by
  unfold CY at h;split at h
  ·let h||h:=aj.mp h
   ·rw[h];exact bh _
   ·exact ck<|UB h
  ·cases a:CY r with
   |nil=>rw[a]at h;rw[aa.mp h];simp
   |cons v vs =>
    rw[a]at h;let h||h:=aj.mp h
    ·rw[h];exact ym<|UB<|a ▸ χ
    ·exact ck<|UB<|a ▸ τ _ h
def zjy{α :Type}{us:List α}{u: α}:J6 (us++[u]) (-1)=some u:=by
 unfold J6 HG;rw[if_neg (by omega),if_pos (by rw[ai];simp;omega)]
 have e:((-1:Int)+((us++[u]).length:Nat)).toNat=us.length:=by rw[ai];simp;omega
 show(us++[u])[((-1:Int)+((us++[u]).length:Nat)).toNat]? =_;rw[e,cg<|ο _,wb]
 rfl
end L2
namespace L2
abbrev Ad:=String->Addr
def SameBut(F:Addr->Prop)(H a:Hp):Prop:=∀ b o,H b=some o->¬ F b->a b=some o
structure DM(K:W.Frag)(a:Ad):Prop where
 cl:Cls K (a "Plank")
 nC:NoAttr K (a "Plank") "contents"
 nW:NoAttr K (a "Plank") "width"
 nN:NoAttr K (a "Plank") "written"
def pf(a:Addr)(w n:Int):xB:=[("contents",.ref a),("width",.int w),("written",.int n)]
def zjz:¬ ("contents":Str)="width":=by decide
def zj0:¬ ("contents":Str)="written":=by decide
def zj1:¬ ("width":Str)="written":=by decide
def UC(a:Addr)(w n:Int):(pf a w n).lookup ("contents":Str)=some (V.ref a):=by simp[pf]
def sR(a:Addr)(w n:Int):(pf a w n).lookup ("width":Str)=some (V.int w):=by
 simp[pf,au,(beq_eq_false_iff_ne.mpr<|fi zjz)]
def sT(a:Addr)(w n:Int):(pf a w n).lookup ("written":Str)=some (V.int n):=by
 simp[pf,au,(beq_eq_false_iff_ne.mpr<|fi zj0),(beq_eq_false_iff_ne.mpr<|fi zj1)]
def IK(a:Addr)(w n:Int){m:Str}(h1:¬ m="contents")(h2:¬ m="width")(h3:¬ m="written"):(pf a w n).lookup m=none:=by
 simp[pf,au,(beq_eq_false_iff_ne.mpr h1),(beq_eq_false_iff_ne.mpr h2),(beq_eq_false_iff_ne.mpr h3)]
abbrev _root_.wC:=List (List V)
structure PlankAt(a:Ad)(H:Hp)(p cl:Addr)(w:Nat)(rows:wC)(n:Nat):Prop where
 ob:∃ dx,H p=some (.ins (a "Plank") dx (pf cl w n))
 ls:∃ ts:wD,H cl=some (.lst<|ts.map V.ref)/\Paired (λt r=>H t=some (.tup r)) ts rows
 wd:∀ r∈rows,r.length=w
 sz:rows.length<=1000
 sw:w<=1000
def PlankAt.ne(P:PlankAt a H p b w rows n):p≠b:=by
 let[[c,h1],[d,h2,y],y]:=P;exact BI h1 h2 (by intro z;cases z)
def PlankAt.same(P:PlankAt a H p b w rows n)(s:Same H c):PlankAt a c p b w rows n:=by
 let[[d,e],[g,i,j],l,o,u]:=P;exact{{d,s _ _ e},{g,s _ _ i,Paired.mapP j λt r q=>s _ _ q},l,o,u}
local macro_rules
 |`(command|example : ($x:ident) := $t:term)=>do
  let i:=Lean.mkIdent
  `(command|def $x:ident ($(i `K):ident : W.Frag) ($(i `a):ident : Ad) : Sp := fun $(i `vs):ident $(i `H):ident $(i `Q):ident $(i `E):ident => $t)
example:(YX):=∃ (p d:Addr) (m w:Nat),vs=[.ref p,.int m,.int w]/\DM K a/\H p=some (.ins (a "Plank") d [])/\m<=1000/\1<=w/\w<=1000 ∧
 ∀ c b,H c=none->PlankAt a b p c w (bd m<|bd w .non) 0->SameBut (· =p) H b->Q .non b
example:(QK):=∃ p b w rows n,vs=[.ref p]/\DM K a/\PlankAt a H p b w rows n/\Q (.int rows.length) H
example:(YY):=∃ (p b:Addr) (w:Nat) (rows:wC) (n:Nat),vs=[.ref p]/\DM K a/\PlankAt a H p b w rows n/\Q (.int w) H
example:(UD):=∃ (p b:Addr) (w:Nat) (rows:wC) (n:Nat),vs=[.ref p]/\DM K a/\PlankAt a H p b w rows n/\Q (.int n) H
example:(NX):=∃ (p c:Addr) (w:Nat) (rows:wC) (n:Nat) (b:Int),vs=[.ref p,.int b]/\DM K a/\PlankAt a H p c w rows n /\
 (0<=b->b<rows.length->Q .non H)/\(b<0\/rows.length<=b->E (.ref<|a "NoBlock") none H)
example:(LK):=∃ (p c:Addr) (w:Nat) (rows:wC) (n:Nat) (b:Int),vs=[.ref p,.int b]/\DM K a/\PlankAt a H p c w rows n /\
 (∀ (i:Nat) row,b=i->rows[i]? =some row->∀ l,H l=none->Q (.ref l) (upd H l<|.lst row))/\(b<0\/rows.length<=b->E (.ref<|a "NoBlock") none H)
example:(UE):=∃ (p c:Addr) (w:Nat) (rows:wC) (n:Nat) (b:Int) (v:Addr) (xs:cF),vs=[.ref p,.int b,.ref v]/\DM K a/\PlankAt a H p c w rows n/\SqL K H v xs/\xs.length<=2000 /\
 (∀ (i:Nat),b=i->i<rows.length->xs.length=w->∀ d,PlankAt a d p c w (rows.set i xs) (n+1)->SameBut (λx=>x=p\/x=c) H d->Q .non d) /\
 (b<0\/rows.length<=b\/xs.length≠w->E (.ref<|a "NoBlock") none H)
def BT{K:W.Frag}{H:Hp}{p:Addr}{xs:cF}{i:Int}{n:Nat}{v:V}{Q:VK}(h:H p=some (.tup xs))(a:i=n)(b:xs[n]? =some v)(q:Q v H):B7 K (.ref p) (.int i) H Q :=
 .inr (.inl (x4 p xs i v {rfl,rfl,SqT.of h,by rw[a];exact SU b,q}))
def NY(h:fs≠a):HO.ins C c fs≠HO.ins d b a:=by
 intro z;injection z with _ _ z
 exact h z
def zj2(xs:cF)(h:0<=k):GJ xs none (some k)=xs.take k.toNat:=by
 unfold GJ
 have e:HT.sIx xs.length xs.length (some k)=min k.toNat xs.length:=by
  show(if k<0 then(k+xs.length).toNat else min _ _)=_;rw[if_neg (by lia)]
 rw[HT.sIx_none,Kr,List.take_eq_take_iff]
 lia
def zj3(xs:cF)(h:0<=k):GJ xs (some k) none=xs.drop k.toNat:=by
 unfold GJ
 have e:HT.sIx xs.length 0 (some k)=min k.toNat xs.length:=by
  show(if k<0 then(k+xs.length).toNat else min _ _)=_;rw[if_neg (by lia)]
 rw[e];let z||z:=ff _ _
 rw[nq (js z),de (by rw[il];exact ο _)];rw[Ha z,List.drop_of_length_le z];simp
def zj4{K:W.Frag}{H:Hp}{p:Addr}{xs:cF}{lo a:Option Int}{Q:VK}(h:SqL K H p xs)(q:∀ r,H r=none->Q (.ref r) (upd H r<|.lst<|GJ xs lo a)):LB K (.ref p) lo a H Q:=.inl<|x2 p xs ⟨rfl,h,q⟩
def SameBut.refl(H:Hp):SameBut F H H:=λz z e z=>e
def SameBut.trans(s:SameBut F H a)(t:SameBut F a c):SameBut F H c:=λb o e n=>t _ _ (s _ _ e n) n
def SameBut.wide(s:SameBut F H a)(i:∀ x,F x->G x):SameBut G H a:=λb o e n=>s _ _ e λz=>n<|i _ z
def Same.sb(s:Same H a):SameBut F H a:=λb o e z=>s b o e
def SameBut.upd(s:SameBut F H a)(h:F p\/H p=none):SameBut F H (upd a p o):=λb u e n=>by
 have:b≠p:=by
  let h||h:=h
  exact λz=>n<|z ▸ h;exact BJ e h
 rw[AI this];exact s _ _ e n
structure Ch where
 blk:Nat
 cell:Nat
 val:V
 nd:wE
abbrev _root_.zE:=List Ch
def MQ:zE->Int->Int->Option Nat
 | [],_,_=>none
 |c::r,i,j=>if(c.blk:Int)=i/\(c.cell:Int)=j then some r.length else MQ r i j
def D5(cs:zE)(i j:Int):Option Nat:=MQ cs.reverse i j
def G2:zE->Nat->xE
 | [],_=>[]
 |c::r,b=>if c.blk=b then G2 r b++[r.length]else G2 r b
def DF(cs:zE)(b:Nat):xE:=G2 cs.reverse b
def YZ(cs:zE)(c:Ch)(i j:Int):D5 (cs++[c]) i j=if(c.blk:Int)=i/\(c.cell:Int)=j then some cs.length else D5 cs i j:=by
 simp[D5,MQ]
def zj5(cs:zE)(c:Ch)(b:Nat):DF (cs++[c]) b=if c.blk=b then DF cs b++[cs.length]else DF cs b:=by
 simp[DF,G2]
theorem Y0:∀ {l:zE} {i j:Int} {k:Nat},MQ l i j=some k->k<l.length
 | [],_,_,_,h=>by cases h
 |c::r,i,j,k,h=>by
  unfold MQ at h;split at h;obtain rfl:=ι h;simp;exact ck<|Y0 h
def QL(h:D5 cs i j=some k):k<cs.length:=by
 have:=Y0 h
 rwa [gy]at this
theorem Y1:∀ {l:zE} {b k:Nat},k∈G2 l b->k<l.length
 | [],_,_,h=>by cases h
 |c::r,b,k,h=>by
  unfold G2 at h;split at h;let h||h:=bc.mp h
  exact ck<|Y1 h;rw[aa.mp h];simp;exact ck<|Y1 h
def UF(h:k∈DF cs b):k<cs.length:=by
 have:=Y1 h
 rwa [gy]at this
theorem sU:∀ (l:zE) (b:Nat),(G2 l b).length<=l.length
 | [],_=>ο _
 |c::r,b=>by
  have:=sU r b;unfold G2;split<;>simp<;>omega
def Y2(cs:zE)(b:Nat):(DF cs b).length<=cs.length:=by
 have:=sU cs.reverse b
 rwa [gy]at this
def F5(a:Addr)(v:V)(b:Addr):xB:=[("place",.ref a),("value",v),("needs",.ref b)]
def bf(a m b lt c:Addr):xB:=[("ground",.ref a),("made",.ref m),("made_in",.ref b),("latest",.ref lt),("outs",.ref c)]
def D0(a b:Str):Bool:=a==b
section
variable{pl nt gp m mi lt ou:Addr}{v:V}
def BC(h:D0 a b=false):(a==b)=false:=h
def sV:(F5 pl v nt).lookup ("place":Str)=some (V.ref pl):=by simp[F5]
def sW:(F5 pl v nt).lookup ("value":Str)=some v:=by
 simp[F5,au,BC (a:="value") (b:="place") (by decide)]
def sX:(F5 pl v nt).lookup ("needs":Str)=some (V.ref nt):=by
 simp[F5,au,BC (a:="needs") (b:="place") (by decide),BC (a:="needs") (b:="value") (by decide)]
def Y3(h:D0 g f=false):BS f y ((g,x)::r)=(g,x)::BS f y r:=by
 have:¬ g=f:=λe=>by rw[e]at h;simp[D0]at h
 simp[BS,this]
def zj6:BS f y []=[(f,y)]:=rfl
def QM:(bf gp m mi lt ou).lookup ("ground":Str)=some (V.ref gp):=by simp[bf]
def JI:(bf gp m mi lt ou).lookup ("made":Str)=some (V.ref m):=by
 simp[bf,au,BC (a:="made") (b:="ground") (by decide)]
def Y4:(bf gp m mi lt ou).lookup ("made_in":Str)=some (V.ref mi):=by
 simp[bf,au,BC (a:="made_in") (b:="ground") (by decide),BC (a:="made_in") (b:="made") (by decide)]
def sY:(bf gp m mi lt ou).lookup ("latest":Str)=some (V.ref lt):=by
 simp[bf,au,BC (a:="latest") (b:="ground") (by decide),BC (a:="latest") (b:="made") (by decide),BC (a:="latest") (b:="made_in") (by decide)]
def QN:(bf gp m mi lt ou).lookup ("outs":Str)=some (V.ref ou):=by
 simp[bf,au,BC (a:="outs") (b:="ground") (by decide),BC (a:="outs") (b:="made") (by decide),BC (a:="outs") (b:="made_in") (by decide),BC (a:="outs") (b:="latest") (by decide)]
def C8(h:(D0 x "ground" || D0 x "made" || D0 x "made_in" || D0 x "latest" || D0 x "outs")=false:=by decide +kernel):(bf gp m mi lt ou).lookup x=none:=by
 simp only[fj]at h;let[[[[h1,h2],h3],h4],h5]:=h;simp[bf,au,BC h1,BC h2,BC h3,BC h4,BC h5]
def zj7:BS "outs" (.ref ou) (BS "latest" (.ref lt) (BS "made_in" (.ref mi) (BS "made" (.ref m) (BS "ground" (.ref gp) []))))=bf gp m mi lt ou:=by
 rfl
end
structure sZ(K:W.Frag)(C D:Addr):Prop where
 cl:Cls K C
 nG:NoAttr K C "ground"
 nM:NoAttr K C "made"
 nI:NoAttr K C "made_in"
 nL:NoAttr K C "latest"
 nO:NoAttr K C "outs"
 cc:Cls K D
 nP:NoAttr K D "place"
 nV:NoAttr K D "value"
 nN:NoAttr K D "needs"
def ChAt(D:Addr)(H:Hp)(x:Addr)(c:Ch):Prop:=∃ d a b,H x=some (.ins D d<|F5 a c.val b)/\H a=some (.tup [.int c.blk,.int c.cell])/\H b=some (.tup<|c.nd.map V.int)
structure BA where
 b:Addr
 gp:Addr
 m:Addr
 mi:Addr
 lt:Addr
 ou:Addr
 ls:wD
 cl:Addr
def BA.F(A:BA)(x:Addr):Prop:=x=A.m\/x=A.mi\/x∈A.ls\/x=A.lt\/x=A.ou\/x=A.cl
def KeysOk(a:vC)(n:Nat):Prop:=(a.map (·.1)).Nodup/\∀ p∈a,∃ x:Nat,p.1=vb (x:Int)/\x<n
def KeysOk.mono(h:KeysOk a n)(b:n<=m):KeysOk a m:={h.1,λp c=>by let[x,e,d]:=h.2 p c;exact{x,e,ψ d b}}
def KeysOk.len(h:KeysOk a n):a.length<=n:=by
 have:=u_  h.1 λk b=>by
  let[p,c,rfl]:=ay.mp b;let[x,e,d]:=h.2 p c;rw[e];exact ay.mpr {x,ao.mpr d,rfl}
 simpa using this
def KeysOk.put(h:KeysOk b n)(d:k<n)(c:BE b (.inl (k:Int))=none)(v:V):KeysOk (CD b (.inl (k:Int)) v) n:=by
 refine{zab v h.1 c,λp a=>?_};rw[XB v c]at a;let a||a:=bc.mp a
 exact h.2 p a;rw[aa.mp a];exact⟨k,rfl,d⟩
structure BookIn(C D:Addr)(H:Hp)(A:BA)(w:Nat)(cs:zE)(outs:vD):Prop where
 ob:∃ dx,H A.b=some (.ins C dx<|bf A.gp A.m A.mi A.lt A.ou)
 made:∃ chs:wD,H A.m=some (.lst<|chs.map V.ref)/\Paired (ChAt D H) chs cs
 mil:H A.mi=some (.lst<|A.ls.map V.ref)
 mic:∀ (i:Nat) l,A.ls[i]? =some l->H l=some (.lst<|(DF cs i).map λ(k:Nat)=>V.int k)
 nd:A.ls.Nodup
 lat:∃ kvs,H A.lt=some (.dT kvs)/\(∀ i j:Int,BE kvs [.inl i,.inl j]=(D5 cs i j).map λ(k:Nat)=>V.int k)/\kvs.length<=cs.length
 out:∃ DY,H A.ou=some (.dK DY)/\(∀ k:Int,(BE DY<|.inl k).isSome=outs k)/\KeysOk DY cs.length
 sz:cs.length<=990
 inn:∀ c∈cs,c.blk<A.ls.length/\c.cell<w
 need:∀ (k:Nat) c,cs[k]? =some c->(∀ x∈c.nd,0<=x/\x<k)/\c.nd.Pairwise (· <·)/\c.nd.length<=100
 ap:A.m≠A.mi/\A.m∉A.ls/\A.mi∉A.ls/\A.cl≠A.m/\A.cl≠A.mi/\A.cl∉A.ls
 chn:∀ (k:Nat) c,cs[k]? =some c->∀ j,D5 (cs.take k) c.blk c.cell=some j->(j:Int)∈c.nd
structure BookAt(a:Ad)(C:Addr)(H:Hp)(A:BA)(w:Nat)(rows:wC)(n:Nat)(cs:zE)(outs:vD):Prop where
 bk:BookIn C (a "Change") H A w cs outs
 pk:PlankAt a H A.gp A.cl w rows n
 nb:A.ls.length=rows.length
def ER(o:Option HO):Prop:=(∀ xs,o≠some (.tup xs))/\∀ C a fs,o≠some (.ins C a fs)
def ChAt.sb(s:SameBut G H e)(g:∀ x,G x->ER (H x))(h:ChAt D H x c):ChAt D e x c:=by
 revert h;apply u3;intro i j l [a,b,d];exact x3 i j l {s _ _ a λz=>(g _ z).2 _ _ _ a,s _ _ b λz=>(g _ z).1 _ b,s _ _ d λz=>(g _ z).1 _ d}
def BookIn.sb(B:BookIn C D H A w cs outs)(s:SameBut G H d)(g:∀ x,G x->ER (H x))(f:∀ x,G x->¬ A.F x):BookIn C D d A w cs outs:=by
 let[[e,b],[j,n,o],p,q,r,[kvs,u,v],[N,y,a],E,I,J,L,M]:=B;refine⟨{e,s _ _ b λz=>(g _ z).2 _ _ _ b},{_,s _ _ n λz=>f _ z<|.inl rfl,Paired.mapP o λx c h=>h.sb s g},s _ _ p λz=>f _ z<|.inr<|.inl rfl,λi l h=>s _ _ (q i l h) λz=>f _ z<|.inr<|.inr<|.inl<|η h,r,
  {_,s _ _ u λz=>f _ z<|.inr<|.inr<|.inr<|.inl rfl,v},{_,s _ _ y λz=>f _ z<|.inr<|.inr<|.inr<|.inr<|.inl rfl,a},E,I,J,L,M⟩
def PlankAt.sbL(P:PlankAt a H p b w rows n)(s:SameBut G H d)(g:∀ x,G x->ER (H x))(h:¬ G b):PlankAt a d p b w rows n:=by
 let[[e,c],[i,j,l],o,u,v]:=P;exact{{e,s _ _ c λz=>(g _ z).2 _ _ _ c},{i,s _ _ j h,Paired.mapP l λt r q=>s _ _ q λz=>(g _ z).1 _ q},o,u,v}
def BookAt.sb(B:BookAt a C H A w rows n cs outs)(s:SameBut G H b)(g:∀ x,G x->ER (H x))(f:∀ x,G x->¬ A.F x):BookAt a C b A w rows n cs outs :=
 {B.bk.sb s g f,B.pk.sbL s g λz=>f _ z<|.inr<|.inr<|.inr<|.inr<|.inr rfl,B.nb}
def BookAt.same(B:BookAt a C H A w rows n cs outs)(s:Same H b):BookAt a C b A w rows n cs outs :=
 B.sb (G:=λy=>False) (Same.sb s) (λy z=>z.elim) λy z=>z.elim
def BookAt.off(B:BookAt a C H A w rows n cs outs)(h:H x=none):¬ A.F x:=by
 let[[y,[c,d,y],g,j,y,[kvs,l,y],[q,o,y],y],[y,[r,b,y],y],y]:=B;rintro (z|z|z|z|z|z);rw[z,d]at h;cases h;rw[z,g]at h;cases h;let[i,p,e]:=jr z;rw[(j i x (by rw[<-e];exact θ p))]at h;cases h;rw[z,l]at h;cases h;rw[z,o]at h;cases h;rw[z,b]at h;cases h
def QQ{α :Type}{l:List α}{x: α}(h:x∈l):∃ i:Nat,l[i]? =some x:=by
 let[i,a,e]:=jr h;exact{i,by rw[<-e];exact θ a}
def QR{H:Hp}{x:Addr}{xs:cF}(h:H x=some (.lst xs)):ER (H x):=by
 rw[h];exact{λy z=>(by cases z),λy y y z=>(by cases z)}
def QS{H:Hp}{x:Addr}{xs:vC}(h:H x=some (.dK xs)):ER (H x):=by
 rw[h];exact{λy z=>(by cases z),λy y y z=>(by cases z)}
def zj8{H:Hp}{x:Addr}{xs:vA}(h:H x=some (.dT xs)):ER (H x):=by
 rw[h];exact{λy z=>(by cases z),λy y y z=>(by cases z)}
def BookAt.loose{A:BA}{outs:vD}(B:BookAt a C H A w rows n cs outs)(h:A.F x):ER (H x):=by
 let[[y,[c,d,y],g,j,y,[kvs,l,y],[p,o,y],y],[y,[q,b,y],y],y]:=B;let z||z||z||z||z||z:=h
 exact QR<|z ▸ d;exact QR<|z ▸ g;let[i,e]:=QQ z;exact QR<|j i x e;exact zj8<|z ▸ l;exact QS<|z ▸ o;exact QR<|z ▸ b
structure UG(cs:zE)(outs:vD)(ns:wE)(R:vD):Prop where
 all:∀ x∈ns,R x=true
 up:∀ (k:Nat) (c:Ch),cs[k]? =some c->outs k=false->R k=true->∀ y∈c.nd,R y=true
 only:∀ x,R x=true->x∈ns\/∃ (k:Nat) (c:Ch),cs[k]? =some c/\outs k=false/\R k=true/\x∈c.nd
def MR(nd:wE)(there:vD):Option Int:=nd.find? λx=> !there x
def zj9(h:∀ x∈nd,there x=true):MR nd there=none:=kg.mpr λx a=>by rw[h x a];exact ax
structure Pass where
 out:xE
 held:List (Nat × Int)
 gone:Int->Bool
def DG(cs:zE)(outs:vD)(s:Pass)(k:Nat):Pass :=
 if outs k||s.gone k then s else
  match (cs[k]?).bind λc=>MR c.nd λx=>outs x||s.gone x with
  |none=>{s.out++[k],s.held,λx=>s.gone x||x ==(k:Int)}
  |some l=>{s.out,s.held++[(k,l)],s.gone}
def outcome(cs:zE)(outs taken:vD)(b:Nat):Pass:=(DF cs b).foldl (DG cs outs) {[],[],taken}
def HQ(cs:zE)(outs:vD)(r:cF)(k:Nat):cF :=
 if outs k then match cs[k]? with
  |some c=>r.set c.cell c.val
  |none=>r
 else r
def EZ(cs:zE)(outs:vD)(b:Nat)(row:cF):cF:=(DF cs b).foldl (HQ cs outs) row
def DS(cs:zE)(outs:vD)(b:Nat):Int->Bool:=λx=>outs x||(outcome cs outs (λ_=>false) b).out.any λ(k:Nat)=>x ==(k:Int)
def zka(r:cF)(k:Nat):(HQ cs outs r k).length=r.length:=by
 unfold HQ;split;split;rw[kj]
 rfl
 rfl
theorem Y5:∀ (l:xE) (r:cF),(l.foldl (HQ cs outs) r).length=r.length
 | [],r=>rfl
 |k::l,r=>by rw[gg,Y5 l,zka]
def tD:(EZ cs outs b row).length=row.length:=Y5 _ _
theorem Y6:∀ (l:xE) (s:Pass),(l.foldl (DG cs outs) s).out.length+(l.foldl (DG cs outs) s).held.length<=s.out.length+s.held.length+l.length
 | [],s=>by simp
 |k::l,s=>by
  rw[gg]
  have h2:(DG cs outs s k).out.length+(DG cs outs s k).held.length<=s.out.length+s.held.length+1:=by
   unfold DG;split;exact jv _;split<;>simp<;>omega
  have h:=Y6 (cs:=cs) (outs:=outs) l (DG cs outs s k);simp only[b_]
  lia
def tE{α a :Type}(f: a -> α -> a)(b: a){l:List α}{i:Nat}{x: α}(h:l[i]? =some x):(l.take<|i+1).foldl f b=f ((l.take i).foldl f b) x:=by
 let[c,e]:=ζ.mp h;rw[<-e,<-lu c,k_]
 rfl
theorem tF(b:Nat):∀ l:zE,G2 l b=(ρ l.length).filter λ(k:Nat)=>(l.reverse[k]?).any λc=>c.blk == b
 | []=>rfl
 |c::r=>by
  have e:(ρ r.length).filter (λk=>((c::r).reverse[k]?).any λc=>c.blk==b)=G2 r b:=by
   rw[(tF b r)];refine uk λk a=>?_;rw[oq,bg (by rw[gy];exact ao.mp a)]
  have d:(c::r).reverse[r.length]? =some c:=by
   simp
  rw[b_,bz,na,e]
  show(if c.blk=b then G2 r b++[r.length]else G2 r b)=_;by_cases h:c.blk=b;simp[h];simp[h]
def tG(cs:zE)(b:Nat):DF cs b=(ρ cs.length).filter λ(k:Nat)=>(cs[k]?).any λc=>c.blk==b:=by
 have:=tF b cs.reverse;rw[vm,gy]at this;exact this
def zkb(cs:zE)(b:Nat):(DF cs b).Pairwise (· <·):=by
 rw[tG];exact ix.filter _
def UH:k∈DF cs b↔∃ c,cs[k]? =some c/\c.blk=b:=by
 rw[tG,c_,ao];constructor;intro[h,h2];rw[θ h]at h2 ⊢;exact{_,rfl,by simpa using h2};intro[c,e,rfl];exact{(ζ.mp e).1,by rw[e];simp}
def tH(s:Pass)(k:Nat):DG cs outs s k=s\/(outs k=false/\DG cs outs s k={s.out++[k],s.held,λx=>s.gone x||x ==(k:Int)})\/∃ l,DG cs outs s k={s.out,s.held++[(k,l)],s.gone}:=by
 unfold DG;split;exact .inl rfl;rename_i a;simp only[nr,not_or,yn]at a;split;exact .inr<|.inl ⟨a.1,rfl⟩;exact .inr<|.inr ⟨_,rfl⟩
theorem UI:∀ (l:xE) (s:Pass),∃ a,(l.foldl (DG cs outs) s).out=s.out++a/\a.Sublist l/\(∀ k∈a,outs k=false)/\∀ x,(l.foldl (DG cs outs) s).gone x=(s.gone x||a.any λ(k:Nat)=>x ==(k:Int))
 | [],s=>{[],by simp,.slnil,by simp,by simp}
 |k::l,s=>by
  rw[gg];let[a,h1,h2,h3,h4]:=UI   l (DG cs _ s k);let e||[c,e]||[d,e]:=tH   s k
  rw[e]at h1 h4 ⊢;exact{a,h1,h2.cons _,h3,h4};rw[e]at h1 h4 ⊢;refine{_,by rw[h1];simp,h2.cons_cons _,λx b=>?_,λx=>(by rw[h4,sj,lx])};let rfl||b:=aj.mp b
  exact c;exact h3 x b;rw[e]at h1 h4 ⊢;exact{a,h1,h2.cons _,h3,h4}
def UJ:(outcome cs outs (λ_=>false) b).out.Pairwise (· <·)/\(∀ k∈(outcome cs outs (λ_=>false) b).out,outs k=false/\k∈DF cs b)/\∀ x,(outcome cs outs (λ_=>false) b).gone x=(outcome cs outs (λ_=>false) b).out.any λ(k:Nat)=>x ==(k:Int):=by
 let[c,h1,h2,h3,h4]:=UI   _ _
 have e:(outcome cs outs (λz=>false) b).out=c:=by unfold outcome;rw[h1];rfl
 rw[e];exact{(zkb cs b).sublist h2,λk a=>{h3 k a,h2.subset a},λx=>by unfold outcome;rw[h4];simp}
def UK(H:Hp)(t ol a:Addr)(out:xE)(held:List (Nat × Int)):Prop:=H t=some (.tup [.ref ol,.ref a])/\H ol=some (.lst<|out.map λ(k:Nat)=>V.int k)/\∃ hs:wD,H a=some (.lst<|hs.map V.ref)/\Paired (λx (p:Nat × Int)=>H x=some (.tup [.int p.1,.int p.2])) hs held
def Y7(cs:zE)(r:cF)(k:Nat):cF:=match cs[k]? with
 |some c=>r.set c.cell c.val
 |none=>r
def UL(cs:zE)(a:xE)(row:cF):cF:=a.foldl (Y7 cs) row
def zkc(cs:zE)(O:vD)(b:Nat)(row:cF):EZ cs O b row=UL cs ((DF cs b).filter λ(k:Nat)=>O k) row:=by
 unfold EZ UL;rw[List.foldl_filter]
 rfl
def JJ(cs:zE):xE->Nat->Option Ch
 | [],_=>none
 |k::r,j=>match JJ cs r j with
  |some c=>some c
  |none=>(cs[k]?).filter λc=>c.cell==j
def Y8(cs:zE)(k:Nat)(r:xE)(j:Nat):JJ cs (k::r) j=match JJ cs r j with
  |some c=>some c
  |none=>(cs[k]?).filter λc=>c.cell==j:=rfl
theorem tI(cs:zE)(j:Nat):∀ (g:xE) (row:cF),(UL cs g row)[j]? =(row[j]?).map λv=>((JJ cs g j).map (·.val)).getD v
 | [],row=>by
  show row[j]? =_;cases row[j]? <;>rfl
 | k::r,row=>by
  show(UL cs r _)[j]? =_;rw[tI cs j r,Y8];cases h:JJ cs r j with
  |some c =>
   unfold Y7;cases e:cs[k]? with
   |none=>rfl
   |some b =>
    rw[Gi];by_cases d:b.cell=j;subst d;rw[if_pos rfl];by_cases a:b.cell<row.length;rw[if_pos a,θ a];rfl;rw[if_neg a,bv<|cv a];rw[if_neg d]
  |none =>
   unfold Y7;cases e:cs[k]? with
   |none=>rfl
   |some b =>
    rw[Gi];by_cases d:b.cell=j;subst d;rw[if_pos rfl];by_cases a:b.cell<row.length;rw[if_pos a,θ a];simp[Cf];rw[if_neg a,bv<|cv a];rfl;rw[if_neg d]
    have:(Cf (λc=>c.cell==j) (some b))=none:=by simp[d]
    rw[this]
theorem tJ:∀ {d:xE},JJ cs d j=some c->∃ k∈d,cs[k]? =some c/\c.cell=j/\(d.Pairwise (· <·)->∀ g∈d,k<g->∀ i,cs[g]? =some i->i.cell≠j)
 | [],h=>by cases h
 | k::r,h=>by
  rw[Y8]at h;cases e:JJ cs r j with
  |some v =>
   rw[e]at h;cases h;let[k1,h1,h2,h3,h4]:=tJ e;refine{k1,τ _ h1,h2,h3,λp g a q i b=>?_};let[w,x]:=jh.mp p;let rfl||a:=aj.mp a
   have:=w k1 h1;lia;exact h4 x g a q i b
  | none =>
   rw[e]at h;cases b:cs[k]? with
   |none=>rw[b]at h;cases h
   |some s =>
    rw[b]at h
    have n:s.cell=j/\s=c:=by
     simp only[Cf]at h;split at h;rename_i y;obtain rfl:=ι h;exact{by simpa using y,rfl};cases h
    let[n,rfl]:=n;refine{k,χ ..,b,n,λp g a q i o=>?_};let rfl||a:=aj.mp a
    lia
    exact lastAt_no e g a i o
where
 lastAt_no {cs:zE} {j:Nat}:∀ {d:List _},JJ cs d j=none->∀ k∈d,∀ c,cs[k]? =some c->c.cell≠j
  | [],_,k,l=>by cases l
  |k0::r,h,k,l=>λc b u=>by
   rw[Y8]at h;cases e:JJ cs r j with
   |some v=>rw[e]at h;cases h
   |none =>
    rw[e]at h;let rfl||l:=aj.mp l
    rw[b]at h;simp[u]at h;exact lastAt_no e k l c b u
theorem tK:∀ {l:zE} {k:Nat} {c:Ch},l.reverse[k]? =some c->(c.blk:Int)=i->(c.cell:Int)=j->∃ a b,MQ l i j=some a/\k<=a/\l.reverse[a]? =some b/\(b.blk:Int)=i/\(b.cell:Int)=j
 | [],k,c,h,_,_=>by simp at h
 |e::r,k,c,h,h1,h2=>by
  have g:=(ζ.mp h).1;rw[gy]at g;unfold MQ;by_cases d:e.blk=i/\e.cell=j;rw[if_pos d];refine x2 _ e {rfl,dv g,?_,d};simp;rw[if_neg d]
  have o:k<r.length:=by
   let z||z:=ff k _
   exact z;exfalso
   have  :=kq (dv g) z;subst this;simp at h;subst h;exact d ⟨h1,h2⟩
  rw[oq,bg (by rw[gy];exact o)]at h;refine u2 ?_<|tK h h1 h2;intro a b [n,p,q,s];refine x2 a b {n,p,?_,s};rw[oq,bg (by rw[gy];exact(Y0 n))];exact q
def zkd(h:cs[k]? =some c):∃ a b,D5 cs c.blk c.cell=some a/\k<=a/\cs[a]? =some b/\b.blk=c.blk/\b.cell=c.cell:=by
 refine u2 ?_ (tK    (by rw[vm];exact h) rfl rfl);intro a b [e,g,d,i,j];rw[vm]at d;exact x2 a b {e,g,d,ce i,ce j}
def UM(cs:zE)(outs:vD):Prop:=∀ (k:Nat) (c:Ch),cs[k]? =some c->outs k=true->∀ y∈c.nd,outs y=true
def zke(s:Pass)(k:Nat)(h:(DG cs outs s k).out=s.out++[k]):∀ c,cs[k]? =some c->∀ y∈c.nd,(outs y||s.gone y)=true:=λc a y b=>by
 unfold DG at h;split at h;exact absurd h (by intro z;have:=congrArg g_ z;simp at this);rw[a]at h;split at h;rename_i d
 have:=kg.mp d y b;cases e:(outs y||s.gone y)with
 |true=>rfl
 |false =>
  have this:¬ (!(outs y||s.gone y))=true:=this;rw[e]at this;exact absurd rfl this
 exact absurd h (by intro z;have:=congrArg g_ z;simp at this)
theorem tL:∀ (l:xE) (s:Pass),(∀ k∈s.out,∀ c,cs[k]? =some c->∀ y∈c.nd,(outs y||s.gone y)=true)->∀ k∈(l.foldl (DG cs outs) s).out,∀ c,cs[k]? =some c->∀ y∈c.nd,(outs y||(l.foldl (DG cs outs) s).gone y)=true
 | [],s,h=>h
 |k::l,s,h=>by
  refine tL l _ ?_;let e||[i,e]||[j,e]:=tH   s k
  rw[e];exact h;rw[e];intro g a c b y d;let a||a:=bc.mp a
  rw[<-lx,(h g a c b y d),pz];rw[aa.mp a]at b;rw[<-lx,((zke   s k (by rw[e])) c b y d),pz];rw[e];exact h
def zkf(cut:UM cs outs)(b:Nat):UM cs (DS cs outs b):=λk c g a y i=>by
 let[z,z,j]:=UJ;unfold DS at a ⊢;rw[nr]at a;let a||a:=a
 rw[cut k c g a y i,pz];let[l,d,e]:=du.mp a
 have e:(k:Int)=l:=by simpa using e
 have e:=ce e;subst e;rw[<-j y];exact(tL   _ _ (by simp) k d c g y i)
def zkg{cs:zE}{outs:vD}{b k:Nat}:DS cs outs b k=true↔outs k=true\/k∈(outcome cs outs (λ_=>false) b).out:=by
 unfold DS;rw[nr,du];constructor;rintro (h|⟨c,a,e⟩);exact .inl h;exact .inr ((ce (by simpa using e)) ▸ a);rintro (h|h);exact .inl h;exact .inr {k,h,by simp}
theorem UN{outs tk:vD}:∀ (l:xE) (s a:Pass),s.out=a.out->s.held=a.held->(∀ x,s.gone x=(tk x||a.gone x))->(l.foldl (DG cs outs) s).out=(l.foldl (DG cs λx=>outs x||tk x) a).out
 | [],s,a,h,_,_=>h
 |k::l,s,a,h1,h2,h3=>by
  rw[gg,gg]
  have b:(λx=>outs x||s.gone x)=λx=>(outs x||tk x)||a.gone x:=by funext x;rw[h3,lx]
  have c:=congrFun b k;let[d,h',e]:=a;simp only at h1 h2 h3 b c;subst h1 h2;unfold DG;simp only[c,b];split;exact UN l _ _ rfl rfl h3;split;exact UN l _ _ rfl rfl λx=>by simp only[h3,lx]
  exact UN l _ _ rfl rfl h3
def zkh{outs tk:vD}:(outcome cs outs tk b).out=(outcome cs (λx=>outs x||tk x) (λ_=>false) b).out:=UN _ _ _ rfl rfl λx=>by simp
def zki{cs:zE}{outs:vD}{k:Nat}{c:Ch}(a:cs[k]? =some c)(d:outs k=false)(g:∀ x∈c.nd,outs x=true):DS cs outs c.blk k=true:=by
 let[b,l2,e]:=List.append_of_mem<|UH.mpr ⟨c,a,rfl⟩;rw[zkg];refine .inr ?_;unfold outcome;let[i,h1,_,_,h4]:=UI   b _;rw[e,k_,gg];generalize yv (DG cs _) _ b=s at h1 h4
 have st:k∈(DG cs outs s k).out:=by
  unfold DG;split;rename_i h;rw[d,h4]at h;obtain⟨y,j,e⟩:∃ y,y∈i/\k=(y:Int):=by simpa using h
  rw[h1]
  have:y=k:=by lia
  exact bu _<|this ▸ j;rw[a,H_,zj9 λx l=>by rw[g x l,pz]];simp
 let[n,h5,_]:=UI   l2 _;rw[h5];exact ji _ st
inductive KH(cs:zE):(Int->Bool)->xE->xE->Prop
 |nil {outs:vD}:KH cs outs [] []
 |cons {outs:vD} {k:Nat} {r row:xE} {c:Ch} (e:cs[k]? =some c) (h:KH cs (DS cs outs c.blk) ((k::r).filter λ(x:Nat)=> !DS cs outs c.blk x) row):KH cs outs (k::r) (c.blk::row)
abbrev F8(n:Nat)(outs R:vD):xE:=((ρ n).filter λ(k:Nat)=> !outs k).filter λ(k:Nat)=>R k
def zkj(h:outs x=true):DS cs outs b x=true:=by unfold DS;rw[h,pz]
def zkk(cs:zE)(n:Nat)(outs R:vD)(b:Nat):(F8 n outs R).filter (λ(x:Nat)=> !DS cs outs b x)=F8 n (DS cs outs b) R:=by
 simp only[Di];refine uk λx z=>?_;cases h:outs x with
 |true=>rw[zkj h];simp
 |false=>cases R x<;>simp
def zkl(n:Nat)(outs R:vD):(F8 n outs R).Pairwise (· <·):=(ix.filter _).filter _
def UO:k∈F8 n outs R↔k<n/\outs k=false/\R k=true:=by
 simp only[c_,ao];constructor;intro[[h1,h2],h3];exact{h1,by simpa using h2,h3};intro[h1,h2,h3];exact{{h1,by rw[h2];rfl},h3}
def zkm{cs:zE}{outs R:vD}{k:Nat}{r:xE}{c:Ch}(j:∀ (k:Nat) (c:Ch),cs[k]? =some c->∀ x∈c.nd,0<=x/\x<k)(up:∀ (k:Nat) (c:Ch),cs[k]? =some c->outs k=false->R k=true->∀ y∈c.nd,R y=true)(e:F8 cs.length outs R=k::r)(b:cs[k]? =some c):DS cs outs c.blk k=true:=by
 have d:=UO.mp (show k∈F8 _ _ R by rw[e];exact χ ..);refine zki b d.2.1 λx g=>?_;let[h1,h2]:=j k c b x g;cases l:outs x with
 |true=>rfl
 |false =>
  obtain⟨y,rfl⟩:∃ y:Nat,x=y:={x.toNat,by lia}
  have a:=zkl cs.length outs R
  have i:y∈F8 cs.length _ R:=UO.mpr {by omega,l,up k c b d.2.1 d.2.2 y g};rw[e]at i a;let h||h:=aj.mp i
  omega
  have:=(jh.mp a).1 y h;omega
def zkn{l:xE}{p:yD}(h:k∈l)(a:p k=false):(l.filter p).length<l.length:=(List.length_filter_lt_length_iff_exists  ).mpr {k,h,by rw[a];exact ax}
structure D8(K:W.Frag)(a:Ad):Prop where
 cl:Cls K (a "Layout")
 n1:NoAttr K (a "Layout") "name_blocks"
 n2:NoAttr K (a "Layout") "record_blocks"
 n3:NoAttr K (a "Layout") "piece_blocks"
 n4:NoAttr K (a "Layout") "width"
section
variable{n r c w:Int}
def lf(n r c w:Int):xB:=[("name_blocks",.int n),("record_blocks",.int r),("piece_blocks",.int c),("width",.int w)]
def UP:(lf n r c w).lookup ("name_blocks":Str)=some (V.int n):=by simp[lf]
def QT:(lf n r c w).lookup ("record_blocks":Str)=some (V.int r):=by
 simp[lf,au,BC (a:="record_blocks") (b:="name_blocks") (by decide)]
def Y9:(lf n r c w).lookup ("piece_blocks":Str)=some (V.int c):=by
 simp[lf,au,BC (a:="piece_blocks") (b:="name_blocks") (by decide),BC (a:="piece_blocks") (b:="record_blocks") (by decide)]
def NZ:(lf n r c w).lookup ("width":Str)=some (V.int w):=by
 simp[lf,au,BC (a:="width") (b:="name_blocks") (by decide),BC (a:="width") (b:="record_blocks") (by decide),BC (a:="width") (b:="piece_blocks") (by decide)]
def BZ(h:(D0 x "name_blocks" || D0 x "record_blocks" || D0 x "piece_blocks" || D0 x "width")=false:=by decide +kernel):(lf n r c w).lookup x=none:=by
 simp only[fj]at h;let[[[h1,h2],h3],h4]:=h;simp[lf,au,BC h1,BC h2,BC h3,BC h4]
end
structure LayAt(a:Ad)(H:Hp)(p:Addr)(n r c w:Nat):Prop where
 ob:∃ dx,H p=some (.ins (a "Layout") dx (lf n r c w))
 hn:n<=100
 hr:r<=100
 hc:c<=100
 h1:1<=w
 hw:w<=100
def LayAt.same(L:LayAt a H p n r c w)(s:Same H b):LayAt a b p n r c w:=by
 let[[d,e],g,i,j,l,o]:=L;exact{{d,s _ _ e},g,i,j,l,o}
def LayAt.sb(L:LayAt a H p n r c w)(s:SameBut F H b)(f:¬ F p):LayAt a b p n r c w:=by
 let[[d,e],g,i,j,l,o]:=L;exact{{d,s _ _ e f},g,i,j,l,o}
example:(ZA):=∃ (p d:Addr) (n r c w:Nat),vs=[.ref p,.int n,.int r,.int c,.int w]/\D8 K a/\H p=some (.ins (a "Layout") d [])/\n<=100/\r<=100/\c<=100/\1<=w/\w<=100 ∧
 ∀ b,LayAt a b p n r c w->SameBut (· =p) H b->Q .non b
def G4(x y:Int)(Q:VK)(H:Hp):Prop:=∀ t,H t=none->Q (.ref t) (upd H t<|.tup [.int x,.int y])
example:(MS):=∃ (p:Addr) (n r c w k:Nat) (b:Int),vs=[.ref p,.int b,.int k]/\D8 K a/\LayAt a H p n r c w/\G4 (b+k/w) (k%w) Q H
example:(JK):=∃ (p:Addr) (n r c w k:Nat),vs=[.ref p,.int k]/\D8 K a/\LayAt a H p n r c w/\G4 (0+k/w) (k%w) Q H
example:(G5):=∃ (p:Addr) (n r c w k:Nat),vs=[.ref p,.int k]/\D8 K a/\LayAt a H p n r c w/\G4 (n+k/w) (k%w) Q H
example:(LM):=∃ (p:Addr) (n r c w k:Nat),vs=[.ref p,.int k]/\D8 K a/\LayAt a H p n r c w/\G4 (n+r+k/w) (k%w) Q H
example:(KI):=∃ (p:Addr) (n r c w k:Nat),vs=[.ref p,.int k]/\D8 K a/\LayAt a H p n r c w/\G4 (n+r+c+k/w) (k%w) Q H
example:(KJ):=∃ (p:Addr) (n r c w k:Nat),vs=[.ref p,.int k]/\D8 K a/\LayAt a H p n r c w/\G4 (n+r+c+r+k/w) (k%w) Q H
example:(QU):=∃ (p:Addr) (n r c w:Nat),vs=[.ref p]/\D8 K a/\LayAt a H p n r c w/\Q (.int<|n+r+c) H
example:(N0):=∃ (p:Addr) (n r c w:Nat),vs=[.ref p]/\D8 K a/\LayAt a H p n r c w/\Q (.int<|n+r+c+r+c) H
example:(LN):=∃ (p:Addr) (n r c w:Nat),vs=[.ref p]/\D8 K a/\LayAt a H p n r c w/\∀ t,H t=none->Q (.ref t) (upd H t<|.tup [.int (n*w),.int<|r*w,.int<|c*w])
example:(ZB):=∃ (p:Addr) (n r c w:Nat),vs=[.ref p]/\D8 K a/\DM K a/\LayAt a H p n r c w /\
 ∀ x d b,H x=none->H d=none->PlankAt a b x d w (bd (n+r+c+r+c) (bd w .non)) 0->Same H b->Q (.ref x) b
inductive CV where
 |no
 |nm (z:Str) (k:Nat)
 |mk (i:Nat)
 |rc (m:Nat) (ps:xE)
 |tx (z:Str)
abbrev Md:=Nat->Nat->CV
def Md.put(M:Md)(kind k:Nat)(x:CV):Md:=λi j=>if i=kind/\j=k then x else M i j
structure AC where
 kind:Nat
 k:Nat
 x:CV
 nd:xE
abbrev _root_.bF:=List AC
def sh(M0:Md)(C:yD):bF->Md
 | []=>M0
 |a::r=>if C r.length then(sh M0 C r).put a.kind a.k a.x else sh M0 C r
abbrev hnd(M0:Md)(as:bF):Md:=sh M0 (λ_=>true) as
def IL(kind k:Nat):bF->Option Nat
 | []=>none
 |a::r=>if a.kind=kind/\a.k=k then some r.length else IL kind k r
def GQ(C:yD):bF->Prop
 | []=>True
 |a::r=>GQ C r/\(C r.length=true->(∀ y∈a.nd,C y=true)/\∀ j,IL a.kind a.k r=some j->C j=true)
section
variable{M0 S:Md}{C:yD}{as:bF}{kind k m0:Nat}{x:CV}
def CZ:S.put kind k x kind k=x:=if_pos ⟨rfl,rfl⟩
def N1(h:i≠kind):S.put kind k x i j=S i j:=if_neg λz=>h z.1
def DT(h:j≠k):S.put kind k x i j=S i j:=if_neg λz=>h z.2
def zko(h:∀ j,IL kind k as=some j->C j=true):sh M0 C as kind k=hnd M0 as kind k:=by
 induction as with
 |nil=>rfl
 |cons a r d =>
  unfold IL at h;simp only[sh,if_true];by_cases e:a.kind=kind/\a.k=k;rw[if_pos e]at h;let[rfl,rfl]:=e;rw[h _ rfl];simp only[if_true];rw[CZ,CZ];rw[if_neg e]at h
  have:=d h
  have b:¬ (kind=a.kind/\k=a.k):=λz=>e ⟨z.1.symm,z.2.symm⟩;unfold Md.put;rw[if_neg b];by_cases c:C r.length=true;rw[if_pos c,if_neg b];exact this;rw[if_neg c];exact this
def KK(h:GQ C (a::as))(c:C as.length=true):sh M0 C as a.kind a.k=hnd M0 as a.kind a.k:=zko (h.2 c).2
def IM:hnd M0 (a::as)=(hnd M0 as).put a.kind a.k a.x:=rfl
def C2(c:C as.length=true):sh M0 C (a::as)=(sh M0 C as).put a.kind a.k a.x:=if_pos c
def EN(c:¬ C as.length=true):sh M0 C (a::as)=sh M0 C as:=if_neg c
def GR:CV->Nat->Bool
 |.nm _ a,r=>a==r
 |_,_=>false
def ld(m0:Nat)(S:Md)(r:Nat):Nat:=(ρ m0).countP λk=>GR (S 0 k) r
def zkp(h:kind≠0):ld m0 (S.put kind k x) r=ld m0 S r:=by
 unfold ld
 congr 1
 funext j;rw[N1 h.symm]
def ZC:∀ {m0:Nat},k<m0->ld m0 (S.put 0 k x) r+(if GR (S 0 k) r then 1 else 0)=ld m0 S r+(if GR x r then 1 else 0):=by
 intro m0;unfold ld
 induction m0 with
 |zero=>intro h;exact nZ h
 |succ n b =>
  rw[bz,nc,nc];simp only[va,zi];by_cases e:k=n;subst e
  have:(ρ k).countP (λj=>GR ((S.put 0 k x) 0 j) r)=(ρ k).countP (λj=>GR _ r):=Gn λj a=>by
   rw[DT (a_<|ao.mp a)]
  rw[CZ]
  lia
  rw[DT (λz=>e z.symm)]
  lia
structure Snd(m0:Nat)(S:Md):Prop where
 nl:∀ k z r,k<m0->S 0 k=.nm z r->∃ m ps,S 3 r=.rc m ps
 ct:∀ r m ps,S 3 r=.rc m ps->ld m0 S r<=m
 mr:∀ r m ps,S 3 r=.rc m ps->S 1 r=.mk 1
 nd:∀ r m ps,S 3 r=.rc m ps->ps.Nodup
 pm:∀ r m ps,S 3 r=.rc m ps->∀ p∈ps,S 2 p=.mk 1/\∃ t,S 4 p=.tx t
 dj:∀ r r' m m' ps ps',r≠r'->S 3 r=.rc m ps->S 3 r'=.rc m' ps'->∀ p∈ps,p∉ps'
 un:∀ k k' z r r',k<m0->k'<m0->S 0 k=.nm z r->S 0 k'=.nm z r'->k=k'
def Snd.rmark(I:Snd m0 S)(h:i=1\/∀ m ps,S 3 r≠.rc m ps):Snd m0 (S.put 1 r<|.mk i):=by
 refine{I.nl,λa m ps e=>I.ct a m ps e,λa m ps e=>?_,I.nd,I.pm,I.dj,I.un};by_cases z:a=r;subst z;rw[CZ];let h||h:=h
 rw[h];exact absurd e<|h m ps;rw[DT z];exact I.mr a m ps e
def Snd.pmark(I:Snd m0 S)(h:i=1\/∀ r m ps,S 3 r=.rc m ps->p∉ps):Snd m0 (S.put 2 p<|.mk i):=by
 refine{I.nl,λa m ps e=>I.ct a m ps e,I.mr,I.nd,λa m ps e q b=>{?_,(I.pm a m ps e q b).2},I.dj,I.un};by_cases z:q=p;subst z;rw[CZ];let h||h:=h
 rw[h];exact absurd b<|h a m ps e;rw[DT z];exact(I.pm a m ps e q b).1
def Snd.text(I:Snd m0 S):Snd m0 (S.put 4 p<|.tx t):=by
 refine{I.nl,λa m ps e=>I.ct a m ps e,I.mr,I.nd,λa m ps e q b=>{(I.pm a m ps e q b).1,?_},I.dj,I.un};by_cases z:q=p;subst z;exact⟨t,CZ⟩;rw[DT z];exact(I.pm a m ps e q b).2
def Snd.gone(I:Snd m0 S)(b:k<m0):Snd m0 (S.put 0 k .no):=by
 have a:∀ {j z r},(S.put 0 k .no) 0 j=.nm z r->S 0 j=.nm z r:=λ{j z r} e=>by
  by_cases h:j=k;subst h;rw[CZ]at e;cases e;rw[DT h]at e;exact e
 refine{λj z r d e=>I.nl j z r d<|a e,λr m ps e=>?_,I.mr,I.nd,I.pm,I.dj,λj g z r i h h' e n=>I.un j g z r i h h' (a e) (a n)}
 have l:=ZC (S:=S) (x:=.no) (r:=r) b
 have c:=I.ct r m ps e;rw[show GR .no r=false from rfl]at l;simp only[kf]at l
 lia
def Snd.fill(I:Snd m0 S)(g:k<m0)(h3:S 3 r=.rc m ps)(i:ld m0 S r+1<=m)(hz:∀ j n,j<m0->S 0 j≠.nm z n)(h0:∀ z r,S 0 k≠.nm z r):Snd m0 (S.put 0 k<|.nm z r):=by
 have a:∀ {j y q},(S.put 0 k<|.nm z r) 0 j=.nm y q->(j=k/\y=z/\q=r)\/(j≠k/\S 0 j=.nm y q):=λ{j y q} e=>by
  by_cases h:j=k;subst h;rw[CZ]at e;cases e;exact .inl ⟨rfl,rfl,rfl⟩;rw[DT h]at e;exact .inr ⟨h,e⟩
 refine{λj y q o e=>?_,λq c p e=>?_,I.mr,I.nd,I.pm,I.dj,λj s y q u h h' e v=>?_};let[_,_,rfl]||[_,e]:=a e
 exact x2 m ps h3;exact I.nl j y q o e
 have l:=ZC (S:=S) (x:=.nm z r) (r:=q) g
 have e:S 3 q=.rc c _:=e;simp only[GR]at l;by_cases z:r=q;subst z;rw[e]at h3;cases h3;simp at l;exact l ▸ i;simp[z]at l;exact l ▸ (I.ct q c _ e);let[d,b,_]||[d,b]:=a e<;>let[f1,f2,_]||[f1,f2]:=a v
 rw[d,f1];subst b;exact absurd f2<|hz _ _ h';subst f2;exact absurd b<|hz _ _ h;exact I.un j s y q u h h' b f2
def Snd.recd(I:Snd m0 S)(o:ld m0 S r<=c)(s:S 1 r=.mk 1)(u:b.Nodup)(d:∀ p∈b,(S 2 p=.mk 1/\∃ t,S 4 p=.tx t)/\∀ q m ps,q≠r->S 3 q=.rc m ps->p∉ps):Snd m0 (S.put 3 r<|.rc c b):=by
 have a:∀ {q m ps},(S.put 3 r<|.rc c b) 3 q=.rc m ps->(q=r/\m=c/\ps=b)\/(q≠r/\S 3 q=.rc m ps):=λ{q m ps} e=>by
  by_cases h:q=r;subst h;rw[CZ]at e;cases e;exact .inl ⟨rfl,rfl,rfl⟩;rw[DT h]at e;exact .inr ⟨h,e⟩
 refine{λj z q v e=>?_,λq m ps e=>?_,λq m ps e=>?_,λq m ps e=>?_,λq m ps e p h=>?_,λq i m l ps w ne e A p h=>?_,I.un};by_cases h:q=r;subst h;exact x2 c _ CZ;rw[DT h];exact I.nl j z q v e;let[rfl,rfl,_]||[_,e]:=a e
 exact o;exact I.ct q m ps e;let[rfl,_,_]||[_,e]:=a e
 exact s;exact I.mr q m ps e;let[_,_,rfl]||[_,e]:=a e
 exact u;exact I.nd q m ps e;let[_,_,rfl]||[_,e]:=a e
 exact(d p h).1;exact I.pm q m ps e p h;let[g,_,rfl]||[g,n]:=a e<;>let[f1,_,rfl]||[f1,f2]:=a A
 exact absurd (g.trans f1.symm) ne;exact(d p h).2 i l _ (λz=>ne<|g.trans z.symm) f2;exact λz=>(d p z).2 q m ps (λy=>ne<|y.trans f1.symm) n h;exact I.dj q i m l ps _ ne n f2 p h
def Snd.count(I:Snd m0 S)(h3:S 3 r=.rc m ps)(b:ld m0 S r<=c):Snd m0 (S.put 3 r<|.rc c ps) :=
 I.recd b (I.mr r m ps h3) (I.nd r m ps h3) λp a=>{I.pm r m ps h3 p a,λq d g ne e=>I.dj r q m d ps _ ne.symm h3 e p a}
def Snd.less(I:Snd m0 S)(h3:S 3 r=.rc m ps)(hs:a.Sublist ps):Snd m0 (S.put 3 r<|.rc m a) :=
 I.recd (I.ct r m ps h3) (I.mr r m ps h3) ((I.nd r m ps h3).sublist hs) λp b=>{I.pm r m ps h3 p<|hs.subset b,λq c d ne e=>I.dj r q m c ps _ ne.symm h3 e p<|hs.subset b}
def Snd.more(I:Snd m0 S)(h3:S 3 r=.rc m ps)(h2:S 2 p=.mk 1)(h4:S 4 p=.tx t)(d:∀ q m ps,S 3 q=.rc m ps->p∉ps):Snd m0 (S.put 3 r<|.rc m<|ps++[p]):=by
 refine I.recd (I.ct r m ps h3) (I.mr r m ps h3) (om.mpr {I.nd r m ps h3,by simp,λx g y a e=>?_}) λy a=>?_;rw[aa]at a;subst a e;exact d r m ps h3 g;let a||a:=bc.mp a
 exact{I.pm r m ps h3 y a,λq b c ne e=>I.dj r q m b ps _ ne.symm h3 e y a};rw[aa.mp a];exact{⟨h2,t,h4⟩,λq b c z e=>d q b _ e}
def Snd.drop(I:Snd m0 S)(c:ld m0 S r=0):Snd m0 (S.put 3 r .no):=by
 have a:∀ {q m ps},(S.put 3 r .no) 3 q=.rc m ps->S 3 q=.rc m ps:=λ{q m ps} e=>by
  by_cases h:q=r;subst h;rw[CZ]at e;cases e;rw[DT h]at e;exact e
 refine{λj z q b e=>?_,λq m ps e=>(I.ct q m ps<|a e),λq m ps e=>I.mr q m ps<|a e,λq m ps e=>I.nd q m ps<|a e,λq m ps e=>I.pm q m ps<|a e,λq d m g ps i ne e l=>I.dj q d m g ps _ ne (a e) (a l),I.un};by_cases h:q=r;subst h
 have:0<ld m0 S q:=vy.mpr {j,ao.mpr b,by have e:S 0 j=.nm z q:=e;simp[e,GR]};exact absurd (c ▸ this) (by decide);rw[DT h];exact I.nl j z q b e
structure Hist(m0:Nat)(M0:Md)(as:bF)(t o:Str->Option Nat):Prop where
 sd:∀ C,GQ C as->Snd m0 (sh M0 C as)
 k1:∀ z k r,k<m0->hnd M0 as 0 k=.nm z r->IL 0 k as=o z
 k2:∀ z,(∀ k r,k<m0->hnd M0 as 0 k≠.nm z r)->t z=o z
 k3:∀ C z,GQ C as->(∀ j,o z=some j->C j=true)->∀ k r,k<m0->(sh M0 C as 0 k=.nm z r↔hnd M0 as 0 k=.nm z r)
theorem tM:∀ as:bF,GQ (λ_=>true) as
 | []=>trivial
 |_::r=>{tM r,λ_=>{λ_ _=>rfl,λ_ _=>rfl}}
variable{t o:Str->Option Nat}
def Hist.now(I:Hist m0 M0 as t o):Snd m0 (hnd M0 as):=I.sd _<|tM as
def Hist.step(I:Hist m0 M0 as t o)(i:a.kind≠0)(h:∀ C,GQ C (a::as)->C as.length=true->Snd m0 ((sh M0 C as).put a.kind a.k a.x)):Hist m0 M0 (a::as) t o:=by
 have j:∀ (C:yD) (k:Nat),sh M0 C _ 0 k=sh M0 C as 0 k:=λC k=>by
  by_cases c:C as.length=true;rw[C2 c,N1 i.symm];rw[EN c]
 have g:∀ k:Nat,hnd M0 _ 0 k=hnd M0 as 0 k:=j _;refine{λC d=>?_,λz k r b e=>?_,λz e=>I.k2 z λk r b=>by rw[<-g];exact e k r b,λC z d l k r b=>?_};by_cases c:C as.length=true;rw[C2 c];exact h C d c;rw[EN c];exact I.sd C d.1;rw[g]at e;unfold IL;rw[if_neg λz=>i z.1];exact I.k1 z k r b e;rw[j,g];exact I.k3 C z d.1 l k r b
def ES(f:Str->Option Nat)(z:Str)(j:Nat):Str->Option Nat:=λy=>if y=z then some j else f y
def Hist.fill(I:Hist m0 M0 as t o)(p:k<m0)(h0:hnd M0 as 0 k=.no)(hz:∀ j r,j<m0->hnd M0 as 0 j≠.nm z r)(s:∀ j,t z=some j->j∈nd)
  (h:∀ C,GQ C ({0,k,.nm z r,nd}::as)->C as.length=true->∃ m ps,sh M0 C as 3 r=.rc m ps/\ld m0 (sh M0 C as) r+1<=m):Hist m0 M0 ({0,k,.nm z r,nd}::as) t (ES o z as.length):=by
 have n:∀ {j y q},j<m0->hnd M0 as 0 j=.nm y q->j≠k/\y≠z:=λ{j y q} a e=>{λl=>(by rw[l,h0]at e;cases e),λl=>hz j q a<|l ▸ e}
 have free:∀ C,GQ C ({0,k,.nm z r,nd}::as)->C _=true->sh M0 C as 0 k=.no/\∀ j q,j<m0->sh M0 C as 0 j≠.nm z q:=λC b c=>{by rw[KK  b c];exact h0,λj q a e=>(hz j q a ((I.k3 C z b.1 (λi u=>(b.2 c).1 i (s i (by rw[(I.k2 z hz),u]))) j q a).mp e))}
 refine{λC b=>?_,λy j q a e=>?_,λy e=>?_,λC y b g j q a=>?_};by_cases c:C as.length=true;refine u2 ?_<|h C b c;intro m ps [h3,v];let[f1,f2]:=free C b c;rw[C2 c];exact(I.sd C b.1).fill p h3 v f2 λz r e=>by rw[f1]at e;cases e
 rw[EN c];exact I.sd C b.1;rw[IM]at e;unfold IL;by_cases d:j=k;subst d;rw[CZ]at e;cases e;rw[if_pos ⟨rfl,rfl⟩];exact(if_pos rfl).symm;rw[DT d]at e;rw[if_neg λw=>d w.2.symm];unfold ES;rw[if_neg (n a e).2];exact I.k1 y j q a e
 have A:y≠z:=λw=>by
  subst w;exact e k r p (by rw[IM,CZ])
 unfold ES;rw[if_neg A];refine I.k2 y λj q a l=>e j q a ?_;rw[IM,DT (n a l).1];exact l;rw[IM];by_cases c:C as.length=true;let[f1,f2]:=free C b c;rw[C2 c];by_cases d:j=k;subst d;rw[CZ,CZ];rw[DT d,DT d];by_cases w:y=z;subst w;exact{λe=>absurd e<|f2 j q a,λe=>absurd e<|hz j q a};unfold ES at g;rw[if_neg w]at g;exact I.k3 C y b.1 g j q a;rw[EN c];unfold ES at g;by_cases w:y=z;subst w;rw[if_pos rfl]at g;exact absurd (g _ rfl) c;rw[if_neg w]at g
 have k3:=I.k3 C y b.1 g j q a;by_cases d:j=k;subst d;rw[CZ];refine{λe=>?_,λe=>absurd (by cases e;rfl) w}
 have:=k3.mp e;rw[h0]at this;cases this;rw[DT d];exact k3
def Hist.gone(I:Hist m0 M0 as t o)(i:k<m0)(h0:hnd M0 as 0 k=.nm z r):Hist m0 M0 ({0,k,.no,nd}::as) (ES t z as.length) (ES o z as.length):=by
 have un:=I.now.un
 have only:=λ{j q} b e=>un j k z q r b i e h0;refine{λC d=>?_,λy j q b e=>?_,λy e=>?_,λC y d g j q b=>?_};by_cases c:C as.length=true;rw[C2 c];exact(I.sd C d.1).gone i;rw[EN c];exact I.sd C d.1;rw[IM]at e;by_cases a:j=k;subst a;rw[CZ]at e;cases e;rw[DT a]at e;unfold IL ES;rw[if_neg λw=>a w.2.symm,if_neg λw=>a<|only b (w ▸ e)];exact I.k1 y j q b e;unfold ES;by_cases w:y=z;rw[if_pos w,if_pos w];rw[if_neg w,if_neg w];refine I.k2 y λj q b l=>e j q b ?_
 have:j≠k:=λa=>by rw[a,h0]at l;cases l;exact w rfl
 rw[IM,DT this];exact l;rw[IM];unfold ES at g;by_cases c:C as.length=true;rw[C2 c];by_cases a:j=k;subst a;rw[CZ,CZ];rw[DT a,DT a];by_cases w:y=z;subst w;exact{λe=>absurd ((I.sd C d.1).un j k y q r b i e (by rw[KK  d c];exact h0)) a,λe=>absurd (only b e) a};rw[if_neg w]at g;exact I.k3 C y d.1 g j q b;rw[EN c];by_cases w:y=z;subst w;rw[if_pos rfl]at g;exact absurd (g _ rfl) c;rw[if_neg w]at g
 have k3:=I.k3 C y d.1 g j q b;by_cases a:j=k;subst a;rw[CZ];refine{λe=>?_,λe=>by cases e}
 have:=k3.mp e;rw[h0]at this;cases this;exact absurd rfl w;rw[DT a];exact k3
def Snd.ld0(I:Snd m0 S)(h:∀ m ps,S 3 r≠.rc m ps):ld m0 S r=0:=by
 refine List.countP_eq_zero.mpr λk b e=>?_;cases a:S 0 k with
 |nm z q =>
  simp only[a,GR,beq_iff_eq]at e;subst e;refine u2 ?_<|I.nl k z q (ao.mp b) a;rintro m ps e;exact h m ps e
 |_=>simp[a,GR]at e
def Hist.make(I:Hist m0 M0 as t o)(i:k<m0)(h0:hnd M0 as 0 k=.no)(hz:∀ j r,j<m0->hnd M0 as 0 j≠.nm z r)(h1:hnd M0 as 1 r≠.mk 1)(l:as.length+1∈nd)(n:∀ j,t z=some j->j∈nd) :
  Hist m0 M0 ({0,k,.nm z r,nd}::{3,r,.rc 1 [],[as.length]}::{1,r,.mk 1,[]}::as) t (ES o z<|as.length+2):=by
 have d:=I.step (a:={1,r,_,[]}) (by simp) λC b y=>(I.sd C b.1).rmark (.inl rfl)
 have no:∀ C,GQ C ({3,r,.rc 1 [],[as.length]}::{1,r,_,[]}::as)->C _=true->ld m0 _ r=0:=λC b c=>by
  refine(d.sd C b.1).ld0 λm ps e=>?_;rw[KK  b c]at e;exact h1<|I.now.mr r m ps e
 have p:=d.step (a:={3,r,_,_}) (by simp) λC b c=>by
  refine(d.sd C b.1).recd (by rw[no C b c];decide) ?_ jz (by simp);rw[C2 ((b.2 c).1 _ (by simp)),CZ]
 refine p.fill i (h0) (λj q s=>hz j q s) n λC b c=>?_
 have g:=(b.2 c).1 _ l;refine x2 1 [] {by rw[C2 g,CZ],?_};rw[C2 g,zkp (by simp),no C b.1 g];exact ο 1
def Hist.link(I:Hist m0 M0 as t o)(e:k<m0)(h0:hnd M0 as 0 k=.no)(hz:∀ j r,j<m0->hnd M0 as 0 j≠.nm z r)(h3:hnd M0 as 3 r=.rc m ps)(g:as.length∈nd)(i:∀ j,t z=some j->j∈nd) :
  Hist m0 M0 ({0,k,.nm z r,nd}::{3,r,.rc (m+1) ps,[]}::as) t (ES o z<|as.length+1):=by
 have b:∀ C,GQ C ({3,r,.rc (m+1) ps,[]}::as)->C _=true->sh M0 C as 3 r=.rc m ps:=λC a c=>by
  rw[KK  a c];exact h3
 refine(I.step  (by simp) λC a c=>(I.sd C a.1).count (b C a c) (ck<|(I.sd C a.1).ct r m ps (b C a c))).fill e (h0) (λj q l=>hz j q l) i λC a c=>?_
 have d:=(a.2 c).1 _ g;refine x2 _ ps {by rw[C2 d,CZ],?_};rw[C2 d];exact ym<|(I.sd C a.1.1).ct r m ps (b C a.1 d)
def Hist.fewer(I:Hist m0 M0 as t o)(j:k<m0)(h0:hnd M0 as 0 k=.nm z r)(h3:hnd M0 as 3 r=.rc m ps)(n:b.kind=3/\b.k=r/\as.length∈b.nd)(a:GQ C (b::{0,k,.no,nd}::as))(c:C (as.length+1)=true) :
  sh M0 C ({0,k,.no,nd}::as) 3 r=.rc m ps/\ld m0 (sh M0 C ({0,k,.no,nd}::as)) r+1<=m/\sh M0 C as 3 r=.rc m ps:=by
 let[p,q,s]:=n
 have d:=(a.2 c).1 _ s
 have g:sh M0 C ({0,k,.no,nd}::as) 3 r=.rc m ps:=by
  have:=KK (M0:=M0) a c;rw[p,q]at this;rw[this];exact h3
 have i:sh M0 C as 3 r=.rc m ps:=by
  rw[C2 d]at g;exact g
 have u:sh M0 C as 0 k=.nm z r:=by rw[KK  a.1 d];exact h0
 have l:=ZC (S:=sh M0 C as) (x:=.no) (r:=r) j;refine{g,?_,i};rw[u,show GR _ r=true from by simp[GR]]at l
 have e:ld m0 (sh M0 C ({0,k,.no,nd}::as)) r=ld m0 ((sh M0 C as).put 0 k .no) r:=by rw[C2 d]
 exact e ▸ l ▸ ((I.sd C a.1.1).ct r m ps i)
def Hist.unlead(I:Hist m0 M0 as t o)(a:k<m0)(h0:hnd M0 as 0 k=.nm z r)(h3:hnd M0 as 3 r=.rc (m+1) ps) :
  Hist m0 M0 ({3,r,.rc m ps,[as.length]}::{0,k,.no,nd}::as) (ES t z as.length) (ES o z as.length):=by
 have b:=I.gone (nd:=nd) a h0;exact b.step  (by simp) λC d c=>by
  let[e,g,y]:=I.fewer a h0 h3 {rfl,rfl,by simp} d c;exact(b.sd C d.1).count e (y_ g)
theorem Hist.unmark:∀ {ps:xE} {bs:bF},Hist m0 M0 bs t o->(∀ C,GQ C bs->C d=true->∀ q m b,sh M0 C bs 3 q=.rc m b->∀ p∈ps,p∉b)->Hist m0 M0 ((ps.map λp=>({2,p,.mk 0,[d]}:AC)).reverse++bs) t o
 | [],bs,I,_=>I
 | p::ps,bs,I,h=>by
  have:=Hist.unmark  (I.step (a:={2,p,.mk 0,[d]}) (by simp) λC g c=>(I.sd C g.1).pmark (.inr λr m b e=>h C g.1 ((g.2 c).1 d (by simp)) r m _ e p χ)) λC g j q m b e l i=>by
   have n:sh M0 C bs 3 q=.rc m b:=by
    by_cases c:C bs.length=true;rw[C2 c]at e;exact e;rw[EN c]at e;exact e
   exact h C g.1 j q m _ n l<|τ _ i
  rw[ci,oq,dw];exact this
def zkq(h:∀ a∈cs,a.kind≠i):sh M0 C (cs++as) i j=sh M0 C as i j:=by
 induction cs with
 |nil=>rfl
 |cons a r d =>
  have d:=d λb e=>h b<|τ _ e;rw[p_];by_cases c:C (r++as).length=true;rw[C2 c,N1 (h a χ).symm];exact d;rw[EN c];exact d
def Hist.dropped(I:Hist m0 M0 as t o)(d:k<m0)(h0:hnd M0 as 0 k=.nm z r)(h3:hnd M0 as 3 r=.rc m ps)(s:m<=1) :
  Hist m0 M0 ({1,r,.mk 0,[as.length+1]}::((ps.map λp=>({2,p,.mk 0,[as.length+1]}:AC)).reverse++{3,r,.no,[as.length]}::{0,k,.no,nd}::as)) (ES t z as.length) (ES o z as.length):=by
 have j:=I.gone (nd:=nd) d h0
 have u:=j.step (a:={3,r,_,[as.length]}) (by simp) λC b c=>by
  let[D,v,x]:=I.fewer d h0 h3 {rfl,rfl,by simp} b c;exact(j.sd C b.1).drop (Nat.le_zero.mp<|y_<|ψ v s)
 have l:=Hist.unmark   u λC b g q n i e p w=>by
  let[x,x,A]:=I.fewer d h0 h3 {rfl,rfl,by simp} b g;rw[C2 g]at e;by_cases z:q=r;subst z;rw[CZ]at e;cases e;rw[DT z,C2 ((b.2 g).1 _ (by simp))]at e;exact(I.sd C b.1.1).dj r q m n ps _ (λy=>z y.symm) A e p w
 refine l.step  (by simp) λC b c=>(l.sd C b.1).rmark (.inr λn i e=>?_);rw[zkq (λa B=>by
  let[p,x,rfl]:=ay.mp<|Ic.mp B;simp),C2 ((b.2 c).1 _ (by simp)),CZ]at e
 cases e
def Hist.put(I:Hist m0 M0 as t o){r m p:Nat}{ps:xE}{x:Str}(h2:hnd M0 as 2 p≠.mk 1)(h3:hnd M0 as 3 r=.rc m ps) :
  Hist m0 M0 ({3,r,.rc m<|ps++[p],[as.length+1]}::{4,p,.tx x,[as.length]}::{2,p,.mk 1,[]}::as) t o:=by
 have i:=I.step (a:={2,p,_,[]}) (by simp) λC b z=>(I.sd C b.1).pmark (.inl rfl)
 have j:=i.step (a:={4,p,.tx x,[as.length]}) (by simp) λC b z=>(i.sd C b.1).text;refine j.step  (by simp) λC b c=>?_
 have d:C (as.length+1)=true:=(b.2 c).1 _ (by simp)
 have g:C as.length=true:=(b.1.2 d).1 _ (by simp);refine(j.sd C b.1).more  ?_ ?_ (by rw[C2 d,CZ]) λq l n e s=>?_;rw[KK  b c];exact h3;rw[C2 d,N1 (by simp),C2 g,CZ];rw[C2 d,C2 g]at e
 have:=((I.sd C b.1.1.1).pm q l _ e p s).1;rw[KK  b.1.1 g]at this;exact h2 this
def Hist.take(I:Hist m0 M0 as t o)(h3:hnd M0 as 3 r=.rc m ps)(b:ps[i]? =some p) :
  Hist m0 M0 ({2,p,.mk 0,[as.length]}::{3,r,.rc m<|ps.eraseIdx i,[]}::as) t o:=by
 have d:∀ C,GQ C ({3,r,.rc m<|ps.eraseIdx i,[]}::as)->C _=true->sh M0 C as 3 r=.rc m ps:=λC a c=>by
  rw[KK  a c];exact h3
 have g:=I.step  (by simp) λC a c=>(I.sd C a.1).less (d C a c) (List.eraseIdx_sublist ..);refine g.step  (by simp) λC a c=>(g.sd C a.1).pmark (.inr λq s u e=>?_)
 have l:C as.length=true:=(a.2 c).1 _ (by simp)
 have n:=d C a.1 l;rw[C2 l]at e;by_cases z:q=r;subst z;rw[CZ]at e;cases e;exact λh=>by
  let[j,v,w]:=List.mem_eraseIdx_iff_getElem?.mp h;exact v ((List.getElem?_inj ((ζ.mp b).1) ((I.sd C a.1.1).nd q m ps n)).mp (b.trans w.symm)).symm
 rw[DT z]at e;exact(I.sd C a.1.1).dj r q m s ps _ (λy=>z y.symm) n e p (η b)
end
abbrev HR(a:Ad):Addr:=a "Hold"
def QW(ns:wE)(k:Nat):Int:=ns.getD k 0
example:(ZD):=∃ (s:Addr) (ns:wE) (k:Nat),vs=[.ref s,.int k]/\SqL K H s (ns.map V.int)/\ns.length<=1000/\Q (.int<|QW ns k) H
abbrev TB(K:W.Frag)(a:Ad):Prop:=sZ K (HR a) (a "Change")
abbrev D6(a:Ad)(H:Hp)(A:BA)(w:Nat)(rows:wC)(n:Nat)(cs:zE)(outs:vD):Prop:=BookAt a (HR a) H A w rows n cs outs
def UQ:Option Nat->V
 |none=>.non
 |some k=>.int k
def FS(n:Nat)(outs:vD):xE:=(ρ n).filter λ(k:Nat)=> !outs k
def AQ(l:xE):cF:=l.map λ(k:Nat)=>V.int k
abbrev onPl(rows:wC)(w:Nat)(i j:Int):Prop:=0<=i/\i<rows.length/\0<=j/\j<w
example:(ZE):=∃ x b c v d,vs=[.ref x,.ref c,v,.ref d]/\TB K a/\H x=some (.ins (a "Change") b [])/\Q .non (upd H x<|.ins (a "Change") b (F5 c v d))
example:(UR):=∃ (b c e o:Addr) (w:Nat) (rows:wC) (n:Nat),vs=[.ref b,.ref c]/\TB K a/\DM K a/\PlankAt a H c e w rows n/\H b=some (.ins (HR a) o []) /\
 ∀ (m g lt i:Addr) (j:wD) (d:Hp),H m=none->H g=none->H lt=none->H i=none->(∀ l∈j,H l=none)->D6 a d ⟨b,c,m,g,lt,i,j,e⟩ w rows n [] (λ_=>false)->SameBut (· =b) H d->Q .non d
example:(ZF):=∃ (nl:Addr) (ns:wE) (o:Option Nat),vs=[.ref nl,UQ o]/\SqL K H nl (ns.map V.int)/\ns.length<=60 /\
 ∀ (t:Addr) (a:wE) (b:Hp),Same H b->b t=some (.tup<|a.map V.int)->a.Pairwise (· <·)->(∀ x,x∈a↔x∈ns\/∃ k:Nat,o=some k/\x=k)->a.length<=ns.length+1->Q (.ref t) b
example:(ZG):=∃ (A:BA) (w:Nat) (rows:wC) (n:Nat) (cs:zE) (outs:vD) (b:Addr) (i j:Int),vs=[.ref A.b,.ref b]/\TB K a/\DM K a/\D6 a H A w rows n cs outs/\H b=some (.tup [.int i,.int j]) /\
 (onPl rows w i j->Q .non H)/\(¬ onPl rows w i j->E (.ref<|a "NoBlock") none H)
example:(QX):=∃ (A:BA) (w:Nat) (rows:wC) (n:Nat) (cs:zE) (outs:vD) (b:Addr) (i j:Int),vs=[.ref A.b,.ref b]/\TB K a/\DM K a/\D6 a H A w rows n cs outs/\H b=some (.tup [.int i,.int j]) /\
 (onPl rows w i j->Q (UQ<|D5 cs i j) H)/\(¬ onPl rows w i j->E (.ref<|a "NoBlock") none H)
abbrev known(cs:zE)(x:Int):Prop:=0<=x/\x<cs.length
example:(US):=∃ (A:BA) (w:Nat) (rows:wC) (n:Nat) (cs:zE) (outs:vD) (nl:Addr) (ns:wE),vs=[.ref A.b,.ref nl]/\TB K a/\D6 a H A w rows n cs outs/\SqL K H nl (ns.map V.int) /\
 ((∀ x∈ns,known cs x)->Q .non H)/\((∃ x∈ns,¬ known cs x)->E (.ref<|a "NoChange") none H)
example:(GS):=∃ (A:BA) (w:Nat) (rows:wC) (n:Nat) (cs:zE) (outs:vD) (c nl:Addr) (v:V) (ns:wE) (i j:Int),vs=[.ref A.b,.ref c,v,.ref nl]/\TB K a/\DM K a/\D6 a H A w rows n cs outs/\H c=some (.tup [.int i,.int j])/\SqL K H nl (ns.map V.int)/\ns.length<=60/\cs.length<990 /\
 (onPl rows w i j->(∀ x∈ns,known cs x)->∀ (nd:wE) (b:Hp),nd.Pairwise (· <·)->(∀ x,x∈nd↔x∈ns\/∃ k:Nat,D5 cs i j=some k/\x=k)->D6 a b A w rows n (cs++[⟨i.toNat,j.toNat,v,nd⟩]) outs->SameBut A.F H b->Q (.int cs.length) b) /\
 (¬ onPl rows w i j->E (.ref<|a "NoBlock") none H)/\(onPl rows w i j->(∃ x∈ns,¬ known cs x)->E (.ref<|a "NoChange") none H)
example:(UT):=∃ (A:BA) (w:Nat) (rows:wC) (n:Nat) (cs:zE) (outs:vD),vs=[.ref A.b]/\TB K a/\D6 a H A w rows n cs outs /\
 ∀ (l:Addr) (b:Hp),H l=none->Same H b->b l=some (.lst<|AQ<|FS cs.length outs)->Q (.ref l) b
example:(ZH):=∃ (A:BA) (w:Nat) (rows:wC) (n:Nat) (cs:zE) (outs:vD) (nl:Addr) (ns:wE),vs=[.ref A.b,.ref nl]/\TB K a/\D6 a H A w rows n cs outs/\SqL K H nl (ns.map V.int)/\ns.length<=1000 /\
  ((∀ x∈ns,known cs x)->∀ (l:Addr) (b:Hp) (R:vD),(∀ x∈ns,R x=true)->(∀ (k:Nat) (c:Ch),cs[k]? =some c->outs k=false->R k=true->∀ y∈c.nd,R y=true)->(∀ x,R x=true->x∈ns\/∃ (k:Nat) (c:Ch),cs[k]? =some c/\outs k=false/\R k=true/\x∈c.nd) ->
    H l=none->Same H b->b l=some (.lst<|AQ<|(FS cs.length outs).filter λ(k:Nat)=>R k)->Q (.ref l) b) /\
  ((∃ x∈ns,¬ known cs x)->E (.ref<|a "NoChange") none H)
def ET(cs:zE)(rows:wC)(i j:Int):Option V:=match D5 cs i j with
 |some k=>(cs[k]?).map (·.val)
 |none=>(rows[i.toNat]?).bind λr=>r[j.toNat]?
example:(N2):=∃ (A:BA) (w:Nat) (rows:wC) (n:Nat) (cs:zE) (outs:vD) (b:Addr) (i j:Int),vs=[.ref A.b,.ref b]/\TB K a/\DM K a/\D6 a H A w rows n cs outs/\H b=some (.tup [.int i,.int j]) /\
 (onPl rows w i j->∀ (v:V) (c:Hp),ET cs rows i j=some v->Same H c->Q v c)/\(¬ onPl rows w i j->E (.ref<|a "NoBlock") none H)
def ZI:Option Int->V
 |none=>.non
 |some k=>.int k
abbrev B8(kvs:vC)(x:Int):Bool:=(BE kvs<|.inl x).isSome
example:(ZJ):=∃ (A:BA) (w:Nat) (rows:wC) (n:Nat) (cs:zE) (outs:vD) (k:Nat) (c:Ch) (g:Addr) (b:vC),vs=[.ref A.b,.int k,.ref g]/\TB K a/\D6 a H A w rows n cs outs/\cs[k]? =some c/\H g=some (.dK b) /\
 Q (ZI (MR c.nd λx=>outs x||B8 b x)) H
example:(UU):=∃ (A:BA) (w:Nat) (rows:wC) (n:Nat) (cs:zE) (outs:vD) (b:Nat) (tk:Addr) (c:vC),vs=[.ref A.b,.int b,.ref tk]/\TB K a/\D6 a H A w rows n cs outs/\b<rows.length/\H tk=some (.dK c)/\c.length<=1000 /\
 ∀ (t ol d:Addr) (e:Hp),H ol=none->H d=none->ol≠d->Same H e->UK e t ol d (outcome cs outs (B8 c) b).out (outcome cs outs (B8 c) b).held->Q (.ref t) e
example:(ZK):=∃ (A:BA) (w:Nat) (rows:wC) (n:Nat) (cs:zE) (outs:vD) (b:Nat) (d:Addr) (row:cF),vs=[.ref A.b,.ref d,.int b]/\TB K a/\D6 a H A w rows n cs outs/\b<rows.length/\H d=some (.lst row)/\row.length=w /\
 ∀ (l:Addr) (c:Hp),H l=none->Same H c->c l=some (.lst<|EZ cs outs b row)->Q (.ref l) c
example:(ZL):=∃ (A:BA) (w:Nat) (rows:wC) (n:Nat) (cs:zE) (outs:vD) (b:Int),vs=[.ref A.b,.int b]/\TB K a/\DM K a/\D6 a H A w rows n cs outs /\
 (∀ (c:Nat) (row:cF) (t ol e:Addr) (d:Hp),b=c->rows[c]? =some row->H ol=none->H e=none->ol≠e->UK d t ol e (outcome cs outs (λ_=>false) c).out (outcome cs outs (λ_=>false) c).held ->
  D6 a d A w (rows.set c<|EZ cs (DS cs outs c) c row) (n+1) cs (DS cs outs c)->SameBut (λx=>A.F x\/x=A.gp) H d->Q (.ref t) d) /\
 (b<0\/rows.length<=b->E (.ref<|a "NoBlock") none H)
example:(ZM):=∃ (A:BA) (w:Nat) (rows:wC) (n:Nat) (cs:zE) (outs:vD) (k:Nat) (c:Ch),vs=[.ref A.b,.int k]/\TB K a/\D6 a H A w rows n cs outs/\cs[k]? =some c/\Q (.int c.blk) H
example:(ZN):=∃ (A:BA) (w:Nat) (rows:wC) (n:Nat) (cs:zE) (outs:vD) (nl:Addr) (ns:wE),vs=[.ref A.b,.ref nl]/\TB K a/\D6 a H A w rows n cs outs/\SqL K H nl (ns.map V.int)/\ns.length<=1000 /\
 ((∀ x∈ns,known cs x)->∀ (l:Addr) (row:xE) (R:vD) (b:Hp),UG cs outs ns R->KH cs outs (F8 cs.length outs R) row->row.length<=cs.length->H l=none->Same H b->b l=some (.lst<|AQ row)->Q (.ref l) b) /\
 ((∃ x∈ns,¬ known cs x)->∀ b,Same H b->E (.ref<|a "NoChange") none b)
def GoodV:Nat->Hp->V->Prop
 |0,_,_=>False
 |_+1,_,.int _=>True
 |_+1,_,.non=>True
 |_+1,_,.str z=>iz z=true
 |n+1,H,.ref p=>∃ xs,H p=some (.tup xs)/\xs.length<=100/\∀ v∈xs,GoodV n H v
 |_,_,_=>False
def UV(v:V):Prop:=v=.non\/∃ i,v=.int i
def BH(n r c w kind k:Nat):Nat:=(if kind=0 then 0 else if kind=1 then n+r+c else if kind=2 then n+r+c+r else if kind=3 then n else n+r)+k/w
def BR(n r c w kind:Nat):Nat:=(if kind=0 then n else if kind=1 then r else if kind=2 then c else if kind=3 then r else c)*w
def LP(kind:Nat)(v:V):Bool:=decide (v=.non)||(decide (0<kind)&&decide (v=.int 0))
def EU(f:yD)(m:Nat):Int:=match (ρ m).find? f with
 |some k=>k
 |none=> -1
def QY(H:Hp)(rows:wC):Prop:=∀ r∈rows,∀ v∈r,GoodV 4 H v
def goodH(H:Hp)(cs:zE)(rows:wC):Prop:=QY H rows/\∀ c∈cs,GoodV 4 H c.val
def MT(cs:zE)(rows:wC)(n r c w kind:Nat)(k:Nat):Bool:=match ET cs rows (BH n r c w kind k:Nat) (k%w:Nat)with
 |some v=>LP kind v
 |none=>false
example:(N3):=∃ (A:BA) (w:Nat) (rows:wC) (n:Nat) (cs:zE) (outs:vD) (d e:Addr) (c:wD) (xs:cF) (f:yD) (m:Nat),vs=[.ref A.b,.ref d,.ref e]/\TB K a/\DM K a/\D6 a H A w rows n cs outs/\H d=some (.lst<|c.map V.ref)/\c.length=m/\m<=1000/\H e=some (.tup xs)/\(∀ z∈xs,UV z) /\
 (∀ k t,c[k]? =some t->∃ i j v,H t=some (.tup [.int i,.int j])/\onPl rows w i j/\ET cs rows i j=some v/\GoodV 4 H v/\f k=decide (v∈xs)) /\
 (∀ k:Nat,EU f m=k->∀ b,Same H b->Q (.int k) b)/\(EU f m= -1->∀ b,Same H b->E (.ref<|a "NoRoom") none b)
def UW(kind:Nat)(K:W.Frag)(a:Ad)(p b:Addr)(H:Hp)(Q:VK)(E:XK):Prop:=∃ (A:BA) (n r c w:Nat) (rows:wC) (nn:Nat) (cs:zE) (outs:vD),b=A.b/\TB K a/\DM K a/\D8 K a/\LayAt a H p n r c w/\n<=6/\r<=6/\c<=6/\w<=6/\D6 a H A w rows nn cs outs/\rows.length=n+r+c+r+c/\(∀ i j v,ET cs rows i j=some v->GoodV 4 H v) /\
 (∀ k:Nat,EU (MT cs rows n r c w kind) (BR n r c w kind)=k->∀ d,Same H d->Q (.int k) d)/\(EU (MT cs rows n r c w kind) (BR n r c w kind)= -1->∀ d,Same H d->E (.ref<|a "NoRoom") none d)
example:(UX):=∃ p b,vs=[.ref p,.ref b]/\UW 0 K a p b H Q E
example:(ZO):=∃ p b,vs=[.ref p,.ref b]/\UW 1 K a p b H Q E
example:(ZP):=∃ p b,vs=[.ref p,.ref b]/\UW 2 K a p b H Q E
def LQ(c:Nat):Bool:=decide (32<=c)&&decide (c<=126)&&decide (c≠37)
def QZ(c:Nat):Bool:=decide (97<=c)&&decide (c<=122)
def BK(z:Str):Bool:=decide (1<=z.length)&&decide (z.length<=8)&&z.cps.toList.all QZ
def G6(z:Str):Bool:=decide (1<=z.length)&&decide (z.length<=40)&&z.cps.toList.all LQ
example:(ZQ):=∃ c:Nat,vs=[.str {#[c]}]/\Q (.bl<|LQ c) H
example:(ZR):=∃ z:Str,vs=[.str z]/\z.length<=1000/\∀ a,Same H a->Q (.bl<|BK z) a
example:(ZS):=∃ z:Str,vs=[.str z]/\z.length<=1000/\∀ a,Same H a->Q (.bl<|G6 z) a
structure Q0(K:W.Frag)(a:Ad):Prop where
 cl:Cls K (a "Store")
 n1:NoAttr K (a "Store") "plan"
 n2:NoAttr K (a "Store") "book"
 n3:NoAttr K (a "Store") "taken_out"
def sf(a b tk:Addr):xB:=[("plan",.ref a),("book",.ref b),("taken_out",.ref tk)]
structure SA where
 A:BA
 st:Addr
 lp:Addr
 tk:Addr
structure Hs where
 b:Md
 as:bF
abbrev Hs.f(M:Hs):Md:=hnd M.b M.as
instance:CoeFun Hs λ_=>Nat->Nat->CV:=⟨Hs.f⟩
def Hs.put(M:Hs)(kind k:Nat)(x:CV)(nd:xE):Hs:={M.b,⟨kind,k,x,nd⟩::M.as}
def Hs.put_at{M:Hs}:(M.put kind k x nd) i j=if i=kind/\j=k then x else M i j:=rfl
def RepC(H:Hp):CV->V->Prop
 |.no,v=>v=.non
 |.nm z k,v=>∃ t,v=.ref t/\H t=some (.tup [.str z,.int k])
 |.mk i,v=>v=.int i
 |.rc m ps,v=>∃ t u,v=.ref t/\H t=some (.tup [.int m,.ref u])/\H u=some (.tup<|AQ ps)
 |.tx z,v=>v=.str z
def FB:Nat->CV->Prop
 |_,.no=>True
 |0,.nm _ _=>True
 |1,.mk i=>i<=1
 |2,.mk i=>i<=1
 |3,.rc _ _=>True
 |4,.tx _=>True
 |_,_=>False
inductive LaidA(n r c w:Nat)(H:Hp):zE->bF->Prop
 |nil:LaidA n r c w H [] []
 |snoc {cs:zE} {as:bF} {ch:Ch} {x:AC}:LaidA n r c w H cs as->ch.blk=BH n r c w x.kind x.k->ch.cell=x.k%w->RepC H x.x ch.val->(∀ y:Int,y∈ch.nd↔(∃ j∈x.nd,y=(j:Nat))\/∃ j:Nat,IL x.kind x.k as=some j/\y=j)->x.kind<5->x.k<BR n r c w x.kind->LaidA n r c w H (cs++[ch]) (x::as)
structure SM(a:Ad)(H:Hp)(S:SA)(n r c w:Nat)(rows:wC)(nn:Nat)(cs:zE)(outs:vD)(tks:vC)(M:Hs):Prop where
 ob:∃ dx,H S.st=some (.ins (a "Store") dx (sf S.lp S.A.b S.tk))
 ly:LayAt a H S.lp n r c w
 bk:D6 a H S.A w rows nn cs outs
 tk:H S.tk=some (.dK tks)
 tl:tks.length<=cs.length
 tv:∀ z v,BE tks (.inr z)=some v->∃ k:Nat,v=.int k/\k<cs.length
 ap:¬ S.A.F S.tk
 sz:n<=6/\r<=6/\c<=6/\w<=6/\rows.length=n+r+c+r+c
 gd:goodH H cs rows
 rp:∀ kind k v,kind<5->k<BR n r c w kind->ET cs rows (BH n r c w kind k:Nat) (k%w:Nat)=some v->RepC H (M kind k) v
 ok:∀ kind k,kind<5->k<BR n r c w kind->FB kind (M kind k)
 la:LaidA n r c w H cs M.as
def D1(M:Hs)(k:Nat):Option (Str × Nat):=match M 0 k with
 |.nm z r=>some (z,r)
 |_=>none
def F9(M:Hs)(m:Nat):zD:=(ρ m).filterMap λk=>(D1 M k).map (·.1)
def cellOf(M:Hs)(m:Nat)(z:Str):Option Nat:=(ρ m).find? λk=>(D1 M k).any λp=>decide<|p.1=z
def G7(kind:Nat):CV->Bool
 |.no=>true
 |.mk i=>decide (0<kind)&&decide (i=0)
 |_=>false
def G8(M:Hs)(kind m:Nat):Int:=EU (λk=>G7 kind<|M kind k) m
abbrev CU(K:W.Frag)(a:Ad):Prop:=TB K a/\DM K a/\D8 K a/\Q0 K a
abbrev tN(cs:zE)(i j:Int)(x:Int):Prop:=∃ k:Nat,D5 cs i j=some k/\x=k
structure SX where
 S:SA
 n:Nat
 r:Nat
 c:Nat
 w:Nat
 rows:wC
 nn:Nat
 outs:Int->Bool
abbrev SX.at(X:SX)(a:Ad)(H:Hp)(cs:zE)(b:vC)(M:Hs):Prop:=SM a H X.S X.n X.r X.c X.w X.rows X.nn cs X.outs b M
abbrev SX.m0(X:SX):Nat:=X.n*X.w
example:(Q1):=∃ (x i b d e:Addr) (n r c w:Nat) (rows:wC) (nn:Nat) (M:Md),vs=[.ref x,.ref b,.ref d]/\CU K a/\H x=some (.ins (a "Store") i [])/\LayAt a H b n r c w/\PlankAt a H d e w rows nn/\(n<=6/\r<=6/\c<=6/\w<=6/\rows.length=n+r+c+r+c)/\QY H rows/\(∀ kind k v,kind<5->k<BR n r c w kind->ET [] rows (BH n r c w kind k:Nat) (k%w:Nat)=some v->RepC H (M kind k) v)/\(∀ kind k,kind<5->k<BR n r c w kind->FB kind (M kind k)) ∧
 ∀ (S:SA) (g:Hp),S.st=x->S.lp=b->S.A.gp=d->S.A.cl=e->(∀ y o,H y=some o->y=e\/¬ S.A.F y)->H S.tk=none->SM a g S n r c w rows nn [] (λ_=>false) [] {M,[]}->SameBut (· =x) H g->Q .non g
example:(ZT):=∃ (x c d b tk:Addr),vs=[.ref x]/\Q0 K a/\H x=some (.ins (a "Store") c (sf d b tk))/\Q (.ref b) H
example:(Q2):=∃ (X:SX) (cs:zE) (c:vC) (M:Hs),vs=[.ref X.S.st]/\CU K a/\X.at a H cs c M /\
 ∀ (l:Addr) (xs:cF) (b:Hp),Same H b->b l=some (.lst xs)->xs.length=X.m0->(∀ k v,xs[k]? =some v->RepC b (M 0 k) v)->Q (.ref l) b
example:(UY):=∃ (X:SX) (cs:zE) (b:vC) (M:Hs),vs=[.ref X.S.st]/\CU K a/\X.at a H cs b M /\
 ∀ (l:Addr) (c:zD) (d:Hp),H l=none->Same H d->d l=some (.lst<|c.map V.str)->c.Perm (F9 M X.m0)->yy c=true->Q (.ref l) d
example:(N4):=∃ (X:SX) (cs:zE) (b:vC) (M:Hs) (z:Str),vs=[.ref X.S.st,.str z]/\CU K a/\X.at a H cs b M/\∀ (c:Hp),Same H c->Q (UQ<|cellOf M X.m0 z) c
example:(KL):=∃ (X:SX) (cs:zE) (c:vC) (M:Hs) (z:Str),vs=[.ref X.S.st,.str z]/\CU K a/\X.at a H cs c M /\
 (∀ cell k,cellOf M X.m0 z=some cell->cell<X.m0->M 0 cell=.nm z k->∀ b,Same H b->Q (.int k) b)/\(cellOf M X.m0 z=none->∀ b,Same H b->E (.ref<|a "NoName") none b)
example:(JL):=∃ (X:SX) (cs:zE) (c:vC) (M:Hs) (b:Nat),vs=[.ref X.S.st,.int b]/\CU K a/\X.at a H cs c M/\b<X.r*X.w/\∀ v d,RepC d (M 3 b) v->Same H d->Q v d
example:(UZ):=∃ (X:SX) (cs:zE) (d:vC) (M:Hs) (z:Str) (e:Addr) (c:zD),vs=[.ref X.S.st,.str z,.ref e]/\CU K a/\X.at a H cs d M/\H e=some (.lst<|c.map V.str)/\c.length<=60/\(∀ y∈c,y.length<=1000) /\
 (c.all BK=true->cellOf M X.m0 z=none->∀ b,Same H b->Q .non b)/\(c.all BK=false->∀ b,Same H b->E (.ref<|a "NoName") none b)/\(c.all BK=true->(∃ k,cellOf M X.m0 z=some k)->∀ b,Same H b->E (.ref<|a "Twice") none b)
def U0(X:SX)(a:Ad)(H:Hp)(cs:zE)(b:vC)(d:Hs)(Q:VK):Prop:=∀ (ch:Ch) (c:Hp),X.at a c (cs++[ch]) b d->SameBut X.S.A.F H c->Q (.int cs.length) c
def FT(a:vC)(z:Str):xE:=match BE a (.inr z)with
 |some (.int k)=>[k.toNat]
 |_=>[]
abbrev LR(ns:wE):xE:=ns.map Int.toNat
example:(U1):=∃ (X:SX) (cs:zE) (b:vC) (M:Hs) (cell c need:Nat) (z:Str),vs=[.ref X.S.st,.int cell,.str z,.int c,.int need]/\CU K a/\X.at a H cs b M/\cell<X.m0/\need<cs.length/\cs.length<980/\iz z=true/\U0 X a H cs b (M.put 0 cell (.nm z c) (need::FT b z)) Q
example:(Q3):=∃ (X:SX) (cs:zE) (c:vC) (M:Hs) (b m d:Nat) (more:Int) (ps:xE) (nl:Addr) (ns:wE),vs=[.ref X.S.st,.int b,.int more,.ref nl]/\CU K a/\X.at a H cs c M/\b<X.r*X.w/\M 3 b=.rc m ps/\(m:Int)+more=d/\ps.length<=100/\H nl=some (.lst<|ns.map V.int)/\ns.length<=60/\(∀ x∈ns,known cs x)/\cs.length<980/\U0 X a H cs c (M.put 3 b (.rc d ps) (LR ns)) Q
example:(U2):=∃ (X:SX) (cs:zE) (d:vC) (M:Hs) (b m:Nat) (ps c:xE) (e nl:Addr) (ns:wE),vs=[.ref X.S.st,.int b,.ref e,.ref nl]/\CU K a/\X.at a H cs d M/\b<X.r*X.w/\M 3 b=.rc m ps/\H e=some (.tup<|AQ c)/\c.length<=100/\H nl=some (.lst<|ns.map V.int)/\ns.length<=60/\(∀ x∈ns,known cs x)/\cs.length<980/\U0 X a H cs d (M.put 3 b (.rc m c) (LR ns)) Q
example:(U3):=∃ (X:SX) (cs:zE) (b:vC) (M:Hs) (cell:Nat) (z:Str) (nl:Addr) (ns:wE),vs=[.ref X.S.st,.str z,.ref nl]/\CU K a/\X.at a H cs b M/\cellOf M X.m0 z=some cell/\cell<X.m0/\H nl=some (.lst<|ns.map V.int)/\ns.length<=60/\(∀ x∈ns,known cs x)/\cs.length<980 /\
 ∀ (ch:Ch) (c:Hp),X.at a c (cs++[ch]) (CD b (.inr z) (.int cs.length)) (M.put 0 cell .no<|LR ns)->SameBut (λx=>X.S.A.F x\/x=X.S.tk) H c->Q (.int cs.length) c
def Hs.unmark(M:Hs)(d:Nat)(ps:xE):Hs:=ps.foldl (λM p=>M.put 2 p (.mk 0) [d]) M
example:(ZU):=∃ (X:SX) (cs:zE) (c:vC) (M:Hs) (b m gone:Nat) (ps:xE),vs=[.ref X.S.st,.int b,.int gone]/\CU K a/\X.at a H cs c M/\b<X.r*X.w/\M 3 b=.rc m ps/\gone<cs.length/\(∀ p∈ps,p<X.c*X.w)/\ps.length<=36/\cs.length<940 /\
 ∀ (ex:zE) (l:Addr) (d:Hp),H l=none->d l=some (.lst (AQ ((ρ<|ps.length+2).map (cs.length+·))))->ex.length=ps.length+2->X.at a d (cs++ex) c (((M.put 3 b .no [gone]).unmark cs.length ps).put 1 b (.mk 0) [cs.length])->SameBut X.S.A.F H d->Q (.ref l) d
def MU(X:SX)(a:Ad)(H:Hp)(cs:zE)(d:Nat)(b:vC)(e:Hs)(Q:VK):Prop:=∀ (ex:zE) (l:Addr) (c:Hp),ex.length=d->H l=none->c l=some (.lst (AQ ((ρ d).map (cs.length+·))))->X.at a c (cs++ex) b e->SameBut (λx=>X.S.A.F x\/x=X.S.tk) H c->Q (.ref l) c
def EC(a:Ad)(H:Hp)(c:String)(E:XK):Prop:=∀ b,Same H b->E (.ref<|a c) none b
example:(Q4):=∃ (X:SX) (cs:zE) (c:vC) (M:Hs) (z:Str),vs=[.ref X.S.st,.str z]/\CU K a/\X.at a H cs c M/\z.length<=1000/\cs.length<930 /\
 (BK z=true->cellOf M X.m0 z=none->∀ b cell:Nat,G8 M 1 (X.r*X.w)=b->G8 M 0 X.m0=cell->b<X.r*X.w->cell<X.m0->MU X a H cs 3 c (((M.put 1 b (.mk 1) []).put 3 b (.rc 1 []) [cs.length]).put 0 cell (.nm z b) ((cs.length+1)::FT c z)) Q) /\
 (BK z=false->EC a H "NoName" E)/\(BK z=true->(∃ k,cellOf M X.m0 z=some k)->EC a H "Twice" E) ∧
 (BK z=true->cellOf M X.m0 z=none->(G8 M 1 (X.r*X.w)= -1\/G8 M 0 X.m0= -1)->EC a H "NoRoom" E)
example:(N5):=∃ (X:SX) (cs:zE) (c:vC) (M:Hs) (y z:Str),vs=[.ref X.S.st,.str y,.str z]/\CU K a/\X.at a H cs c M/\y.length<=1000/\z.length<=1000/\cs.length<930 /\
 (BK y=true->BK z=true->cellOf M X.m0 z=none->∀ old b cell:Nat,cellOf M X.m0 y=some old->old<X.m0->M 0 old=.nm y b->b<X.r*X.w/\∃ m ps,M 3 b=.rc m ps/\ps.length<=100/\(G8 M 0 X.m0=cell->cell<X.m0->MU X a H cs 2 c ((M.put 3 b (.rc (m+1) ps) []).put 0 cell (.nm z b) (cs.length::FT c z)) Q)) /\
 ((BK y&&BK z)=false->EC a H "NoName" E)/\(BK y=true->BK z=true->(∃ k,cellOf M X.m0 z=some k)->EC a H "Twice" E)/\(BK y=true->BK z=true->cellOf M X.m0 z=none->cellOf M X.m0 y=none->EC a H "NoName" E) ∧
 (BK y=true->BK z=true->cellOf M X.m0 z=none->(∃ k,cellOf M X.m0 y=some k)->G8 M 0 X.m0= -1->EC a H "NoRoom" E)
example:(Q5):=∃ (X:SX) (cs:zE) (c:vC) (M:Hs) (z:Str),vs=[.ref X.S.st,.str z]/\CU K a/\X.at a H cs c M/\cs.length<930 /\
 (∀ cell b:Nat,cellOf M X.m0 z=some cell->cell<X.m0->M 0 cell=.nm z b->b<X.r*X.w/\∃ m ps,M 3 b=.rc m ps/\(∀ p∈ps,p<X.c*X.w)/\ps.length<=36 /\
  (1<m->MU X a H cs 2 (CD c (.inr z) (.int cs.length)) ((M.put 0 cell .no []).put 3 b (.rc (m-1) ps) [cs.length]) Q)/\(m<=1->MU X a H cs (ps.length+3) (CD c (.inr z) (.int cs.length)) ((((M.put 0 cell .no []).put 3 b .no [cs.length]).unmark (cs.length+1) ps).put 1 b (.mk 0) [cs.length+1]) Q)) /\
 (cellOf M X.m0 z=none->EC a H "NoName" E)
example:(Q6):=∃ (X:SX) (cs:zE) (c:vC) (M:Hs) (z t:Str),vs=[.ref X.S.st,.str z,.str t]/\CU K a/\X.at a H cs c M/\t.length<=1000/\iz t=true/\cs.length<930 /\
 (∀ cell b:Nat,cellOf M X.m0 z=some cell->cell<X.m0->M 0 cell=.nm z b->G6 t=true->∀ p:Nat,G8 M 2 (X.c*X.w)=p->p<X.c*X.w->b<X.r*X.w/\∃ m ps,M 3 b=.rc m ps/\ps.length<=90/\MU X a H cs 3 c (((M.put 2 p (.mk 1) []).put 4 p (.tx t) [cs.length]).put 3 b (.rc m<|ps++[p]) [cs.length+1]) Q) /\
 (cellOf M X.m0 z=none->EC a H "NoName" E)/\((∃ k,cellOf M X.m0 z=some k)->G6 t=false->EC a H "NoPiece" E)/\((∃ k,cellOf M X.m0 z=some k)->G6 t=true->G8 M 2 (X.c*X.w)= -1->EC a H "NoRoom" E)
example:(U4):=∃ (X:SX) (cs:zE) (c:vC) (M:Hs) (z:Str),vs=[.ref X.S.st,.str z]/\CU K a/\X.at a H cs c M /\
 (∀ cell b:Nat,cellOf M X.m0 z=some cell->cell<X.m0->M 0 cell=.nm z b->b<X.r*X.w/\∃ m ps,M 3 b=.rc m ps/\ps.length<=100/\∃ e:zD,Paired (λp t=>p<X.c*X.w/\M 4 p=.tx t) ps e/\∀ l d,H l=none->Same H d->d l=some (.lst<|e.map V.str)->Q (.ref l) d) /\
 (cellOf M X.m0 z=none->EC a H "NoName" E)
example:(Q7):=∃ (X:SX) (cs:zE) (c:vC) (M:Hs) (z:Str) (x:Int),vs=[.ref X.S.st,.str z,.int x]/\CU K a/\X.at a H cs c M/\cs.length<930 /\
 (∀ cell b:Nat,cellOf M X.m0 z=some cell->cell<X.m0->M 0 cell=.nm z b->b<X.r*X.w/\∃ m ps,M 3 b=.rc m ps/\ps.length<=100/\((x<0\/ps.length<=x)->EC a H "NoPiece" E)/\(∀ (k p:Nat),x=k->ps[k]? =some p->p<X.c*X.w/\MU X a H cs 2 c ((M.put 3 b (.rc m<|ps.eraseIdx k) []).put 2 p (.mk 0) [cs.length]) Q)) ∧
 (cellOf M X.m0 z=none->EC a H "NoName" E)
example:(Q8):=∃ (X:SX) (cs:zE) (c:vC) (M:Hs) (y z:Str),vs=[.ref X.S.st,.str y,.str z]/\CU K a/\X.at a H cs c M/\y.length<=1000/\z.length<=1000/\cs.length<920 /\
 (BK y=true->BK z=true->cellOf M X.m0 z=none->∀ old b cell:Nat,cellOf M X.m0 y=some old->old<X.m0->M 0 old=.nm y b->b<X.r*X.w/\∃ m ps,M 3 b=.rc m ps/\ps.length<=100/\(G8 M 0 X.m0=cell->cell<X.m0->MU X a H cs 4 (CD c (.inr y) (.int (cs.length+2:Nat))) ((((M.put 3 b (.rc (m+1) ps) []).put 0 cell (.nm z b) (cs.length::FT c z)).put 0 old .no [cs.length+1]).put 3 b (.rc m ps) [cs.length+2]) Q)) /\
 ((BK y&&BK z)=false->EC a H "NoName" E)/\(BK y=true->BK z=true->(∃ k,cellOf M X.m0 z=some k)->EC a H "Twice" E)/\(BK y=true->BK z=true->cellOf M X.m0 z=none->cellOf M X.m0 y=none->EC a H "NoName" E) ∧
 (BK y=true->BK z=true->cellOf M X.m0 z=none->(∃ k,cellOf M X.m0 y=some k)->G8 M 0 X.m0= -1->EC a H "NoRoom" E)
abbrev U5(X:SX)(p:Nat × Nat):cF:=[.int (BH X.n X.r X.c X.w p.1 p.2:Nat),.int (p.2%X.w:Nat)]
def JM(cell a:Nat)(ps:xE):List (Nat × Nat):=(0,cell)::(3,a)::ps.map λp=>(4,p)
example:(ZV):=∃ (X:SX) (cs:zE) (d:vC) (M:Hs) (z:Str),vs=[.ref X.S.st,.str z]/\CU K a/\X.at a H cs d M /\
 (∀ cell b,cellOf M X.m0 z=some cell->cell<X.m0->M 0 cell=.nm z b->b<X.r*X.w/\∃ m ps,M 3 b=.rc m ps/\ps.length<=100/\(∀ p∈ps,p<X.c*X.w)/\∀ l e c,Same H c->c l=some (.lst<|e.map V.ref)->Paired (λt p=>c t=some (.tup<|U5 X p)) e (JM cell b ps)->Q (.ref l) c) /\
 (cellOf M X.m0 z=none->EC a H "NoName" E)
def N6(X:SX)(cs:zE)(a:List (Nat × Nat)):wE:=a.filterMap λp=>(D5 cs (BH X.n X.r X.c X.w p.1 p.2:Nat) (p.2%X.w:Nat)).map λ(k:Nat)=>(k:Int)
example:(N7):=∃ (X:SX) (cs:zE) (c:vC) (M:Hs) (z:Str),vs=[.ref X.S.st,.str z]/\CU K a/\X.at a H cs c M /\
 (∀ cell b,cellOf M X.m0 z=some cell->cell<X.m0->M 0 cell=.nm z b->b<X.r*X.w/\∃ m ps,M 3 b=.rc m ps/\ps.length<=100/\(∀ p∈ps,p<X.c*X.w)/\∀ l row R d,UG cs X.outs (N6 X cs<|JM cell b ps) R->KH cs X.outs (F8 cs.length X.outs R) row->row.length<=cs.length->H l=none->Same H d->d l=some (.lst<|AQ row)->Q (.ref l) d) /\
 (cellOf M X.m0 z=none->EC a H "NoName" E)
abbrev N8:=Option<|Str × Nat
abbrev JN:=Option<|Int × xE
structure Vw where
 nm:List N8
 rc:List JN
 pc:List (Option Str)
 rm:List (Option Int)
 pm:List (Option Int)
def AY{α :Type}(l:List (Option α))(k:Nat):Option α :=(l[k]?).join
def LS:JN->xE
 |none=>[]
 |some (_,ps)=>ps
def MV(nm:List N8):xE:=nm.filterMap λc=>c.map (·.2)
def E3(rc:List JN):xE:=rc.flatMap LS
def led(a:Vw)(r:Nat):Nat:=(MV a.nm).count r
def E4(a:Vw)(p:Nat):Nat:=(E3 a.rc).count p
def LT(a:Vw):List JN:=((ρ a.rc.length).filter λr=>decide<|0<led a r).map (AY a.rc)
def GT(a:Vw)(p:Nat):Nat:=(E3<|LT a).count p
abbrev _root_.xC:=Nat->List V
def DJ(n:Nat)(p:yD)(f:xC):wC:=((ρ n).filter p).map f
def HS(a:Vw)(k:Nat):Bool:=match AY a.nm k with
 |none=>false
 |some c=>(AY a.rc c.2).isNone
def IN(a:Vw)(k:Nat):Bool:=match AY a.nm k with
 |none=>false
 |some c=>(ρ k).any λj=>match AY a.nm j with
  |none=>false
  |some d=>decide<|d.1=c.1
def JO(a:Vw)(r:Nat):Bool:=match AY a.rc r with
 |none=>false
 |some c=>decide<|c.1<(led a r:Int)
def GA(a:Vw)(r:Nat):Bool:=match AY a.rc r with
 |none=>false
 |some c=>decide (0<led a r)&&decide ((led a r:Int)<c.1)
def Q9(a:Vw):wC:=DJ a.nm.length (HS a) (λk=>[.str "lost",.int k])++DJ a.nm.length (IN a) (λk=>[.str "twice",.int k])
def RA(a:Vw):wC:=DJ a.pc.length (λp=>decide<|1<E4 a p) (λp=>[.str "shared",.int p])++DJ a.pc.length (λp=>decide (0<E4 a p)&&(AY a.pc p).isNone) (λp=>[.str "empty",.int p])++DJ a.rc.length (JO a) (λr=>[.str "few",.int r])
def RB(a:Vw):wC:=DJ a.rc.length (λr=>decide (0<led a r) && !decide (AY a.rm r=some 1)) (λr=>[.str "free",.str "record",.int r])++DJ a.pc.length (λp=>decide (0<E4 a p) && !decide (AY a.pm p=some 1)) (λp=>[.str "free",.str "piece",.int p])
def faults(a:Vw):wC:=Q9 a++RA a++RB a
def MW(a:Vw):wC:=DJ a.rc.length (GA a) (λr=>[.str "many",.int r,.int<|led a r])++DJ a.rc.length (λr=>(AY a.rc r).isSome&&decide (led a r=0)) (λr=>[.str "left",.str "record",.int r])
def MX(a:Vw):wC:=DJ a.pc.length (λp=>decide (AY a.pm p=some 1)&&decide (GT a p=0)) (λp=>[.str "left",.str "piece",.int p])
def MY(a:Vw):wC:=DJ a.rc.length (λr=>decide (AY a.rm r=some 1)&&(AY a.rc r).isNone) (λr=>[.str "marked",.int r])
def FC(a:Vw):wC:=MW a++MX a++MY a
structure EK(vw:Vw):Prop where
 n1:∀ c,some c∈vw.nm->c.2<vw.rc.length/\iz c.1=true
 n2:∀ c,some c∈vw.rc->(∀ p∈c.2,p<vw.pc.length)/\c.2.length<=20
 n3:∀ s,some s∈vw.pc->iz s=true
 l1:vw.rm.length=vw.rc.length
 l2:vw.pm.length=vw.pc.length
 bn:vw.nm.length<=100
 br:vw.rc.length<=100
 bp:vw.pc.length<=100
def NmV(H:Hp)(v:V):N8->Prop
 |none=>v=.non
 |some c=>∃ p,v=.ref p/\H p=some (.tup [.str c.1,.int c.2])
def RcV(H:Hp)(v:V):JN->Prop
 |none=>v=.non
 |some c=>∃ p q,v=.ref p/\H p=some (.tup [.int c.1,.ref q])/\H q=some (.tup<|AQ c.2)
def PcV(_:Hp)(v:V):Option Str->Prop
 |none=>v=.non
 |some s=>v=.str s
def MkV(_:Hp)(v:V):Option Int->Prop
 |none=>v=.non
 |some i=>v=.int i
def LstAt{α :Type}(R:Hp->V-> α ->Prop)(H:Hp)(p:Addr)(cs:List α):Prop:=∃ vs,H p=some (.lst vs)/\Paired (R H) vs cs
def FindsL(H:Hp)(l:Addr)(fs:wC):Prop:=∃ ps:wD,H l=some (.lst<|ps.map V.ref)/\Paired (λp f=>H p=some (.tup f)) ps fs
structure TV(K:W.Frag)(a:Ad):Prop where
 cl:Cls K (a "View")
 n1:NoAttr K (a "View") "name_values"
 n2:NoAttr K (a "View") "record_values"
 n3:NoAttr K (a "View") "piece_values"
 n4:NoAttr K (a "View") "record_marks"
 n5:NoAttr K (a "View") "piece_marks"
 n6:NoAttr K (a "View") "leads"
 n7:NoAttr K (a "View") "namings"
 n8:NoAttr K (a "View") "reached"
def tO(a:Ad)(H:Hp)(x:Addr)(f:Str)(v:V):Prop:=∃ b fs,H x=some (.ins (a "View") b fs)/\fs.lookup f=some v
structure VA where
 n:Addr
 r:Addr
 p:Addr
 rm:Addr
 pm:Addr
 ld:Addr
 ng:Addr
 rh:Addr
def vf(A:VA):xB:=[("name_values",.ref A.n),("record_values",.ref A.r),("piece_values",.ref A.p),("record_marks",.ref A.rm),("piece_marks",.ref A.pm),("leads",.ref A.ld),("namings",.ref A.ng),("reached",.ref A.rh)]
structure ViewAt(a:Ad)(H:Hp)(x:Addr)(A:VA)(vw:Vw):Prop where
 ob:∃ dx,H x=some (.ins (a "View") dx (vf A))
 n:LstAt NmV H A.n vw.nm
 r:LstAt RcV H A.r vw.rc
 p:LstAt PcV H A.p vw.pc
 rm:LstAt MkV H A.rm vw.rm
 pm:LstAt MkV H A.pm vw.pm
 ld:H A.ld=some (.lst<|AQ<|(ρ vw.rc.length).map (led vw))
 ng:H A.ng=some (.lst<|AQ<|(ρ vw.pc.length).map (E4 vw))
 rh:H A.rh=some (.lst<|AQ<|(ρ vw.pc.length).map (GT vw))
 ok:EK vw
structure PlV(H:Hp)(rows:wC)(n r c w:Nat)(vw:Vw):Prop where
 vs:∃ v1 v2 v3 v4 v5:cF,rows.flatten=v1++v2++v3++v4++v5/\Paired (NmV H) v1 vw.nm/\Paired (RcV H) v2 vw.rc/\Paired (PcV H) v3 vw.pc/\Paired (MkV H) v4 vw.rm/\Paired (MkV H) v5 vw.pm
 ln:vw.nm.length=n*w
 lr:vw.rc.length=r*w
 lp:vw.pc.length=c*w
 ok:EK vw
def newL(vs:cF)(H:Hp)(Q:VK):Prop:=∀ l a,H l=none->Same H a->a l=some (.lst vs)->Q (.ref l) a
def newF(fs:wC)(H:Hp)(Q:VK):Prop:=∀ l a,H l=none->Same H a->FindsL a l fs->Q (.ref l) a
def LU(rows:wC)(b j:Nat):V:=(((rows[b]?).bind (·[j]?)).getD .non)
example:(LV):=∃ (c g d:Addr) (w:Nat) (rows:wC) (m:Nat) (e:wD) (ps:List (Nat × Nat)),vs=[.ref c,.ref d]/\DM K a/\PlankAt a H c g w rows m/\H d=some (.lst<|e.map V.ref)/\Paired (λt (b:Nat × Nat)=>H t=some (.tup [.int b.1,.int b.2])) e ps/\(∀ b∈ps,b.1<rows.length/\b.2<w)/\ps.length<=1000 /\
 newL (ps.map λb=>LU rows b.1 b.2) H Q
example:(RC):=∃ (many:Nat) (nl:Addr) (a:xE),vs=[.int many,.ref nl]/\H nl=some (.lst<|AQ a)/\(∀ k∈a,k<many)/\many<=1000/\a.length<=10000/\newL (AQ<|(ρ many).map λk=>a.count k) H Q
example:(U6):=∃ (rl:Addr) (cs:List JN),vs=[.ref rl]/\LstAt RcV H rl cs/\cs.length<=100/\(∀ c,some c∈cs->c.2.length<=20)/\newL (AQ<|E3 cs) H Q
example:(ZW):=∃ (x d e:Addr) (b:Vw),vs=[.ref x]/\TV K a/\tO a H x "record_values" (.ref d)/\tO a H x "leads" (.ref e)/\LstAt RcV H d b.rc/\H e=some (.lst<|AQ<|(ρ b.rc.length).map (led b))/\b.rc.length<=100/\∀ l c,H l=none->Same H c->LstAt RcV c l (LT b)->Q (.ref l) c
example:(U7):=∃ (x:Addr) (A:VA) (b:Vw),vs=[.ref x]/\TV K a/\ViewAt a H x A b/\newL (AQ<|(ρ b.rc.length).filter λr=>(AY b.rc r).isSome) H Q
example:(RD):=∃ (x:Addr) (A:VA) (b:Vw),vs=[.ref x]/\TV K a/\ViewAt a H x A b/\newL (AQ<|(ρ b.pc.length).filter λp=>decide<|0<E4 b p) H Q
example:(U8):=∃ (x:Addr) (A:VA) (b:Vw) (r:Nat) (c:Int × xE),vs=[.ref x,.int r]/\TV K a/\ViewAt a H x A b/\AY b.rc r=some c/\Q (.int c.1) H
def LW(f:Vw->wC)(K:W.Frag)(a:Ad):Sp:=λvs H Q _=>∃ (x:Addr) (A:VA) (b:Vw),vs=[.ref x]/\TV K a/\ViewAt a H x A b/\newF (f b) H Q
def ZX(K:W.Frag)(a:Ad):Sp:=LW Q9 K a
def ZY(K:W.Frag)(a:Ad):Sp:=LW RA K a
def ZZ(K:W.Frag)(a:Ad):Sp:=LW RB K a
def U9(K:W.Frag)(a:Ad):Sp:=LW faults K a
def Z0(K:W.Frag)(a:Ad):Sp:=LW MW K a
def Z1(K:W.Frag)(a:Ad):Sp:=LW MX K a
def Z2(K:W.Frag)(a:Ad):Sp:=LW MY K a
def Z3(K:W.Frag)(a:Ad):Sp:=LW FC K a
example:(RE):=∃ (x i d e j:Addr) (n r c w:Nat) (rows:wC) (m:Nat) (g:Vw),vs=[.ref x,.ref d,.ref e]/\TV K a/\D8 K a/\DM K a/\H x=some (.ins (a "View") i [])/\LayAt a H d n r c w/\PlankAt a H e j w rows m/\rows.length=n+r+c+r+c/\PlV H rows n r c w g ∧
 ∀ (A:VA) (b:Hp),ViewAt a b x A g->SameBut (· =x) H b->Q .non b
def Ground(K:W.Frag)(a:Ad)(H:Hp)(b d:Addr)(e:Vw):Prop:=∃ (g:Addr) (n r c w:Nat) (rows:wC) (m:Nat),TV K a/\D8 K a/\DM K a/\LayAt a H b n r c w/\PlankAt a H d g w rows m/\rows.length=n+r+c+r+c/\PlV H rows n r c w e
example:(N9):=∃ (c d:Addr) (b:Vw),vs=[.ref c,.ref d]/\Ground K a H c d b/\newF (faults b++FC b) H Q
example:(Z4):=∃ (b c:Addr) (d:Vw),vs=[.ref b,.ref c]/\Ground K a H b c d/\∀ e,Same H e->Q (.bl<|decide<|faults d=[]) e
def FU(a:Vw)(r:Nat):JN:=match AY a.rc r with
 |none=>none
 |some c=>if led a r=0 then none else some ((led a r:Int),c.2)
def KM(a:Vw)(r:Nat):Option Int:=match AY a.rc r with
 |none=>if AY a.rm r=some 1 then some 0 else AY a.rm r
 |some _=>if led a r=0 then some 0 else AY a.rm r
def MZ(a:Vw)(p:Nat):Option Int:=if AY a.pm p=some 1/\GT a p=0 then some 0 else AY a.pm p
def mended(a:Vw):Vw:={a.nm,(ρ a.rc.length).map (FU a),a.pc,(ρ a.rc.length).map (KM a),(ρ a.pc.length).map (MZ a)}
inductive Cel where
 |nm (c:N8)
 |rc (c:JN)
 |pc (c:Option Str)
 |mk (c:Option Int)
deriving DecidableEq
def CelV(H:Hp)(v:V):Cel->Prop
 |.nm c=>NmV H v c
 |.rc c=>RcV H v c
 |.pc c=>PcV H v c
 |.mk c=>MkV H v c
def Cel.kind:Cel->Nat
 |.nm _=>0
 |.rc _=>1
 |.pc _=>2
 |.mk _=>3
def Cel.ok:Cel->Prop
 |.nm (some c)=>iz c.1=true
 |.pc (some s)=>iz s=true
 |_=>True
abbrev _root_.yE:=List Cel
def D2(a:Vw):yE:=a.nm.map .nm++a.rc.map .rc++a.pc.map .pc++a.rm.map .mk++a.pm.map .mk
def DU(w:Nat)(cs:yE)(b:Nat):yE:=(cs.drop<|b*w).take w
def OA(w n:Nat)(cs a:yE):Nat:=((ρ n).filter λb=> !decide (DU w cs b=DU w a b)).length
inductive Lv where
 |many (r:Nat)
 |leftR (r:Nat)
 |leftP (p:Nat)
 |marked (r:Nat)
def FD(a:Vw):List Lv:=((ρ a.rc.length).filter (GA a)).map .many++((ρ a.rc.length).filter λr=>(AY a.rc r).isSome&&decide (led a r=0)).map .leftR++((ρ a.pc.length).filter λp=>decide (AY a.pm p=some 1)&&decide (GT a p=0)).map .leftP++((ρ a.rc.length).filter λr=>decide (AY a.rm r=some 1)&&(AY a.rc r).isNone).map .marked
def tP(a:Vw):Lv->cF
 |.many r=>[.str "many",.int r,.int<|led a r]
 |.leftR r=>[.str "left",.str "record",.int r]
 |.leftP p=>[.str "left",.str "piece",.int p]
 |.marked r=>[.str "marked",.int r]
def E5(a:Vw)(n r c w:Nat):Lv->List (Nat × Cel)
 |.many k=>[(n*w+k,.rc<|FU a k)]
 |.leftR k=>[(n*w+k,.rc none),((n+r+c)*w+k,.mk<|some 0)]
 |.leftP k=>[((n+r+c+r)*w+k,.mk<|some 0)]
 |.marked k=>[((n+r+c)*w+k,.mk<|some 0)]
def pk(w f:Nat):List AM:=[.inl ((f/w:Nat):Int),.inl ((f%w:Nat):Int)]
structure Site(K:W.Frag)(a:Ad)(H:Hp)(ly gp cl:Addr)(n r c w:Nat)(rows:wC)(m:Nat)(vw:Vw):Prop where
 tv:TV K a
 tl:D8 K a
 tp:DM K a
 la:LayAt a H ly n r c w
 pl:PlankAt a H gp cl w rows m
 rl:rows.length=n+r+c+r+c
 pv:PlV H rows n r c w vw
 w1:1<=w
 w6:w<=6
 n6:n<=6
 r6:r<=6
 c6:c<=6
example:(Z5):=∃ (g i o fd:Addr) (n r c w:Nat) (rows:wC) (m:Nat) (b:Vw) (e:Lv),vs=[.ref g,.ref i,.ref fd]/\Site K a H g i o n r c w rows m b/\e∈FD b/\H fd=some (.tup<|tP b e) /\
 ∀ (dl:Addr) (more:vA) (d:Hp),H dl=none->Same H d->d dl=some (.dT more)->Paired (λ(j:List AM × V) (l:Nat × Cel)=>j.1=pk w l.1/\CelV d j.2 l.2) more (E5 b n r c w e)->TX more->Q (.ref dl) d
example:(Z6):=∃ (e i dl:Addr) (w:Nat) (rows:wC) (m:Nat) (kvs:vA) (cs d:yE),vs=[.ref e,.ref dl]/\DM K a/\PlankAt a H e i w rows m/\rows.length<=30/\1<=w/\w<=6/\H dl=some (.dT kvs)/\Paired (CelV H) rows.flatten cs/\d.map Cel.kind=cs.map Cel.kind/\(∀ c∈cs,c.ok)/\(∀ c∈d,c.ok) /\
 (∀ (f:Nat) (c j:Cel),cs[f]? =some c->d[f]? =some j->(BE kvs (pk w f)=none/\j=c)\/∃ v,BE kvs (pk w f)=some v/\CelV H v j) /\
 ∀ (b:wC) (g:Hp),PlankAt a g e i w b (m+OA w rows.length cs d)->b.length=rows.length->Paired (CelV g) b.flatten d->SameBut (λx=>x=e\/x=i) H g->Q .non g
example:(tQ):=∃ (l g i:Addr) (n r c w:Nat) (rows:wC) (m:Nat) (d:Vw),vs=[.ref l,.ref g]/\Site K a H l g i n r c w rows m d/\faults d=[] /\
 ∀ (j:Addr) (b:wC) (e:Hp),H j=none->FindsL e j (FC d)->PlankAt a e g i w b (m+OA w rows.length (D2 d) (D2<|mended d))->b.length=n+r+c+r+c->PlV e b n r c w (mended d)->SameBut (λx=>x=g\/x=i) H e->Q (.ref j) e
def SX.wr(X:SX)(cs:zE)(b:Nat)(row:cF):SX:={ X with rows:=X.rows.set b<|EZ cs (DS cs X.outs b) b row,nn:=X.nn+1,outs:=DS cs X.outs b }
example:(VB):=∃ (X:SX) (cs:zE) (c:vC) (M:Hs) (b:Nat) (row:cF),vs=[.ref X.S.st,.int b]/\CU K a/\X.at a H cs c M/\X.rows[b]? =some row/\∀ t ol e d,H ol=none->H e=none->UK d t ol e (outcome cs X.outs (λ_=>false) b).out (outcome cs X.outs (λ_=>false) b).held->(X.wr cs b row).at a d cs c M->SameBut (λx=>X.S.A.F x\/x=X.S.A.gp) H d->Q (.ref t) d
def LX(a:vC):Str->Option Nat:=λz=>(FT a z).head?
def RowsAre(H:Hp)(n r c w:Nat)(rows:wC)(S:Md):Prop:=∀ kind k v,kind<5->k<BR n r c w kind->(rows[BH n r c w kind k]?).bind (λq=>q[k%w]?)=some v->RepC H (S kind k) v
structure InL(n r c w:Nat)(S:Md):Prop where
 no:∀ kind k,¬ k<BR n r c w kind->S kind k=.no
 ok:∀ kind k,FB kind<|S kind k
abbrev SX.C(X:SX):Nat->Bool:=λj=>X.outs (j:Nat)
structure C6(a:Ad)(H:Hp)(X:SX)(cs:zE)(tks:vC)(M:Hs):Prop where
 st:X.at a H cs tks M
 hi:∃ o,Hist X.m0 M.b M.as (LX tks) o
 bo:InL X.n X.r X.c X.w M.b
 cut:UM cs X.outs
 rows:RowsAre H X.n X.r X.c X.w X.rows (sh M.b X.C M.as)
 few:X.c*X.w<=18
 ok:∀ x∈M.as,FB x.kind x.x
 w1:1<=X.w
def OB:CV->N8
 |.nm z r=>some (z,r)
 |_=>none
def LY:CV->JN
 |.rc m ps=>some ((m:Int),ps)
 |_=>none
def RF:CV->Option Str
 |.tx z=>some z
 |_=>none
def FE:CV->Option Int
 |.mk i=>some (i:Int)
 |_=>none
def BV(n r c w:Nat)(S:Md):Vw:={(ρ<|n*w).map λk=>OB<|S 0 k,(ρ<|r*w).map λk=>LY<|S 3 k,(ρ<|c*w).map λk=>RF<|S 4 k,(ρ<|r*w).map λk=>FE<|S 1 k,(ρ<|c*w).map λk=>FE<|S 2 k}
def CO(n r c w:Nat)(S:Md):Md:=λkind k =>
 if kind=1 then(match S 3 k with
  |.rc _ _=>if ld (n*w) S k=0 then .mk 0 else S 1 k
  |_=>match S 1 k with
   |.mk i=>if i=1 then .mk 0 else .mk i
   |x=>x)
 else if kind=2 then(match S 2 k with
  |.mk i=>if i=1/\GT (BV n r c w S) k=0 then .mk 0 else .mk i
  |x=>x)
 else if kind=3 then(match S 3 k with
  |.rc _ ps=>if ld (n*w) S k=0 then .no else .rc (ld (n*w) S k) ps
  |x=>x)
 else S kind k
structure Gnd(K:W.Frag)(a:Ad)(H:Hp)(ly gp cl:Addr)(n r c w:Nat)(rows:wC)(nn:Nat)(S:Md):Prop where
 tv:TV K a
 t4:CU K a
 la:LayAt a H ly n r c w
 pl:PlankAt a H gp cl w rows nn
 sz:n<=6/\r<=6/\c<=6/\w<=6/\rows.length=n+r+c+r+c
 few:c*w<=18
 w1:1<=w
 gd:QY H rows
 rw:RowsAre H n r c w rows S
 bo:InL n r c w S
 sd:Snd (n*w) S
def Z7(K:W.Frag)(a:Ad):Sp:=tQ K a
example:(Z8):=∃ (e b d:Addr) (n r c w:Nat) (rows:wC) (nn:Nat) (S:Md),vs=[.ref e,.ref b]/\Gnd K a H e b d n r c w rows nn S /\
 ∀ (X:SX) (g:Hp),X.S.lp=e->X.S.A.gp=b->X.S.A.cl=d->X.n=n->X.r=r->X.c=c->X.w=w->(∀ y o,H y=some o->y=d\/¬ X.S.A.F y)->H X.S.tk=none->C6 a g X [] [] {CO n r c w S,[]}->SameBut (λx=>x=b\/x=d) H g->Q (.ref X.S.st) g
structure Z9(K:W.Frag)(a:Ad):Prop where
 cl:Cls K (a "House")
 n1:NoAttr K (a "House") "plan"
 n2:NoAttr K (a "House") "ground"
 n3:NoAttr K (a "House") "store"
def OC:wB:=[("make",2),("link",3),("cut",2),("put",3),("take",3),("move",3),("write",2),("keep",2),("show",2),("names",1),("stop",1)]
def KN:zD:=["make","link","cut","put","take","move"]
def M3:zD:=["take","write"]
structure EL(K:W.Frag)(a:Ad):Prop where
 s4:CU K a
 ho:Z9 K a
 dd:∀ H,SqT K H (a "DEEDS") (KN.map V.str)
 wn:∀ H,SqT K H (a "WITH_A_NUMBER_LAST") (M3.map V.str)
def hf(a b st:Addr):xB:=[("plan",.ref a),("ground",.ref b),("store",.ref st)]
def LZ(w:xE):Bool:=decide (1<=w.length)&&decide (w.length<=3)&&w.all (λc=>decide (48<=c)&&decide (c<=57))&&(decide (w=[48])||decide (w.head? ≠some 48))
def L0(ws:List (xE)):Option (zD):=match HP OC (C1<|ws.headD [])with
 |none=>none
 |some n =>
  let vs:=if C1 (ws.headD [])=("put":Str)then UA ws else ws
  if(vs.length:Int)≠n then none else
  if C1 (ws.headD [])∈M3/\LZ (vs.getLastD [])=false then none else some (vs.map C1)
def D7(z:Str):Option (zD):=L0<|CY z.cps.toList
example:(aA):=∃ z:Str,vs=[.str z]/\z.length<=1000/\∀ a,Same H a->Q (.bl<|LZ z.cps.toList) a
example:(aB):=∃ z:Str,vs=[.str z]/\EL K a/\z.length<=900 /\
 (∀ ws,D7 z=some ws->∀ l b,H l=none->Same H b->b l=some (.lst<|ws.map V.str)->Q (.ref l) b)/\(D7 z=none->EC a H "NoRow" E)
example:(VC):=∃ (t ol a:Addr) (out:xE) (held:List (Nat × Int)),vs=[.ref t]/\UK H t ol a out held/\out.length<=1000/\held.length<=1000/\Q (.str<|CF out.length++(" ":Str)++CF held.length) H
def JP(a:zD):Str:=if a=[]then "-" else Txt.join " " a
example:(RG):=∃ (l:Addr) (a:zD),vs=[.ref l]/\H l=some (.lst<|a.map V.str)/\(a.map (·.length)).sum+a.length<=1000/\Q (.str<|JP a) H
def VD(a:Ad)(H:Hp)(st:Addr):Prop:=∃ c d b tk,H st=some (.ins (a "Store") c (sf d b tk))
example:(aC):=∃ (h c d b st:Addr),vs=[.ref h]/\Z9 K a/\H h=some (.ins (a "House") c (hf d b st))/\Q (.ref b) H
def HsC(a:Ad)(H:Hp)(h:Addr)(X:SX)(cs:zE)(b:vC)(M:Hs):Prop:=(∃ c,H h=some (.ins (a "House") c (hf X.S.lp X.S.A.gp X.S.st)))/\C6 a H X cs b M
abbrev SX.G(X:SX):Addr->Prop:=λx=>X.S.A.F x\/x=X.S.tk
structure Nx(H:Hp)(X:SX)(H':Hp)(X':SX):Prop where
 lp:X'.S.lp=X.S.lp
 sz:X'.n=X.n/\X'.r=X.r/\X'.c=X.c/\X'.w=X.w
 o:∀ l o,H l=some o->(∀ C d f,o≠.ins C d f)->¬ X.G l->H' l=some o/\¬ X'.G l
example:(RH):=∃ (st l:Addr) (ws:zD),vs=[.ref st,.ref l]/\VD a H st/\H l=some (.lst<|ws.map V.str) /\
  ((∃ y,ws=[("make":Str),y]/\Q4 K a [.ref st,.str y] H (λ_ b=>Q .non b) E)\/(∃ y t,ws=[("put":Str),y,t]/\Q6 K a [.ref st,.str y,.str t] H (λ_ b=>Q .non b) E) ∨
   (∃ y z,ws=[("link":Str),y,z]/\N5 K a [.ref st,.str y,.str z] H (λ_ b=>Q .non b) E)\/(∃ y z,ws=[("move":Str),y,z]/\Q8 K a [.ref st,.str y,.str z] H (λ_ b=>Q .non b) E) ∨
   (∃ y,ws=[("cut":Str),y]/\Q5 K a [.ref st,.str y] H (λ_ b=>Q .non b) E)\/∃ y w x,ws=[("take":Str),y,w]/\w.length<=640/\intText? w=some x/\Q7 K a [.ref st,.str y,.int x] H (λ_ b=>Q .non b) E)
example:(RI):=∃ (st l:Addr) (ws:zD),vs=[.ref st,.ref l]/\VD a H st/\H l=some (.lst<|ws.map V.str) /\
  ((∃ b:Nat,ws=[("write":Str),CF b]/\b<1000/\VB K a [.ref st,.int b] H (λv c=>VC K a [v] c Q E) E) ∨
   (∃ y,ws=[("keep":Str),y]/\N7 K a [.ref st,.str y] H (λv c=>∃ p row,v=.ref p/\c p=some (.lst<|AQ row)/\row.length<=300/\(∀ b∈row,b<100)/\∀ d,Same c d->Q (.str<|JP<|row.map λ(b:Nat)=>CF b) d) E) ∨
   (ws=[("names":Str)]/\UY K a [.ref st] H (λv c=>RG K a [v] c Q E) E) ∨
   ∃ y,ws=[("show":Str),y]/\U4 K a [.ref st,.str y] H (λv c=>LC K (.str "") [v] c Q) E)
example:(RJ):=∃ (h:Addr) (X:SX) (cs:zE) (b:vC) (M:Hs),vs=[.ref h]/\EL K a/\TV K a/\HsC a H h X cs b M /\
 ∀ (c:SX) (d:Hp),HsC a d h c [] [] {CO X.n X.r X.c X.w<|sh M.b X.C M.as,[]}->Nx H X d c->c.S.A.gp=X.S.A.gp->Q (.str<|CF (FC<|BV X.n X.r X.c X.w<|sh M.b X.C M.as).length) d
example:(FF):=∃ (h c d e st:Addr) (z:Str),vs=[.ref h,.str z]/\EL K a/\H h=some (.ins (a "House") c (hf d e st))/\VD a H st/\z.length<=900 ∧
 ∃ w ws,D7 z=some (w::ws)/\∀ l b,Same H b->b l=some (.lst<|(w::ws).map V.str) ->
  (w∈KN/\RH K a [.ref st,.ref l] b (λ_ g=>Q (.str "ok") g) E)\/(w="stop"/\RJ K a [.ref h] b Q E)\/(w∉KN/\w≠"stop"/\RI K a [.ref st,.ref l] b Q E)
example:(aD):=∃ (h e b:Addr) (n r c w:Nat),vs=[.ref h,.ref b]/\EL K a/\TV K a/\H h=some (.ins (a "House") e [])/\LayAt a H b n r c w/\(n<=6/\r<=6/\c<=6/\1<=w/\w<=6/\c*w<=18) ∧
 ∀ (X:SX) (d:Hp),X.S.lp=b->X.n=n->X.r=r->X.c=c->X.w=w->(∀ y,X.G y->H y=none)->HsC a d h X [] [] {λ_ _=>.no,[]}->SameBut (· =h) H d->Q .non d
example:(aE):=∃ x:Int,vs=[.int x]/\∀ (l:Addr) (a:zD) (b:Hp),H l=none->Same H b->b l=some (.lst<|a.map V.str)->a.length=5->(∀ z∈a,BK z=true)->Q (.ref l) b
example:(aF):=∃ x:Int,vs=[.int x]/\∀ (t:Str) (a:Hp),G6 t=true->Same H a->Q (.str t) a
structure TD(K:W.Frag)(a:Ad):Prop where
 n1:W.exmAny K (.ref<|a "NoName") [.ref (a "NoName"),.ref<|a "Twice"]=some true
 t1:W.exmAny K (.ref<|a "Twice") [.ref (a "NoName"),.ref<|a "Twice"]=some true
 p1:W.exmAny K (.ref<|a "NoPiece") [.ref (a "NoName"),.ref<|a "Twice"]=some false
 p2:W.exmAny K (.ref<|a "NoPiece") [.ref (a "NoPiece"),.ref<|a "NoRoom"]=some true
 r1:W.exmAny K (.ref<|a "NoRoom") [.ref (a "NoName"),.ref<|a "Twice"]=some false
 r2:W.exmAny K (.ref<|a "NoRoom") [.ref (a "NoPiece"),.ref<|a "NoRoom"]=some true
 n2:W.exmOne K (.ref<|a "NoName") (.ref<|a "NoName")=some true
def RK:CV->Bool
 |.mk i=>i==1
 |_=>false
def D9(c:Nat)(S:Md):Nat:=(ρ c).countP λp=>RK<|S 2 p
def OD(a:zD):CV->Prop
 |.nm z _=>z∈a
 |.tx t=>t.length<=40
 |_=>True
structure EM(M:Hs)(zs:zD):Prop where
 b:∀ kind k,OD zs<|M.b kind k
 s:∀ x∈M.as,OD zs x.x
def VE(H:Hp)(nl:Addr)(a:zD):Prop:=H nl=some (.lst<|a.map V.str)/\a.length=5/\∀ z∈a,BK z=true
example:(aG):=∃ (g i j:Addr) (n r c w:Nat) (rows:wC) (m:Nat),vs=[.ref g,.ref i]/\D8 K a/\DM K a/\LayAt a H g n r c w/\PlankAt a H i j w rows m/\rows.length=n+r+c+r+c/\rows.length<=30/\w<=6 /\
 ∀ (d:Addr) (kvs:vA) (e:Hp),Same H e->e d=some (.dT kvs)->(∀ b k:Nat,b<rows.length->k<w->BE kvs [.inl (b:Int),.inl (k:Int)]=(rows[b]?).bind λq=>q[k]?)->Q (.ref d) e
def aH(a:zD)(k:Int)(z:Str):Prop:=z.length<=900/\∃ y∈a,∃ v∈a,(k<2/\D7 z=some [("make":Str),y])\/(k=2/\D7 z=some [("link":Str),y,v])\/(2<k/\(D7 z=some [("cut":Str),y]\/(∃ t,G6 t=true/\D7 z=some [("put":Str),y,t])\/(∃ b:Nat,b<6/\D7 z=some [("take":Str),y,CF b])\/D7 z=some [("move":Str),y,v]))
example:(aI):=∃ (x:Int) (nl:Addr) (a:zD),vs=[.int x,.ref nl]/\VE H nl a/\∀ z b,Same H b->aH a (x%8) z->Q (.str z) b
example:(aJ):=∃ (h:Addr) (X:SX) (cs:zE) (g:vC) (M:Hs) (k:Int) (z:Str) (e:zD),vs=[.ref h,.str z]/\EL K a/\TD K a/\HsC a H h X cs g M/\cs.length<900/\(∀ z∈e,BK z=true)/\EM M e/\aH e k z/\(∀ b,Same H b->Q .non b) /\
 ∀ (c:zE) (d:vC) (i:Hs) (b:Hp),HsC a b h X c d i->c.length+D9 (X.c*X.w) i<=cs.length+D9 (X.c*X.w) M+4->EM i e->Nx H X b X->Q (.str "ok") b
structure StD(S:Md)(m:Nat)(kvs:vC):Prop where
 k:kvs.map (·.1)=(F9 {S,[]} m).map λz=>(vc z:AM)
 v:∀ key v,(key,v)∈kvs->∃ z k r n ps ts,key=.inr z/\k<m/\S 0 k=.nm z r/\S 3 r=.rc n ps/\Paired (λp t=>S 4 p=.tx t) ps ts/\v=.str (Txt.join "" ts)
example:(VF):=∃ (X:SX) (cs:zE) (b:vC) (M:Hs) (e:zD),vs=[.ref X.S.lp,.ref X.S.A.gp]/\EL K a/\C6 a H X cs b M/\EM M e/\∀ d kvs c,H d=none->Same H c->c d=some (.dK kvs)->StD (sh M.b X.C M.as) X.m0 kvs->Q (.ref d) c
example:(VG):=∃ (h:Addr) (X:SX) (cs:zE) (b:vC) (M:Hs) (c:zD),vs=[.ref X.S.lp,.ref h,.ref X.S.A.gp]/\EL K a/\TV K a/\HsC a H h X cs b M/\(∀ z∈c,BK z=true)/\EM M c /\
 ∀ (d:SX) (e:Hs) (g:Hp),HsC a g h d [] [] e->e.as=[]->EM e c->Nx H X g d->d.S.A.gp=X.S.A.gp->Q (.bl true) g
example:(aK):=∃ (h nl:Addr) (X:SX) (M:Hs) (b:zD),vs=[.ref h,.ref X.S.lp,.ref X.S.A.gp,.ref nl]/\EL K a/\TD K a/\HsC a H h X [] [] M/\M.as=[]/\VE H nl b/\EM M b/\∀ c,Same H c->Q (.bl true) c
example:(tR):=∃ (s:Addr) (ns:wE),vs=[.ref s]/\TV K a/\EL K a/\TD K a/\SqL K H s (ns.map V.int)/\ns.length<=63/\∀ b,Q (.bl true) b
abbrev FK:=W.Frag
abbrev XE:=St->XK
abbrev RT:=FK->Ad->XE->XE->TS
def A3{f g:RT}(h:∀ K a E b,f K a E b=g K a E b){K a E b D c H}:f K a E b D c H=g K a E b D c H:=by rw[h]
abbrev DV:TE:=tC<|.int 0
abbrev C3:TE:=tC<|.int 1
abbrev RL:TE:=tC<|.int 2
abbrev HU:TE:=tC<|.int 3
abbrev zkr:TE:=tC<|.int 4
abbrev RM:TE:=tC<|.int 5
abbrev RN:TE:=tC<|.int 6
abbrev VH:TE:=tC<|.int 7
abbrev VJ:TE:=tC<|.int 8
abbrev zks:TE:=tC<|.int 9
abbrev DW(n:Int):TE:=tC<|.int n
abbrev AF(a:TE):TA:=D4 a BM
abbrev BD(a b:TE):TA:=D4 a<|D4 b BM
abbrev C9(a b x2:TE):TA:=D4 a<|D4 b<|D4 x2 BM
abbrev RO(a b x2 x3:TE):TA:=D4 a<|D4 b<|D4 x2<|D4 x3 BM
abbrev BG(K:W.Frag)(x:TE)(n:Int):TE:=AD (B7 K) x (tC<|.int n)
abbrev AB:TE:=EJ 0
abbrev AJ:TE:=EJ 1
abbrev AR:TE:=EJ 2
abbrev BB:TE:=EJ 3
abbrev BW:TE:=EJ 4
abbrev CM:TE:=EJ 5
abbrev FG:TE:=EJ 6
abbrev L3:TE:=EJ 7
abbrev zkt:TE:=EJ 8
section
variable{K:FK}{a:Ad}{n:Nat}{E E1:XE}{D:Ends}{σ:St}{H:Hp}
local macro_rules
 |`(command|example : $x:term := ([$q,*],[$p,*]))=>do
  let i:=Lean.mkIdent
  let m (k:Nat):=Lean.Name.mkSimple s!"{x.raw.getId}{k}"
  let mut r:=#[]
  for k in [:p.getElems.size] do
   r:=(r.push<|<-`(command|def $(i<|m k):ident:RT:=fun $(i `K):ident $(i `a):ident $(i `E):ident $(i `E1):ident=>$(p.getElems[k]!))).push (<-`(command|theorem $(i<|(m k).appendAfter "_"):ident:type_of%(@A3 _ _ $(i<|m k++`eq_1)):=rfl))
  let f:=fun (y:Lean.Term)=>`($(i<|m y.raw.isNatLit?.get!) $(i `K) $(i `a) $(i `E) $(i `E))
  let q:=q.getElems
  let t<-q.pop.foldrM (fun y z=>do `(AH $(<-f y) $z)) (<-f q.back!)
  return Lean.mkNullNode (r.push<|<-`(command|def $(i x.raw.getId):ident ($(i `K):ident:FK) ($(i `a):ident:Ad) ($(i `E):ident:XE):TS:=$t))
 |`(command|example : $x:term := [$p,*])=>do
  let i:=Lean.mkIdent
  let f:=fun (y:Lean.Term)=>`($y $(i `K) $(i `a) $(i `E) $(i `E))
  let q:=p.getElems
  let t<-q.pop.foldrM (fun y z=>do `(AH $(<-f y) $z)) (<-f q.back!)
  `(command|def $(i x.raw.getId):ident ($(i `K):ident:FK) ($(i `a):ident:Ad) ($(i `E):ident:XE):TS:=$t)
 |`(command|example : $x:term := $t:term)=>do
  let i:=Lean.mkIdent
  let n:=x.raw.getId
  return Lean.mkNullNode #[←`(command|def $(i n):ident : RT := fun $(i `K):ident $(i `a):ident $(i `E):ident $(i `E1):ident => $t),←`(command|theorem $(i<|n.appendAfter "_"):ident : type_of%(@A3 _ _ $(i<|n++`eq_1)) := rfl)]
example:tS:=([0],[AV (B0 (FQ K<|AF<|AS K AB "record_values") (FL K 2<|DP (AG 0) (DP (AG 1) FJ)) (A5<|AD IG (AD (B7 K) (AS K AR "leads") AB) DV) AJ 2 [0])])
example:tT:=([0],[AV (B0 (FQ K<|AF<|AS K AB "record_values") (FL K 2<|DP (AG 0) (DP (AG 1) FJ)) (A5<|AD FY AJ<|tC .non) AB 2 [])])
example:tU:=([0],[AV (B0 (FQ K<|AF<|AS K AB "namings") (FL K 2<|DP (AG 0) (DP (AG 1) FJ)) (A5<|AD IG AJ DV) AB 2 [])])
example:tV:=([0],[AV (BG K (AD (B7 K) (AS K AB "record_values") AJ) 0)])
example:t3:=([0,1,2,9,10],[AT (CG BM) (AG 1),AT (CG BM) (AG 2),AT IF<|AG 3,CP<|DZ K "list" FR AJ<|AF<|C7<|BD (tC<|.str "lost") BW,BL (A5<|AD HM (AD (B7 K) (AS K AB "record_values") (BG K CM 1)) (tC .non)) (t33 K a E E) BU,CP<|DZ K "list" FR AR<|AF<|C7<|BD (tC<|.str "twice") BW,BL (A5<|JF (BG K CM 0) BB) (t35 K a E E) BU,FZ BB (BG K CM 0) (tC<|.bl true),BL (A5<|AD FY CM<|tC .non) (AH (t34 K a E E) (AH (t36 K a E E) (t37 K a E E))) BU,C4 (FQ K<|AF<|AS K AB "name_values") (LH K 2<|IJ (AG 4) (IJ (AG 5) LJ)) (t38 K a E E),AV<|AD (BF K) AJ AR])
example:aN:=([0,1],[AT (B0 (FQ K<|AF<|AS K AB "piece_marks") (FL K 2<|DP (AG 0) (DP (AG 1) FJ)) (A5<|AD (CK K) AJ C3) AB 2 []) (AG 1),AV<|B0 (CI K AJ) (AG 0) (A5<|AD (CK K) (AD (B7 K) (AS K AJ "reached") AB) DV) (C7<|C9 (tC<|.str "left") (tC<|.str "piece") AB) 1 [0]])
example:aO:=([0,1],[AT (B0 (FQ K<|AF<|AS K AB "record_marks") (FL K 2<|DP (AG 0) (DP (AG 1) FJ)) (A5<|AD (CK K) AJ C3) AB 2 []) (AG 1),AV<|B0 (CI K AJ) (AG 0) (A5<|AD HM (AD (B7 K) (AS K AJ "record_values") AB) (tC .non)) (C7<|BD (tC<|.str "marked") AB) 1 [0]])
example:aP:=([0,2,3],[AT (B0 (DR<|AF AB) (AG 0) CQ DV 1 []) (AG 2),TU K AR BB C3 O7,C4 (CI K AJ) (AG 3) (aP1 K a E E),AV AR])
example:uE:=([0,3,4],[AT (CG BM) (AG 1),CP<|DZ K "list" (YB K) AJ (AF<|BG K AR 1),BL (A5<|AD FY AR<|tC .non) (uE1 K a E E) BU,C4 (CI K AB) (AG 2) (uE2 K a E E),AV AJ])
example:uF:=([0,1,2],[CT K AB AJ "place",CT K AB AR "value",CT K AB BB "needs"])
example:uG:=([0],[AV (B0 (DR<|AF<|CA (DQ K) (AF<|AS K AB "made")) (AG 0) (A5<|HN AB<|AS K AJ "outs") AB 1 [0])])
example:uH:=([0],[AV (BG K (AS K (AD (B7 K) (AS K AB "made") AJ) "place") 0)])
example:uK:=([2],[E9 (a "NoChange") E (AF<|tC<|.str "there is no change of such a number"),BL (FI<|A5<|FA EB GK DV AR<|CA (DQ K) (AF<|AS K AB "made")) (uK0 K a E E) BU,C4 (CI K AJ) (AG 2) (uK1 K a E E)])
example:VM:=([1,2],[AV (CA (LG K) (AF<|TK K AB)),BL (A5<|AD HM AJ<|tC .non) (VM0 K a E E) BU,AV<|CA (LG K) (AF<|TK K<|AD (BF K) (CA (LF K) (AF AB)) (CG<|AF AJ))])
example:uP:=([2,3],[AV BB,BL (KY (A5<|HN BB<|AS K AB "outs") (A5<|HN BB AR)) (uP0 K a E E) BU,C4 (CI K<|AS K (AD (B7 K) (AS K AB "made") AJ) "needs") (AG 3) (uP1 K a E E),AV<|tC .non])
example:uS:=([0,3,4],[AT (CA (LF K) (AF AJ)) (AG 3),AT (AS K (AD (B7 K) (AS K AB "made") BW) "value") (O0 BB (BG K (AS K (AD (B7 K) (AS K AB "made") BW) "place") 1) PU),BL (A5<|JF BW<|AS K AB "outs") (uS1 K a E E) BU,C4 (CI K<|AD (B7 K) (AS K AB "made_in") AR) (AG 4) (uS2 K a E E),AV BB])
example:aQ:=([0],[AV (LE (FA EB EB (tC<|.str " ") AB (tC<|.str "~")) (AD (DI K) (CA (P0 K) (AF AB)) (DW 37)))])
example:aR:=([0],[AV (LE (FA EB EB C3 (CA (DQ K) (AF AB)) VJ) (CA (ML K) (AF<|B0 (NP AB) (AG 0) CQ (FA EB EB (tC<|.str "a") AB (tC<|.str "z")) 1 [])))])
example:uV:=([0],[AV (AS K AB "book")])
example:uW:=([0],[AV (AS K AB "ground")])
example:aS:=([1,2],[AV (tC<|.bl false),BL (MB (FI<|A5<|FA EB EB C3 (CA (DQ K) (AF AB)) HU) (FI<|G1 K<|CA (ML K) (AF<|B0 (NP AB) (AG 0) CQ (FA EB EB (tC<|.str "0") AB (tC<|.str "9")) 1 []))) (aS0 K a E E) BU,AV<|QI (AD (CK K) AB (tC<|.str "0")) (AD (DI K) (BG K AB 0) (tC<|.str "0"))])
example:aT:=([0,1,2],[AT (CA (DQ K) (AF<|BG K AB 0)) (AG 1),AT (CA (DQ K) (AF<|BG K AB 1)) (AG 2),AV<|YN " " AJ AR])
example:aU:=([0],[AV (SJ (A5<|AD IG (CA (DQ K) (AF AB)) DV) (DZ K "str" (LC K) (tC<|.str " ") (AF AB)) (tC<|.str "-"))])
example:aV:=([0,1,2],[CT K AB (B0 (DR<|AF AJ) (AG 0) CQ (AD (FX K) (C7<|AF<|tC .non) AJ) 1 [2]) "contents",CT K AB AR "width",CT K AB DV "written"])
example:vE:=([0],[AV (CA (DQ K) (AF<|AS K AB "contents"))])
example:vF:=([0],[AV (AS K AB "width")])
example:vG:=([0],[AV (AS K AB "written")])
example:aW:=([1],[E9 (a "NoBlock") E (AF<|tC<|.str "there is no such block"),BL (FI<|A5<|FA EB GK DV AJ<|CA (DQ K) (AF<|AS K AB "contents")) (aW0 K a E E) BU])
example:vI:=([0,1,2,3],[CT K AB AJ "name_blocks",CT K AB AR "record_blocks",CT K AB BB "piece_blocks",CT K AB BW "width"])
example:vJ:=([0],[AV (C7<|C9 (AD (FX K) (AS K AB "name_blocks") (AS K AB "width")) (AD (FX K) (AS K AB "record_blocks") (AS K AB "width")) (AD (FX K) (AS K AB "piece_blocks") (AS K AB "width")))])
example:vK:=([0],[AV (AD (BF K) (AD (BF K) (AS K AB "name_blocks") (AS K AB "record_blocks")) (AS K AB "piece_blocks"))])
example:vL:=([0],[AV (C7<|BD (AD (BF K) AJ (AD DH AR<|AS K AB "width")) (AD DD AR<|AS K AB "width"))])
example:aX:=([1,2],[AV (AD (B7 K) AB AJ),BL (A5<|AD GK AJ<|CA (DQ K) (AF AB)) (aX0 K a E E) BU,AV DV])
example:aY:=([0,1,2,5,6,7,8,9,10],[AT (tC<|.str "abcdefghijklmnopqrstuvwxyz") (AG 1),AT (tC<|.str "") (AG 2),AT (AD DH AB RN) (AG 3),AT (AD (BF K) AR (AD (B7 K) AJ (AD DD (AD (BF K) BB (AD (FX K) (AD (FX K) VH BW) (AD DD (AD DH BB<|DW 26) RM))) (DW 26)))) (AG 2),AT (AD (BF K) (AD DH BB<|DW 29) (AD (FX K) HU BW)) (AG 3),C4 (DR<|AF<|AD (BF K) C3 (AD DD AB RN)) (AG 4) (AH (aY3 K a E E) (aY4 K a E E)),AT (AD DD (AD DH AB VH) (CA (DQ K) (AF AR))) (AG 5),AT (AD (B7 K) AJ (AD DD (AD DH AB<|DW 11) (DW 26))) (AG 6),AT (AD (B7 K) AJ (AD DD (AD (BF K) (AD (BF K) (AD DH AB<|DW 11) C3) (AD DD (AD DH AB<|DW 13) (DW 25))) (DW 26))) (AG 7),AT (AD (B7 K) AJ (AD DD (AD (BF K) (AD (BF K) (DZ K "str" rO AJ<|AF<|AD (B7 K) AR CM) C3) (AD DD (AD DH AB<|DW 17) (DW 25))) (DW 26))) (AG 8),AV<|CG<|D4 AR<|RO (AD (BF K) AR L3) (AD (BF K) FG AR) (AD (BF K) (AD (BF K) (K1 (LB K) AR K0 (JG CM)) zkt) (K1 (LB K) AR (JG<|AD (BF K) CM C3) K0)) (AD (BF K) (AD (BF K) AR L3) FG)])
example:bB:=([0,1,2,4,5,6,7],[AT (tC<|.str " !\"#$&'()*+,-./0123456789:;<=>?@ABCDEFGHIJKLMNOPQRSTUVWXYZ[\\]^_`") (AG 1),AT (AD (BF K) AJ (tC<|.str "abcdefghijklmnopqrstuvwxyz{|}~")) (AG 1),AT (AD (BF K) C3 (AD DD AB RM)) (AG 2),AT (AD T7 (DW 40) (AD DD (AD DH AB<|DW 40) RL)) (AG 2),BL (A5<|AD (CK K) (AD DD (AD DH AB RM) VJ) HU) (bB3 K a E E) BU,AT (AD (BF K) C3 (AD DD (AD DH AB<|DW 19) (DW 93))) (AG 3),AT (AD (BF K) C3 (AD DD (AD DH AB VH) HU)) (AG 4),AV<|DZ K "str" (LC K) (tC<|.str "") (AF<|B0 (DR<|AF AR) (AG 0) CQ (AD (B7 K) AJ (AD DD (AD (BF K) (AD DH AR HU) (AD (FX K) BB (AD DH AB BW))) (DW 94))) 1 [1,0,3,4])])
example:bC:=([0,1,2,3],[AT (B0 (CI K<|AN (a "View") "pieces_named" (RD K a) E AB BM) (AG 0) (A5<|AD IG (AD (B7 K) (AS K AJ "namings") AB) C3) (C7<|BD (tC<|.str "shared") AB) 1 [0]) (AG 1),AT (B0 (CI K<|AN (a "View") "pieces_named" (RD K a) E AB BM) (AG 0) (A5<|AD HM (AD (B7 K) (AS K AJ "piece_values") AB) (tC .non)) (C7<|BD (tC<|.str "empty") AB) 1 [0]) (AG 2),AT (B0 (CI K<|AN (a "View") "records_standing" (U7 K a) E AB BM) (AG 0) (A5<|AD GK (AN (a "View") "count_of" (U8 K a) (λ_=>E0) AJ (AF AB)) (AD (B7 K) (AS K AJ "leads") AB)) (C7<|BD (tC<|.str "few") AB) 1 [0]) (AG 3),AV<|AD (BF K) (AD (BF K) AJ AR) BB])
example:bD:=([0,1,2,3],[AT (B0 (FQ K<|AF<|AS K AB "leads") (FL K 2<|DP (AG 0) (DP (AG 1) FJ)) (A5<|AD IG AJ DV) AB 2 []) (AG 1),AT (B0 (CI K AJ) (AG 0) (A5<|AD (DI K) (AD (B7 K) (AS K AJ "record_marks") AB) C3) (C7<|C9 (tC<|.str "free") (tC<|.str "record") AB) 1 [0]) (AG 2),AT (B0 (CI K<|AN (a "View") "pieces_named" (RD K a) E AB BM) (AG 0) (A5<|AD (DI K) (AD (B7 K) (AS K AJ "piece_marks") AB) C3) (C7<|C9 (tC<|.str "free") (tC<|.str "piece") AB) 1 [0]) (AG 3),AV<|AD (BF K) AR BB])
example:wI:=([0,1,7,8],[AT (CG BM) (AG 1),AT (CG BM) (AG 2),AT (AD (B7 K) (AS K AB "leads") BB) (AG 4),CP<|DZ K "list" FR AR<|AF<|C7<|C9 (tC<|.str "left") (tC<|.str "record") BB,CP<|DZ K "list" FR AJ<|AF<|C7<|C9 (tC<|.str "many") BB BW,BL (A5<|AD IG (AN (a "View") "count_of" (U8 K a) E AB (AF BB)) BW) (wI4 K a E E) BU,BL (A5<|AD (CK K) BW DV) (wI3 K a E E) (wI5 K a E E),C4 (CI K<|AN (a "View") "records_standing" (U7 K a) E AB BM) (AG 3) (AH (wI2 K a E E) (wI6 K a E E)),AV<|AD (BF K) AJ AR])
example:bE:=([0,1,2,3,4],[CT K AB AJ "ground",CT K AB (CG BM) "made",CT K AB (B0 (DR<|AF<|AN (a "Plank") "blocks" (QK K a) E AJ BM) (AG 0) CQ (CG BM) 1 []) "made_in",CT K AB NK "latest",CT K AB IF "outs"])
example:w9:=([0,1,3,7,8],[CP (AN (a "Hold") "ask_for_changes" (US K a) E AB (AF AJ)),AT IF<|AG 2,FZ AR BB<|tC<|.bl true,C4 (CI K AJ) (AG 3) (w92 K a E E),FZ AR BW<|tC<|.bl true,C4 (CI K<|AS K (AD (B7 K) (AS K AB "made") BB) "needs") (AG 4) (w94 K a E E),BL (A5<|JF BB AR) (w95 K a E E) BU,C4 (TN K<|AF<|AN (a "Hold") "waiting" (UT K a) E AB BM) (AG 3) (w96 K a E E),AV<|B0 (CI K<|AN (a "Hold") "waiting" (UT K a) E AB BM) (AG 0) (A5<|JF AB AJ) AB 1 [2]])
example:xA:=([1],[E9 (a "NoBlock") E (AF<|tC<|.str "there is no such place on the plank"),BL (MB (FI<|A5<|FA EB GK DV (BG K AJ 0) (AN (a "Plank") "blocks" (QK K a) E (AS K AB "ground") BM)) (FI<|A5<|FA EB GK DV (BG K AJ 1) (AN (a "Plank") "cells" (YY K a) E (AS K AB "ground") BM))) (xA0 K a E E) BU])
example:bH:=([0,1,2,9,10],[AT (CA (P9 K) (AF AR)) (AG 3),AT (CG BM) (AG 4),AT (CG BM) (AG 5),AT (AN (a "Hold") "lack_of" (ZJ K a) E AB (BD FG BB)) (AG 7),FZ BB FG<|tC<|.bl true,CP<|DZ K "list" FR BW<|AF FG,CP<|DZ K "list" FR CM<|AF<|C7<|BD FG L3,BL (A5<|AD HM L3<|tC .non) (AH (bH4 K a E E) (bH5 K a E E)) (bH6 K a E E),BL (KY (A5<|HN FG<|AS K AB "outs") (A5<|HN FG BB)) (AH (bH3 K a E E) (bH7 K a E E)) BU,C4 (CI K<|AD (B7 K) (AS K AB "made_in") AJ) (AG 6) (bH8 K a E E),AV<|C7<|BD BW CM])
example:bI:=([0],[AV (LE (FA EB EB C3 (CA (DQ K) (AF AB)) (DW 40)) (CA (ML K) (AF<|B0 (NP AB) (AG 0) CQ (BO (ZQ K a) (λ_=>E0) (AF AB)) 1 [])))])
example:yC:=([0,2,3,5,7,8],[AT (BG K (DZ K "str" sI AB<|AF<|tC<|.str " ") 0) (AG 1),E9 (a "NoRow") E (AF<|tC<|.str "the row begins with no word that is known"),BL (A5<|YO OC AJ) (yC1 K a E E) BU,AT (SJ (A5<|AD (CK K) AJ (tC<|.str "put")) (DZ K "str" YK AB<|BD (tC<|.str " ") RL) (DZ K "str" YK AB<|AF<|tC<|.str " ")) (AG 2),E9 (a "NoRow") E (AF<|tC<|.str "the row has too few words or too many"),BL (A5<|AD (DI K) (CA (DQ K) (AF AR)) (YQ OC AJ)) (yC4 K a E E) BU,E9 (a "NoRow") E (AF<|tC<|.str "the last word is no number of one to three figures"),BL (KY (A5<|AD (QC K) AJ (tC<|.ref<|a "WITH_A_NUMBER_LAST")) (FI<|G1 K<|BO (aA K a) E (AF<|AD (B7 K) AR (NF NT C3)))) (yC6 K a E E) BU,AV AR])
example:bL:=([0,1],[CP (AN (a "Plank") "ask_for_block" (NX K a) E AB (AF AJ)),AV<|CA (LF K) (AF<|AD (B7 K) (AS K AB "contents") AJ)])
example:bM:=([0,2,3,4],[CP (AN (a "Plank") "ask_for_block" (NX K a) E AB (AF AJ)),E9 (a "NoBlock") E (AF<|tC<|.str "the list is not as long as a block"),BL (A5<|AD (DI K) (CA (DQ K) (AF AR)) (AS K AB "width")) (bM1 K a E E) BU,AT (CA (LG K) (AF AR)) (O0 (AS K AB "contents") AJ PU),SS K AB C3 O7 "written"])
example:yI:=([0],[AV (AN (a "Layout") "place_from" (MS K a) E AB (BD DV AJ))])
example:yJ:=([0],[AV (AN (a "Layout") "place_from" (MS K a) E AB (BD (AS K AB "name_blocks") AJ))])
example:yK:=([0],[AV (AN (a "Layout") "place_from" (MS K a) E AB (BD (AD (BF K) (AS K AB "name_blocks") (AS K AB "record_blocks")) AJ))])
example:yL:=([0],[AV (AN (a "Layout") "place_from" (MS K a) E AB (BD (AN (a "Layout") "blocks_ahead_of_marks" (QU K a) E AB BM) AJ))])
example:yM:=([0],[AV (AN (a "Layout") "place_from" (MS K a) E AB (BD (AD (BF K) (AN (a "Layout") "blocks_ahead_of_marks" (QU K a) E AB BM) (AS K AB "record_blocks")) AJ))])
example:yN:=([0],[AV (AD (BF K) (AD (BF K) (AN (a "Layout") "blocks_ahead_of_marks" (QU K a) E AB BM) (AS K AB "record_blocks")) (AS K AB "piece_blocks"))])
example:bN:=([0,1,2,4,6,8,10,12,13],[AT (AD DD AB VJ) (AG 2),AT (AD (B7 K) AJ (AD DD (AD DH AB VJ) RM)) (AG 3),AT (AD (B7 K) AJ (AD DD (AD DH AB<|DW 40) RM)) (AG 4),AV<|AD (BF K) (tC<|.str "make ") BB,BL (A5<|AD GK AR RL) (bN3 K a E E) BU,AV<|AD (BF K) (AD (BF K) (AD (BF K) (tC<|.str "link ") BB) (tC<|.str " ")) BW,BL (A5<|AD (CK K) AR RL) (bN5 K a E E) BU,AV<|AD (BF K) (tC<|.str "cut ") BB,BL (A5<|AD (CK K) AR HU) (bN7 K a E E) BU,AV<|AD (BF K) (AD (BF K) (AD (BF K) (tC<|.str "put ") BB) (tC<|.str " ")) (BO (aF K a) E (AF<|AD DH AB<|DW 200)),BL (A5<|AD GK AR RN) (bN9 K a E E) BU,AV<|AD (BF K) (AD (BF K) (AD (BF K) (tC<|.str "take ") BB) (tC<|.str " ")) (CA (MO K) (AF<|AD DD (AD DH AB<|DW 200) RN)),BL (A5<|AD (CK K) AR RN) (bN11 K a E E) BU,AV<|AD (BF K) (AD (BF K) (AD (BF K) (tC<|.str "move ") BB) (tC<|.str " ")) BW])
example:zA:=([0],[AV (AD (BF K) (AD (BF K) (BO (ZX K a) E (AF AB)) (BO (ZY K a) E (AF AB))) (BO (ZZ K a) E (AF AB)))])
example:zB:=([0],[AV (AD (BF K) (AD (BF K) (BO (Z0 K a) E (AF AB)) (BO (Z1 K a) E (AF AB))) (BO (Z2 K a) E (AF AB)))])
example:zC:=([0],[AV (B0 (CI K AJ) (FL K 2<|DP (AG 0) (DP (AG 1) FJ)) CQ (AD (B7 K) (AN (a "Plank") "read" (LK K a) (λ_=>E0) AR (AF AB)) AJ) 2 [0])])
example:bO:=([2,4,6,7],[AT (AN (a "Layout") "record_at" (G5 K a) E AB (AF<|BG K AR 1)) (AG 3),AV<|MN [ (BB ,(C7<|BD (BG K AR 2) (BG K (AD (B7 K) (AN (a "Plank") "read" (LK K a) E AJ (AF<|BG K BB 0)) (BG K BB 1)) 1))) ],BL (A5<|AD (CK K) (BG K AR 0) (tC<|.str "many")) (AH (bO0 K a E E) (bO1 K a E E)) BU,AV<|MN [ ((AN (a "Layout") "record_mark" (KI K a) E AB (AF<|BG K AR 1)) ,DV) ],BL (A5<|AD (CK K) (BG K AR 0) (tC<|.str "marked")) (bO3 K a E E) BU,AV<|MN [ ((AN (a "Layout") "record_at" (G5 K a) E AB (AF<|BG K AR 2)) ,(tC .non)) ,((AN (a "Layout") "record_mark" (KI K a) E AB (AF<|BG K AR 2)) ,DV) ],BL (A5<|AD (CK K) (BG K AR 1) (tC<|.str "record")) (bO5 K a E E) BU,AV<|MN [ ((AN (a "Layout") "piece_mark" (KJ K a) E AB (AF<|BG K AR 2)) ,DV) ]])
example:bP:=([4],[AT (AN (a "Plank") "read" (LK K a) E AB (AF AR)) (AG 3),AT (B0 (FQ K<|AF BB) (FL K 2<|DP (AG 0) (DP (AG 1) FJ)) CQ (XC AR (C7<|BD BB AB) AJ) 2 [1,2]) (AG 4),CP<|AN (a "Plank") "write" (UE K a) E AB (BD AR BW),BL (A5<|AD (DI K) BW BB) (bP2 K a E E) BU,C4 (DR<|AF<|AN (a "Plank") "blocks" (QK K a) E AB BM) (AG 2) (AH (bP0 K a E E) (AH (bP1 K a E E) (bP3 K a E E)))])
example:zQ:=([0,1,2,8,9],[AT (CG BM) (AG 2),AT IF<|AG 3,AT (AN (a "Hold") "closure" (ZH K a) E AB (AF AJ)) (AG 4),AT (AN (a "Hold") "block_of" (ZM K a) E AB (AF<|BG K BW 0)) (AG 5),CP<|DZ K "list" FR AR<|AF CM,FZ BB FG<|tC<|.bl true,C4 (CI K<|BG K (AN (a "Hold") "outcome" (UU K a) E AB (BD CM BB)) 0) (AG 6) (zQ5 K a E E),AT (B0 (CI K BW) (AG 0) (A5<|HN AB AJ) AB 1 [3]) (AG 4),nB (G1 K BW) (AH (zQ3 K a E E) (AH (zQ4 K a E E) (AH (zQ6 K a E E) (zQ7 K a E E)))),AV AR])
example:zR:=([0,1],[CP (AN (a "Hold") "ask_for_place" (ZG K a) E AB (AF AJ)),AV<|NU (AS K AB "latest") AJ])
example:zT:=([0,1,3,4,5],[AT (AN (a "Plank") "read" (LK K a) E (AS K AB "ground") (AF AJ)) (AG 2),AT (AN (a "Hold") "outcome" (UU K a) E AB (BD AJ IF)) (AG 3),FZ (AS K AB "outs") BW (tC<|.bl true),C4 (CI K<|BG K BB 0) (AG 4) (zT2 K a E E),CP<|AN (a "Plank") "write" (UE K a) E (AS K AB "ground") (BD AJ<|AN (a "Hold") "laid_over" (ZK K a) E AB (BD AR AJ)),AV BB])
example:zU:=([0],[AV (GP (a "Plank") (YX K a) E (BD (AN (a "Layout") "blocks" (N0 K a) E AB BM) (AS K AB "width")))])
example:zp5:=(AT NK<|AG 2)
example:zV:=(AT (AN (a "Plank") "read" (LK K a) E AJ (AF BB)) (AG 4))
example:zW:=(FZ AR (C7<|BD BB CM) (AD (B7 K) BW CM))
example:zX:=(C4 (DR<|AF<|CA (DQ K) (AF BW)) (AG 5) (zW K a E E))
example:zY:=(C4 (DR<|AF<|AN (a "Layout") "blocks" (N0 K a) E AB BM) (AG 3) (AH (zV K a E E) (zX K a E E)))
example:zZ:=(AV AR)
example:z8:=[zp5,zY,zZ]
example:Aq:=([0,1,2,3,4,5,6,7,8,9,10],[AT (AN (a "Layout") "counts" (LN K a) E AJ BM) (AG 3),AT (BG K BB 1) (AG 4),AT (BG K BB 2) (AG 5),CT K AB (BO (LV K a) E (BD AR<|B0 (DR<|AF<|BG K BB 0) (AG 0) CQ (AN (a "Layout") "name_at" (JK K a) (λ_=>E0) AJ (AF AB)) 1 [1])) "name_values",CT K AB (BO (LV K a) E (BD AR<|B0 (DR<|AF BW) (AG 0) CQ (AN (a "Layout") "record_at" (G5 K a) (λ_=>E0) AJ (AF AB)) 1 [1])) "record_values",CT K AB (BO (LV K a) E (BD AR<|B0 (DR<|AF CM) (AG 0) CQ (AN (a "Layout") "piece_at" (LM K a) (λ_=>E0) AJ (AF AB)) 1 [1])) "piece_values",CT K AB (BO (LV K a) E (BD AR<|B0 (DR<|AF BW) (AG 0) CQ (AN (a "Layout") "record_mark" (KI K a) (λ_=>E0) AJ (AF AB)) 1 [1])) "record_marks",CT K AB (BO (LV K a) E (BD AR<|B0 (DR<|AF CM) (AG 0) CQ (AN (a "Layout") "piece_mark" (KJ K a) (λ_=>E0) AJ (AF AB)) 1 [1])) "piece_marks",CT K AB (BO (RC K a) E (BD BW<|B0 (CI K<|AS K AB "name_values") (AG 0) (A5<|AD FY AB<|tC .non) (BG K AB 1) 1 [])) "leads",CT K AB (BO (RC K a) E (BD CM<|BO (U6 K a) E (AF<|AS K AB "record_values"))) "namings",CT K AB (BO (RC K a) E (BD CM<|BO (U6 K a) E (AF<|AN (a "View") "records_led_to" (ZW K a) E AB BM))) "reached"])
example:Av:=([0,1,2,3,4,5,6],[AT (AN (a "Hold") "newest" (QX K a) E AB (AF AJ)) (AG 4),CP<|AN (a "Hold") "ask_for_changes" (US K a) E AB (AF BB),AT (CA (DQ K) (AF<|AS K AB "made")) (AG 5),CP<|DZ K "list" FR (AS K AB "made") (AF<|GP (a "Change") (ZE K a) E (C9 AJ AR<|BO (ZF K a) E (BD BB BW))),CP<|DZ K "list" FR (AD (B7 K) (AS K AB "made_in") (BG K AJ 0)) (AF CM),FZ (AS K AB "latest") AJ CM,AV CM])
example:Aw:=([0,2,3],[AT (AN (a "Hold") "newest" (QX K a) E AB (AF AJ)) (AG 2),AV<|AD (B7 K) (AN (a "Plank") "read" (LK K a) E (AS K AB "ground") (AF<|BG K AJ 0)) (BG K AJ 1),BL (A5<|AD HM AR<|tC .non) (Aw1 K a E E) BU,AV<|AS K (AD (B7 K) (AS K AB "made") AR) "value"])
example:Ax:=([0,1,2],[CT K AB AJ "plan",CT K AB (GP (a "Hold") (UR K a) E (AF AR)) "book",CT K AB IF "taken_out"])
example:Ay:=([0],[AV (AN (a "Hold") "write" (ZL K a) E (AS K AB "book") (AF AJ))])
example:Bh:=([0,1,6,7],[AT (BO (aG K a) E (BD AB AJ)) (AG 2),AT IF<|AG 3,AT (JE AR<|AN (a "Layout") "name_at" (JK K a) E AB (AF BW)) (AG 5),AT (BG K (JE AR<|AN (a "Layout") "record_at" (G5 K a) E AB (AF<|BG K CM 1)) 1) (AG 6),FZ BB (BG K CM 0) (DZ K "str" (LC K) (tC<|.str "") (AF<|B0 (CI K FG) (AG 0) CQ (JE AJ<|AN (a "Layout") "piece_at" (LM K a) (λ_=>E0) AR (AF AB)) 1 [2,0])),BL (A5<|AD FY CM<|tC .non) (AH (Bh3 K a E E) (Bh4 K a E E)) BU,C4 (DR<|AF<|BG K (AN (a "Layout") "counts" (LN K a) E AB BM) 0) (AG 4) (AH (Bh2 K a E E) (Bh5 K a E E)),AV BB])
example:Bj:=([2,3],[AV BB,BL (A5<|AD (QD K) (AN (a "Hold") "in_hand" (N2 K a) E AB (AF BW)) AR) (Bj0 K a E E) BU,C4 (FQ K<|AF AJ) (LH K 2<|IJ (AG 3) (IJ (AG 4) LJ)) (Bj1 K a E E),E9 (a "NoRoom") E (AF<|tC<|.str "nothing of what is to be taken is free")])
example:bQ:=([0],[AV (B0 (DR<|AF<|BG K (AN (a "Layout") "counts" (LN K a) E (AS K AB "plan") BM) 0) (AG 0) CQ (AN (a "Hold") "in_hand" (N2 K a) (λ_=>E0) (AS K AJ "book") (AF<|AN (a "Layout") "name_at" (JK K a) (λ_=>E0) (AS K AJ "plan") (AF AB))) 1 [0])])
example:bR:=([0],[AV (AN (a "Hold") "in_hand" (N2 K a) E (AS K AB "book") (AF<|AN (a "Layout") "record_at" (G5 K a) E (AS K AB "plan") (AF AJ)))])
example:bT:=([0,2,3],[AT (CG<|AF BW) (AG 5),CP<|DZ K "list" FR CM<|AF<|JE (AS K AB "taken_out") AR,BL (A5<|JF AR<|AS K AB "taken_out") (bT1 K a E E) BU,AV<|AN (a "Hold") "change" (GS K a) E (AS K AB "book") (C9 (AN (a "Layout") "name_at" (JK K a) E (AS K AB "plan") (AF AJ)) (C7<|BD AR BB) CM)])
example:Bq:=([0,1],[AT (GP (a "View") (RE K a) E (BD AB AJ)) (AG 2),AV<|AD (BF K) (BO (U9 K a) E (AF AR)) (BO (Z3 K a) E (AF AR))])
example:bU:=([0],[AV (AD (CK K) (CA (DQ K) (AF<|BO (U9 K a) E (AF<|GP (a "View") (RE K a) E (BD AB AJ)))) DV)])
example:bV:=([0,1],[AT (B0 (DR<|AF<|BG K (AN (a "Layout") "counts" (LN K a) E AB BM) 0) (AG 0) CQ (AN (a "Layout") "name_at" (JK K a) (λ_=>E0) AJ (AF AB)) 1 [0]) (AG 2),AV<|BO (N3 K a) E (C9 AJ AR<|C7<|AF<|tC .non)])
example:bW:=([0,1],[AT (B0 (DR<|AF<|BG K (AN (a "Layout") "counts" (LN K a) E AB BM) 1) (AG 0) CQ (AN (a "Layout") "record_mark" (KI K a) (λ_=>E0) AJ (AF AB)) 1 [0]) (AG 2),AV<|BO (N3 K a) E (C9 AJ AR<|C7<|BD (tC .non) DV)])
example:bX:=([0,1],[AT (B0 (DR<|AF<|BG K (AN (a "Layout") "counts" (LN K a) E AB BM) 2) (AG 0) CQ (AN (a "Layout") "piece_mark" (KJ K a) (λ_=>E0) AJ (AF AB)) 1 [0]) (AG 2),AV<|BO (N3 K a) E (C9 AJ AR<|C7<|BD (tC .non) DV)])
example:bY:=([0],[AV (CA (X8 K) (AF<|B0 (CI K<|AN (a "Store") "name_cells" (Q2 K a) E AB BM) (AG 0) (A5<|AD FY AB<|tC .non) (BG K AB 0) 1 []))])
example:Cd:=([2,3],[AV AR,BL (KY (A5<|AD FY BB<|tC .non) (A5<|AD (CK K) (BG K BB 0) AJ)) (Cd0 K a E E) BU,C4 (FQ K<|AF<|AN (a "Store") "name_cells" (Q2 K a) E AB BM) (LH K 2<|IJ (AG 2) (IJ (AG 3) LJ)) (Cd1 K a E E),AV<|tC .non])
example:Cj:=([0,1],[AT (AN (a "Store") "standing" (JL K a) E AB (AF AJ)) (AG 4),AV<|AN (a "Hold") "change" (GS K a) E (AS K AB "book") (C9 (AN (a "Layout") "record_at" (G5 K a) E (AS K AB "plan") (AF AJ)) (C7<|BD (AD (BF K) (BG K BW 0) AR) (BG K BW 1)) BB)])
example:bZ:=([0],[AV (AN (a "Hold") "change" (GS K a) E (AS K AB "book") (C9 (AN (a "Layout") "record_at" (G5 K a) E (AS K AB "plan") (AF AJ)) (C7<|BD (BG K (AN (a "Store") "standing" (JL K a) E AB (AF AJ)) 0) AR) BB))])
example:Cv:=([0,1,2,4,5],[AT (BG K (AN (a "Store") "standing" (JL K a) E AB (AF AJ)) 1) (AG 3),AT (AN (a "Hold") "change" (GS K a) E (AS K AB "book") (C9 (AN (a "Layout") "record_at" (G5 K a) E (AS K AB "plan") (AF AJ)) (tC .non) (CG<|AF AR))) (AG 4),AT (CG<|AF BW) (AG 5),CP<|DZ K "list" FR CM<|AF<|AN (a "Hold") "change" (GS K a) E (AS K AB "book") (C9 FG DV<|CG<|AF BW),C4 (CI K<|AD (BF K) (B0 (CI K BB) (AG 0) CQ (AN (a "Layout") "piece_mark" (KJ K a) (λ_=>E0) (AS K AJ "plan") (AF AB)) 1 [0]) (CG<|AF<|AN (a "Layout") "record_mark" (KI K a) E (AS K AB "plan") (AF AJ))) (AG 6) (Cv3 K a E E),AV CM])
example:Cw:=([0,1,2],[CT K AB AJ "plan",CT K AB (AN (a "Layout") "plank" (ZB K a) E AJ BM) "ground",CT K AB (GP (a "Store") (Q1 K a) E (BD AJ<|AS K AB "ground")) "store"])
example:b0:=([1,2,3,5,6,7],[E9 (a "NotSound") E (AF<|tC<|.str "the plank has faults"),BL (FI<|G1 K<|BO (Z4 K a) E (BD AB AJ)) (b00 K a E E) BU,AT (BO (N9 K a) E (BD AB AJ)) (AG 2),AT NK<|AG 3,CP<|DZ K "dict" YH BB<|AF<|BO (Z5 K a) E (C9 AB AJ BW),C4 (CI K AR) (AG 4) (b04 K a E E),CP<|BO (Z6 K a) E (BD AJ BB),AV AR])
example:cA:=([1,3],[E9 (a "NoName") E (AF<|tC<|.str "the text is no name"),BL (FI<|G1 K<|CA (ML K) (AF<|B0 (CI K AR) (AG 0) CQ (BO (ZR K a) (λ_=>E0) (AF AB)) 1 [])) (cA0 K a E E) BU,E9 (a "Twice") E (AF<|tC<|.str "the new name stands already"),BL (A5<|AD FY (AN (a "Store") "cell_of" (N4 K a) E AB (AF AJ)) (tC .non)) (cA2 K a E E) BU])
example:Dc:=([0,2,3],[AT (AN (a "Store") "cell_of" (N4 K a) E AB (AF AJ)) (AG 2),E9 (a "NoName") E (AF<|tC<|.str "no such name stands"),BL (A5<|AD HM AR<|tC .non) (Dc1 K a E E) BU,AV<|BG K (AD (B7 K) (AN (a "Store") "name_cells" (Q2 K a) E AB BM) AR) 1])
example:cB:=([0,1,2],[AT (AN (a "Hold") "change" (GS K a) E (AS K AB "book") (C9 (AN (a "Layout") "name_at" (JK K a) E (AS K AB "plan") (AF<|AN (a "Store") "cell_of" (N4 K a) E AB (AF AJ))) (tC .non) AR)) (AG 3),FZ (AS K AB "taken_out") AJ BB,AV BB])
example:cC:=([0,1,2,3,4,5],[CP (AN (a "Store") "ask_for_new_name" (UZ K a) E AB (BD AJ<|CG<|AF AJ)),AT (BO (ZO K a) E (BD (AS K AB "plan") (AS K AB "book"))) (AG 2),AT (BO (UX K a) E (BD (AS K AB "plan") (AS K AB "book"))) (AG 3),AT (AN (a "Hold") "change" (GS K a) E (AS K AB "book") (C9 (AN (a "Layout") "record_mark" (KI K a) E (AS K AB "plan") (AF AR)) C3 (CG BM))) (AG 4),AT (AN (a "Hold") "change" (GS K a) E (AS K AB "book") (C9 (AN (a "Layout") "record_at" (G5 K a) E (AS K AB "plan") (AF AR)) (C7<|BD C3<|C7 BM) (CG<|AF BW))) (AG 5),AV<|CG<|C9 BW CM<|AN (a "Store") "fill_cell" (U1 K a) E AB (RO BB AJ AR CM)])
example:cD:=([0,1,2,3,4],[CP (AN (a "Store") "ask_for_new_name" (UZ K a) E AB (BD AR<|CG<|BD AJ AR)),AT (AN (a "Store") "record_of" (KL K a) E AB (AF AJ)) (AG 3),AT (BO (UX K a) E (BD (AS K AB "plan") (AS K AB "book"))) (AG 4),AT (AN (a "Store") "recount" (Q3 K a) E AB (C9 BB C3<|CG BM)) (AG 5),AV<|CG<|BD CM<|AN (a "Store") "fill_cell" (U1 K a) E AB (RO BW AR BB CM)])
example:Dv:=([0,1,3,4],[AT (AN (a "Store") "record_of" (KL K a) E AB (AF AJ)) (AG 2),AT (AN (a "Store") "empty_cell" (U3 K a) E AB (BD AJ<|CG BM)) (AG 3),AV<|CG<|BD BB<|AN (a "Store") "recount" (Q3 K a) E AB (C9 AR (NF NT C3) (CG<|AF BB)),BL (A5<|AD IG (BG K (AN (a "Store") "standing" (JL K a) E AB (AF AR)) 0) C3) (Dv2 K a E E) BU,AV<|AD (BF K) (CG<|AF BB) (AN (a "Store") "drop_record" (ZU K a) E AB (BD AR BB))])
example:Dz:=([0,2,3,4,5,6],[AT (AN (a "Store") "record_of" (KL K a) E AB (AF AJ)) (AG 3),E9 (a "NoPiece") E (AF<|tC<|.str "the text is none of a piece"),BL (FI<|G1 K<|BO (ZS K a) E (AF AR)) (Dz1 K a E E) BU,AT (BO (ZP K a) E (BD (AS K AB "plan") (AS K AB "book"))) (AG 4),AT (AN (a "Hold") "change" (GS K a) E (AS K AB "book") (C9 (AN (a "Layout") "piece_mark" (KJ K a) E (AS K AB "plan") (AF BW)) C3 (CG BM))) (AG 5),AT (AN (a "Hold") "change" (GS K a) E (AS K AB "book") (C9 (AN (a "Layout") "piece_at" (LM K a) E (AS K AB "plan") (AF BW)) AR (CG<|AF CM))) (AG 6),AV<|CG<|C9 CM FG<|AN (a "Store") "regroup" (U2 K a) E AB (C9 BB (AD (BF K) (BG K (AN (a "Store") "standing" (JL K a) E AB (AF BB)) 1) (C7<|AF BW)) (CG<|AF FG))])
example:Ed:=([0,1,3,4,5],[AT (AN (a "Store") "record_of" (KL K a) E AB (AF AJ)) (AG 3),AT (BG K (AN (a "Store") "standing" (JL K a) E AB (AF BB)) 1) (AG 4),E9 (a "NoPiece") E (AF<|tC<|.str "the record has no piece at that place"),BL (FI<|A5<|FA EB GK DV AR<|CA (DQ K) (AF BW)) (Ed2 K a E E) BU,AT (AN (a "Store") "regroup" (U2 K a) E AB (C9 BB (AD (BF K) (K1 (LB K) BW K0 (JG AR)) (K1 (LB K) BW (JG<|AD (BF K) AR C3) K0)) (CG BM))) (AG 5),AV<|CG<|BD CM<|AN (a "Hold") "change" (GS K a) E (AS K AB "book") (C9 (AN (a "Layout") "piece_mark" (KJ K a) E (AS K AB "plan") (AF<|AD (B7 K) BW AR)) DV (CG<|AF CM))])
example:Eg:=([0,1],[AT (BG K (AN (a "Store") "standing" (JL K a) E AB (AF<|AN (a "Store") "record_of" (KL K a) E AB (AF AJ))) 1) (AG 2),AV<|B0 (CI K AR) (AG 0) CQ (AN (a "Hold") "in_hand" (N2 K a) (λ_=>E0) (AS K AJ "book") (AF<|AN (a "Layout") "piece_at" (LM K a) (λ_=>E0) (AS K AJ "plan") (AF AB))) 1 [0]])
example:Ek:=([0,1,2],[AT (AN (a "Store") "record_of" (KL K a) E AB (AF AJ)) (AG 2),AT (CG<|BD (AN (a "Layout") "name_at" (JK K a) E (AS K AB "plan") (AF<|AN (a "Store") "cell_of" (N4 K a) E AB (AF AJ))) (AN (a "Layout") "record_at" (G5 K a) E (AS K AB "plan") (AF AR))) (AG 3),AV<|AD (BF K) BB (B0 (CI K<|BG K (AN (a "Store") "standing" (JL K a) E AB (AF AR)) 1) (AG 0) CQ (AN (a "Layout") "piece_at" (LM K a) (λ_=>E0) (AS K AJ "plan") (AF AB)) 1 [0])])
example:El:=([0,1],[CP (BO (Z7 K a) E (BD AB AJ)),AV<|GP (a "Store") (Q1 K a) E (BD AB AJ)])
example:Ev:=([0,1,2,3],[AT (AN (a "Store") "link" (N5 K a) E AB (BD AJ AR)) (AG 3),AT (AN (a "Store") "record_of" (KL K a) E AB (AF AJ)) (AG 4),AT (AN (a "Store") "empty_cell" (U3 K a) E AB (BD AJ<|CG<|AF<|BG K BB 1)) (AG 5),AV<|AD (BF K) BB (CG<|BD CM<|AN (a "Store") "recount" (Q3 K a) E AB (C9 BW (NF NT C3) (CG<|AF CM)))])
example:Ey:=([0,1,2],[AT (AN (a "Store") "hold" (ZT K a) E AB BM) (AG 2),AT (B0 (CI K<|AN (a "Store") "places_of" (ZV K a) E AB (AF AJ)) (AG 0) CQ (AN (a "Hold") "newest" (QX K a) (λ_=>E0) AJ (AF AB)) 1 [2]) (AG 3),AV<|BO (ZN K a) E (BD AR<|B0 (CI K BB) (AG 0) (A5<|AD FY AB<|tC .non) AB 1 [])])
example:Fb:=([0,1,2],[AT (BO (N9 K a) E (BD (AS K AB "plan") (AS K AB "ground"))) (AG 1),CT K AB (BO (Z8 K a) E (BD (AS K AB "plan") (AS K AB "ground"))) "store",AV<|CA (MO K) (AF<|CA (DQ K) (AF AJ))])
example:Fw:=([0,11],[AT (BG K AJ 0) (AG 2),CP<|AN (a "Store") "make" (Q4 K a) E AB (AF<|BG K AJ 1),CP<|AN (a "Store") "link" (N5 K a) E AB (BD (BG K AJ 1) (BG K AJ 2)),CP<|AN (a "Store") "cut" (Q5 K a) E AB (AF<|BG K AJ 1),CP<|AN (a "Store") "put" (Q6 K a) E AB (BD (BG K AJ 1) (BG K AJ 2)),CP<|AN (a "Store") "take" (Q7 K a) E AB (BD (BG K AJ 1) (CA (YM K) (AF<|BG K AJ 2))),CP<|AN (a "Store") "move" (Q8 K a) E AB (BD (BG K AJ 1) (BG K AJ 2)),BL (A5<|AD (CK K) AR (tC<|.str "take")) (Fw5 K a E E) (Fw6 K a E E),BL (A5<|AD (CK K) AR (tC<|.str "put")) (Fw4 K a E E) (Fw7 K a E E),BL (A5<|AD (CK K) AR (tC<|.str "cut")) (Fw3 K a E E) (Fw8 K a E E),BL (A5<|AD (CK K) AR (tC<|.str "link")) (Fw2 K a E E) (Fw9 K a E E),BL (A5<|AD (CK K) AR (tC<|.str "make")) (Fw1 K a E E) (Fw10 K a E E)])
example:cG:=([0,2,4,6,7],[AT (BG K AJ 0) (AG 2),AV<|BO (VC K a) E (AF<|AN (a "Store") "write" (VB K a) E AB (AF<|CA (YM K) (AF<|BG K AJ 1))),BL (A5<|AD (CK K) AR (tC<|.str "write")) (cG1 K a E E) BU,AV<|BO (RG K a) E (AF<|B0 (CI K<|BO (N7 K a) E (BD AB<|BG K AJ 1)) (AG 0) CQ (CA (MO K) (AF AB)) 1 []),BL (A5<|AD (CK K) AR (tC<|.str "keep")) (cG3 K a E E) BU,AV<|DZ K "str" (LC K) (tC<|.str "") (AF<|AN (a "Store") "texts" (U4 K a) E AB (AF<|BG K AJ 1)),BL (A5<|AD (CK K) AR (tC<|.str "show")) (cG5 K a E E) BU,AV<|BO (RG K a) E (AF<|AN (a "Store") "names" (UY K a) E AB BM)])
example:Gh:=([0,3,5,6],[AT (BO (aB K a) E (AF AJ)) (AG 2),CP<|BO (RH K a) E (BD (AS K AB "store") AR),AV<|tC<|.str "ok",BL (A5<|AD (QC K) (BG K AR 0) (tC<|.ref<|a "DEEDS")) (AH (Gh1 K a E E) (Gh2 K a E E)) BU,AV<|AN (a "House") "come_up_again" (RJ K a) E AB BM,BL (A5<|AD (CK K) (BG K AR 0) (tC<|.str "stop")) (Gh4 K a E E) BU,AV<|BO (RI K a) E (BD (AS K AB "store") AR)])
example:Gj:=([0,4,5],[AT (tC .non) (AG 2),AT (AN (a "House") "say" (FF K a) E1 AB (AF AJ)) (AG 2),AT (tC .non) (AG 2),AT (tC .non) (AG 2),S8 (λE1=>(Gj1 K a E E1)) (S7 (λcls=>W.exmAny K cls [.ref (a "NoName") ,.ref (a "Twice") ]) (Gj3 K a E E) (S7 (λcls=>W.exmAny K cls [.ref (a "NoPiece") ,.ref (a "NoRoom") ]) (Gj2 K a E E) XJ)),AV AR])
example:Gx:=([0,1,3,4,6,8,11,14,15],[AT (CA (DQ K) (AF<|BO (N9 K a) E (BD AB AR))) (AG 3),AT (BO (VF K a) E (BD AB AR)) (AG 4),AV<|tC<|.bl false,BL (MB (A5<|AD (DI K) (AN (a "House") "say" (FF K a) E AJ (AF<|tC<|.str "stop")) (CA (MO K) (AF BB))) (A5<|AD (DI K) (BO (N9 K a) E (BD AB AR)) (CG BM))) (Gx2 K a E E) BU,AT (DZ K "str" (LC K) (tC<|.str " ") (AF<|CA (rQ K) (AF<|W3 K "dict" rP BW))) (AG 5),AT (tC<|.str "-") (AG 5),BL (A5<|AD sN BW IF) (Gx5 K a E E) BU,AV<|tC<|.bl false,BL (A5<|AD (DI K) (AN (a "House") "say" (FF K a) E AJ (AF<|tC<|.str "names")) CM) (Gx7 K a E E) BU,AV<|tC<|.bl false,BL (A5<|AD (DI K) (AN (a "House") "say" (FF K a) E AJ (AF<|AD (BF K) (tC<|.str "show ") FG)) (JE BW FG)) (Gx9 K a E E) BU,YI BW (AG 6) (Gx10 K a E E),AV<|tC<|.bl false,BL (A5<|AD (DI K) (AN (a "House") "say" (FF K a) E AJ (AF<|AD (BF K) (tC<|.str "write ") (CA (MO K) (AF L3)))) (tC<|.str "0 0")) (Gx12 K a E E) BU,C4 (DR<|AF<|AN (a "Layout") "blocks" (N0 K a) E AB BM) (AG 7) (Gx13 K a E E),AV<|tC<|.bl true])
example:Hj:=([0,1,6,7],[AT (BO (VF K a) E (BD AJ AR)) (AG 4),AT DV<|AG 5,CP<|AN (a "House") "say" (FF K a) E1 AB (AF<|AD (BF K) L3 FG),WQ 5 C3 pZ,S8 (λE1=>(Hj2 K a E E1)) (S7 (λcls=>W.exmOne K cls<|.ref<|a "NoName") (Hj3 K a E E) XJ),C4 (CI K<|C7<|BD (tC<|.str "show ") (tC<|.str "keep ")) (AG 7) (Hj4 K a E E),C4 (CI K BB) (AG 6) (Hj5 K a E E),AV<|AD (CK K) CM (AD (FX K) RL (CA (DQ K) (AF<|B0 (CI K BB) (AG 0) (A5<|HN AB AJ) AB 1 [4])))])
example:cM:=([0,1,2,3,4,16,17],[AT (BO (ZD K a) E (BD AB DV)) (AG 1),AT (GP (a "Layout") (ZA K a) E (RO (AD (BF K) C3 (AD DD AJ HU)) (AD (BF K) C3 (AD DD (AD DH AJ HU) HU)) (AD (BF K) C3 (AD DD (AD DH AJ zks) HU)) (AD (BF K) C3 (AD DD (AD DH AJ<|DW 27) zkr)))) (AG 2),AT (GP (a "House") (aD K a) E (AF AR)) (AG 3),AT (AN (a "House") "plank" (aC K a) E BB BM) (AG 4),AT (BO (aE K a) E (AF<|AD DH AJ<|DW 108)) (AG 5),AV<|tC<|.bl false,BL (MB (FI<|G1 K<|BO (VG K a) E (C9 AR BB BW)) (FI<|G1 K<|BO (aK K a) E (RO BB AR BW CM))) (cM5 K a E E) BU,AT (AN (a "Plank") "writings" (UD K a) E BW BM) (AG 6),CP<|AN (a "House") "say" (FF K a) E BB (AF<|AD (BF K) (tC<|.str "write ") (CA (MO K) (AF<|AD DD (AD DH AJ HU) (AN (a "Layout") "blocks" (N0 K a) E AR BM)))),AV<|tC<|.bl false,BL (A5<|AD (DI K) (AN (a "Plank") "writings" (UD K a) E BW BM) (AD (BF K) FG C3)) (cM9 K a E E) BU,AT (BO (aJ K a) E (BD BB<|BO (aI K a) E (BD (AD DH AJ<|DW 12) CM))) (AG 7),AV<|tC<|.bl false,BL (KY (A5<|AD FY L3<|tC .non) (A5<|AD (DI K) L3 (tC<|.str "ok"))) (cM12 K a E E) BU,BL (A5<|AD (CK K) (AD DD AJ HU) DV) (AH (cM7 K a E E) (AH (cM8 K a E E) (cM10 K a E E))) (AH (cM11 K a E E) (cM13 K a E E)),BL (A5<|AD (CK K) (AD DD AJ<|DW 12) VH) (cM6 K a E E) (cM14 K a E E),C4 (CI K<|K1 (LB K) AB (JG C3) K0) (AG 1) (cM15 K a E E),AV<|BO (VG K a) E (C9 AR BB BW)])
end
local macro_rules
 |`(tactic|erw [$l,*])=>do
  let g:=fun (s:String)=>((s.splitOn " ").map fun n=>Lean.mkIdent n.toName).toArray
  let a←(g "zbc zbd zbe zbf zbg zbh zbi zbj zgl zgn zbk zbl zbm zgq zgt zg2 zbn zbo zbp zbq zbr zge zgc zgg zf9 zgj zbs zbt zbu zbv zbw zbx zi9 zjc zjf zby zbz zb0 zb1 zb2 zi6 zb3 zb4 zb5 zb6 ziv ziz ziw zi0 zb7 zfw zfx zfy zfz zf0 zf1 zf2 zf3 zf4 zf5 zgw zgx zgy zgz zg0 zb8 zb9 zcb zcc zcd zch zcj zci zg8 zg7 zg9 zck zcl zcf zce zcg zcm zhe zhf zhg zhh zhi zhj zhk zhl zhm zhn zho zhp zhq zhr zhs zht zhu zhv zhw zhx zhy zhz zcn zco zh5 zh8 zib zie zih zik zin zir zd7 zd8 zd9 zd4 zd3 zi4 zi3 ze7 zfn zfo zfp zfq zc0 zcy zfs zjq zjr zjn").mapM fun n=>`(Lean.Parser.Tactic.simpLemma|↓$n:term)
  let b←(g "T7 DD DH rPw NT pZ Ends.drop AW zf6 zf7 b_ nu List.reduceReplicate yg Nat.reduceSub p_ ko List.getElem?_cons_zero List.getElem?_cons_succ xq Option.join_some List.set_cons_zero List.set_cons_succ V.int.injEq V.ref.injEq V.bl.injEq V.str.injEq zh and_true true_and q1 q2 q3 q4 qL qR reduceCtorEq false_and and_false or_false false_or qF decide_eq_true_eq xw yn qD eq_self if_true kf if_false ite_true Bool.true_eq_false qC qA Int.reduceToNat Int.reduceLT Int.reduceLE Int.reduceEq Nat.reduceLeDiff cj not_true_eq_false not_false_eq_true").mapM fun n=>`(Lean.Parser.Tactic.simpLemma|$n:term)
  let c<-l.getElems.mapM fun r=>let n:Lean.Term:=⟨r.raw[1]⟩;if s!"{n.raw.getId}".endsWith "_" then `(Lean.Parser.Tactic.simpLemma|↓$n:term) else `(Lean.Parser.Tactic.simpLemma|$n:term)
  `(tactic|simp only [$a,*,$b,*,$c,*])
def nO{H:Hp}{t:Addr}{o:HO}{P:Hp->Prop}(h:H t=none)(k:∀ a,Same H a->a t=some o->P a):P (upd H t o):=k _ (AL h) AE
def D3{H:Hp}{t:Addr}{o:HO}(h:H t=none):∃ a,upd H t o=a/\Same H a/\a t=some o:={_,rfl,AL h,AE}
section
variable{K:W.Frag}{a:Ad}{vs:cF}{H:Hp}{Q:VK}{E:XK}
local macro_rules
 |`(command|example:($n:ident,$x,*):=$t:term)=>do
  let q:=x.getElems
  let i:=Lean.mkIdent
  let l:Array Lean.Term:=(List.replicate (q[2]!.raw.isNatLit?.getD 0) (Lean.Syntax.mkStrLit "")).toArray
  let a<-`($(q[0]!) $(i `K) $(i `a) $(i `vs) $(i `H) $(i `Q) $(i `E))
  let b<-`($(q[1]!) $(i `K) $(i `a) (fun _=>$(i `E)) (AX $(i `Q)) (AW [$l,*] $(i `vs)) $(i `H))
  if q.size=4 then `(command|def $n:ident ($(i `h):ident : $a) : $b := $t) else `(command|def $n:ident : $a → $b := $t)
example:(zvv,ZD,aX,2):=by
 apply u3;intro s ns k [rfl,hs,c,q];erw[aX,aX1_];refine{_,(.inl {_,hs,(ε _).symm}),?_};split;rename_i b;refine CH hs rfl  ?_ q;unfold QW;simp[(dn.mp b)]
 have:QW ns k=0:=by
  unfold QW;rw[wp,bv (by lia)];rfl
 rw[this]at q;exact q
example:(zvw,YX,aV,3):=by
 apply u4;intro p J m w [rfl,T,x,y,h1,h2,q];erw[aV,aV0_];refine{i0,by lia,(MK (BQ m<|oA y rfl) (λi ys c=>Same H c/\∃ g:List _,ys=g.map V.ref/\Paired (λt r=>c t=some (.tup r)) g (bd i<|bd w .non)) {Same.refl _,[],rfl,.nil} (λi ys c hi L d=>?_) (λys c L d M v=>?_))};let[s,g,e,P]:=d
 have fin:∀ (t':Addr) (j:Hp),Same c j->j t'=some _->Same H j/\∃ l:List _,ys++[V.ref t']=l.map _/\Paired (λt r=>j t=some (.tup r)) l (bd _ _):=λt' j A N=>by
  refine{s.trans A,g++[t'],by rw[e,av];rfl,?_};rw[List.replicate_succ'];exact Paired.snoc (Paired.mapP P λt r z=>A _ _ z) N
 refine{by decide,λt O=>.inr ?_}
 have B:Same c (upd c t<|.tup [V.non]):=λb o z=>by rw[AI (BJ z O)];exact z
 refine x3 t w _ {rfl,rfl,SqT.of AE,by simp,by lia,by lia,BQ _ (by simp;exact oA h2 rfl),λD=>?_,λD u U=>?_};refine fin t _ B ?_;rw[AE,(ce D)];rfl;rw[qM];exact fin u _ (B.trans λb o z=>by rw[AI (BJ z U)];exact z) AE;let[s,g,e,P]:=d
 have n:=BJ (s _ _ x) v;refine y3 {(by rw[AI n];exact s _ _ x),T.cl,T.nC,by decide,y3 {AE,T.cl,T.nW,KC (by decide),y3 {AE,T.cl,T.nN,KC  (rg (KC  (by decide))),?_}}};rw[GE,GE];refine q M _ (s.free v) {⟨J,AE⟩,{g,by rw[AI n.symm,AE,e],?_},λr Y=>?_,by simpa using y,h2} λb o I hb=>?_;refine Paired.mapP P λt r z=>?_;rw[AI (BI z (s _ _ x) (by intro z';cases z')),AI<|BJ z v];exact z;rw[sv Y,uo];rw[AI hb,AI<|BJ (s _ _ I) v];exact s _ _ I
example:(zvx,QK,vE,1):=by
 apply u5;intro p b w rows n [rfl,T,P,q];let[c,h2,h3]:=P.ls;let[d,h1]:=P.ob;refine y3 {h1,T.cl,T.nC,_,UC _ _ _,_,.inl {_,SqL.of h2,?_},q};rw[ε,h3.length]
example:(zvy,YY,vF,1):=by
 apply u5;intro p b w rows n [rfl,T,P,q];let[c,h1]:=P.ob;exact y3 {h1,T.cl,T.nW,_,sR _ _ _,q}
example:(zvz,NX,aW,2):=by
 apply u6;intro p d w rows n b [rfl,T,P,q,c];let[e,h2,h3]:=P.ls;let[g,h1]:=P.ob;erw[aW,aW1_];split;rename_i h0;refine y3 {h1,T.cl,T.nC,_,UC _ _ _,_,.inl {_,SqL.of h2,(by rw[ε,h3.length])},?_};split;exact{by decide,c (by lia)};exact q h0 (by lia);exact{by decide,c (by lia)}
def Jh(b:Addr)(w n:Int):(pf b w n).lookup ("ask_for_block":Str)=none:=IK _ _ _ (by decide) (by decide) (by decide)
example:(zv0,LK,bL,2):=by
 apply u6;intro p d w rows n b [rfl,T,P,q,e];let[o,h1]:=P.ob;let[r,h2,h3]:=P.ls;erw[bL,bL0_,NX];refine y2 {h1,Jh _ _ _,T,x3 d w _ {⟨n,P⟩,λh0 g=>y3 {h1,T.cl,T.nC,_,UC _ _ _,?_},e}};obtain⟨i,rfl⟩:∃ i:Nat,b=i:={_,(fu h0).symm}
 have c:=dn.mp g;let[t,j,l]:=JB h3<|θ c;exact CH (SqL.of h2) rfl (v:=.ref t) (by rw[υ,j];rfl) {_,.inr<|SqT.of l,q i _ rfl<|θ c}
example:(zv1,UE,bM,3):=by
 apply u8;intro p g w rows n b v xs [rfl,T,P,y,M,q,A];let[B,h2,h3]:=P.ls;let[D,h1]:=P.ob
 have e:=P.ne;erw[bM,bM0_,bM2_,bM3_,bM4_,NX];refine y2 {h1,Jh _ _ _,T,x3 g w _ {⟨n,P⟩,λh0 I=>{_,.inl ⟨_,y,rfl⟩,y3 {h1,T.cl,T.nW,_,sR _ _ _,?_}},λz=>A<|z.imp id .inl}};obtain⟨i,rfl⟩:∃ i:Nat,b=i:={_,(fu h0).symm}
 erw[];split;exact{by decide,A (.inr (.inr (by lia)))}
 have J:xs.length=w:=by lia
 refine{xs,.inl {y,λt l=>?_}}
 have d:=BJ h1 l
 have j:=BJ h2 l;refine y3 {by rw[AI d];exact h1,T.cl,T.nC,_,UC _ _ _,(x4 g _ i i {rfl,rfl,by rw[AI j];exact h2,?_,?_})};unfold HG;rw[if_pos (i0),if_pos (by rw[ε,h3.length];exact I),cj];refine y3 {by rw[AI e,AI d];exact h1,T.cl,T.nN,_,sT _ _ _,?_};erw[];refine y2 {by rw[AI e,AI d];exact h1,by show 3<1000;decide,(q i rfl (dn.mp I) J _ {⟨D,AE⟩,{B.set i t,?_,?_},λr L=>?_,by rw[kj];exact P.sz,P.sw} λx o ex c=>?_)};rw[AI e.symm,AE,List.map_set]
 have keep:∀ u r,H u=some (.tup r)->upd (upd (upd H t<|.tup xs) g (.lst<|(B.map V.ref).set i (.ref t))) p (.ins (a "Plank") D (pf g w<|n+1)) u=some _:=λu r s=>by
  rw[AI (BI s h1 (by intro z;cases z)),AI (BI s h2 (by intro z;cases z)),AI<|BJ s l];exact s
 refine zcr ?_ i<|Paired.mapP h3 keep;rw[AI d.symm,AI j.symm,AE];let z||z:=rn L
 exact P.wd r z;rw[z];exact J
 have c:x≠p/\x≠g:={λz=>c<|.inl z,λz=>c<|.inr z}
 rw[AI c.1,AI c.2,AI<|BJ ex l];exact ex
def OE(b:Addr)(w n:Int):(pf b w n).lookup ("read":Str)=none:=IK _ _ _ (by decide) (by decide) (by decide)
def Jj(b:Addr)(w n:Int):(pf b w n).lookup ("write":Str)=none:=IK _ _ _ (by decide) (by decide) (by decide)
def FV(h:fs.length<n):(BS f v fs).length<n+1:=cf (O4 f v fs) (rg h)
def SameBut.none{b:Addr}{H c:Hp}{x:Addr}(s:SameBut (· =b) H c)(d:c b≠xo)(h:c x=xo):H x=xo:=by
 cases e:H x with
 |none=>rfl
 |some o =>
  have:x≠b:=λz=>d<|z ▸ h;rw[s _ _ e this]at h;cases h
example:(zv2,ZE,uF,4):=by
 apply u5;intro x c d v e [rfl,T,b,q];refine y3 {b,T.cc,T.nP,by decide,y3 {AE,T.cc,T.nV,FV  (by decide),y3 {AE,T.cc,T.nN,FV  (FV  (by decide)),?_}}};rw[GE,GE];exact q
example:(zv3,UR,bE,2):=by
 apply u7;intro b D cl M w rows n [rfl,T,TP,P,N,q];erw[bE,bE0_,bE1_,bE2_]
 have e1:upd H b _ b=some (.ins (HR a) M (BS "ground" (.ref D) [])):=AE;refine y3 {N,T.cl,T.nG,by decide,by decide,?_}
 have s1:SameBut _ H (upd H b<|.ins (HR a) M (BS "ground" (.ref D) [])):=λx o e n=>by rw[AI n];exact e
 revert e1 s1;generalize upd H b _=H1;intro e1 s1 m hm
 have O:=s1.none (by rw[e1];intro z;cases z) hm
 have nbm:=BJ e1 hm;refine y3 {by rw[AI nbm];exact e1,T.cl,T.nM,FV  (by decide),?_}
 have I:SameBut _ H (upd (upd H1 m<|.lst []) b (.ins (HR a) M (BS "made" (.ref m) (BS "ground" (.ref D) [])))):=(s1.upd<|.inr O).upd (.inl rfl)
 have e2:upd (upd H1 m<|.lst []) b _ b=some (.ins (HR a) M (BS "made" (.ref m) (BS "ground" (.ref D) []))):=AE
 have m2:upd (upd H1 m<|.lst []) b (.ins (HR a) M (BS "made" (.ref m) (BS "ground" (.ref D) []))) m=some (.lst []):=by rw[AI nbm.symm,AE]
 revert I e2 m2;generalize upd _ b _=H2;intro I e2 m2
 have P2:PlankAt a H2 D cl w rows n:=by
  let[[dx',f1],[ts,f2,f3],r1,r2,r3]:=P;exact{{_,I _ _ f1 (BI f1 N (NY (by simp[pf])))},{ts,I _ _ f2 (BI f2 N (by intro z;cases z)),Paired.mapP f3 λt r z=>I _ _ z (BI z N (by intro z;cases z))},r1,r2,r3}
 let[dp,hp]:=P2.ob;refine y2 {hp,IK _ _ _ (by decide) (by decide) (by decide),x5 D cl w _ n {rfl,TP,P2,i0,by have:=P.sz;lia,?_}};rw[cj];refine MK (BQ _<|oA P.sz rfl) (λi ys g=>Same H2 g/\∃ p:List _,ys=p.map V.ref/\p.Nodup/\∀ l∈p,g l=some (.lst [])/\H2 l=none) {Same.refl _,[],rfl,jz,by simp} (λi ys g hi hl U=>?_) (λys g hl U u IB=>?_);let[s,p,ey,nd,al]:=U;refine{by decide,λl c=>{s.trans<|AL c,p++[l],by rw[ey,av];rfl,(om.mpr {nd,by simp,λx J y hy e=>by rw[aa]at hy;subst hy e;rw[(al _ J).1]at c;cases c}),λx J=>?_}};let J||J:=bc.mp J
 exact{AL c _ _ (al x J).1,(al x J).2};rw[aa.mp J];exact{AE,s.free c};let[s,p,ey,nd,al]:=U
 have s3:SameBut (· =b) H (upd g u<|.lst ys):=by
  intro x o e nx
  have e':=s _ _<|I _ _ e nx;rw[AI (BJ e' IB)];exact e'
 have e3:upd g u (.lst ys) b=some (.ins (HR a) M (BS "made" (.ref m) (BS "ground" (.ref D) []))):=by rw[AI (BJ (s _ _ e2) IB)];exact s _ _ e2
 have m3:upd g u (.lst ys) m=some (.lst []):=by rw[AI (BJ (s _ _ m2) IB)];exact s _ _ m2
 have i3:upd g u (.lst ys) u=some (.lst<|p.map V.ref):=by rw[AE,ey]
 have Y:∀ l∈p,upd g u (.lst ys) l=some _/\H l=none/\l≠u/\l≠m:=λl c=>by
  have z:=al l c
  have d:=BJ z.1 IB;exact{by rw[AI d];exact z.1,I.none (by rw[e2];intro z;cases z) z.2,d,λy=>by rw[y,m2]at z;cases z.2}
 have L:=I.none (by rw[e2];intro z;cases z) (s.free IB);revert s3 e3 m3 i3 Y;generalize upd g u _=H3;refine λs3 e3 m3 i3 Y=>y3 {e3,T.cl,T.nI,FV  (FV  (by decide)),λlt A0=>?_}
 have A:=BJ AE A0;rw[AI A.symm]at A0;refine y3 {by rw[AI A,AE],T.cl,T.nL,FV  (FV  (FV  (by decide))),λou EE=>?_}
 have B:=BJ AE EE;rw[AI B.symm]at EE
 have nl5:=BJ AE EE;rw[AI nl5.symm,AI B.symm]at EE;refine y3 {by rw[AI B,AE],T.cl,T.nO,FV  (FV  (FV  (FV  (by decide)))),?_};rw[zj7];generalize eH:upd _ b _=H5
 have kp:∀ x,x≠b->x≠lt->x≠ou->H5 x=H3 x:=λx d n2 n3=>by rw[<-eH,AI d,AI n3,AI d,AI n2,AI d]
 have kk:∀ x o,H3 x=some o->x≠b->H5 x=some o:=λx o e d=>by rw[kp x d (BJ e A0) (BJ e EE)];exact e
 have s5:=λx o e d=>kk x o (s3 _ _ e d) d
 have nbx:∀ x xs,H3 x=some (.lst xs)->x≠b:=λx xs e=>BI e e3 (by intro z;cases z);refine q m u lt ou p H5 O L (s3.none (by rw[e3];intro z;cases z) A0) (s3.none (by rw[e3];intro z;cases z) EE) (λl c=>(Y l c).2.1) {{{M,by rw[<-eH,AE]},{[],kk _ _ m3<|nbx _ _ m3,.nil},kk _ _ i3<|nbx _ _ i3,λi l e=>?_,nd,{[],?_,λi j=>rfl,ο _},{[],(by rw[<-eH,AI B.symm,AE]),λk=>rfl,jz,by simp},by simp,by simp,by simp,{(BJ (s _ _ m2) IB),(λz=>(Y _ z).2.2.2 rfl),(λz=>(Y _ z).2.2.1 rfl),?_,?_,?_},by simp},?_,(by rw[<-hl,ey,ε])} s5
 have z:=Y l<|η e;exact kk _ _ z.1<|nbx _ _ z.1;rw[<-eH,AI A.symm,AI nl5,AI A.symm,AE];let[ts,z,v]:=P.ls;exact BJ z O;let[ts,z,v]:=P.ls;exact BJ z L;let[ts,z,v]:=P.ls;exact λy=>by rw[(Y _ y).2.1]at z;cases z
 let[[dx',f1],[ts,f2,f3],r1,r2,r3]:=P;exact{{_,s5 _ _ f1 (BI f1 N (NY (by simp[pf])))},{ts,s5 _ _ f2 (BI f2 N (by intro z;cases z)),Paired.mapP f3 λt r z=>s5 _ _ z (BI z N (by intro z;cases z))},r1,r2,r3}
example:(zv4,ZF,VM,2):=by
 apply u3;intro nl ns o [rfl,hs,b,q];cases o with
 |none =>
  erw[VM,VM0_,VM1_];refine{ns,hs,oC b rfl,λx o D c d e r m l=>{_,.inl {SqL.of AE,λt g=>q t c _ (((AL d).trans (AL e)).trans (AL g)) AE r (λy=>?_) (ck l)}}};rw[m y];simp
 |some k =>
  erw[VM,VM1_,VM2_];refine{_,.inl hs,λl i=>{by decide,λp u=>.inl ?_}}
  have j:Same H (upd _ p<|.lst [.int k]):=(AL i).trans (AL u)
  have n:upd (upd H l<|.lst<|ns.map V.int) p (.lst [.int k]) l=some (.lst<|ns.map V.int):=by rw[AI (BJ AE u),AE]
  have s:upd (upd H l<|.lst<|ns.map V.int) p _ p=some (.lst [.int k]):=AE;revert j n s;refine λj n s=>x4 l p _ _ {rfl,rfl,n,s,BQ _ (by simp;exact oA b rfl),λr v=>{r,rfl,ns++[(k:Int)],?_,by simp;exact oG b rfl,λx o D c d e w m z=>{_,.inl {SqL.of AE,λt g=>q t c _ ((((j.trans<|AL v).trans (AL d)).trans (AL e)).trans (AL g)) AE w (λy=>?_) (by simpa using z)}}}};rw[av];exact SqL.of AE;rw[m y];simp
example:(zv5,ZG,xA,2):=by
 apply u9;intro A w rows n cs outs l i j [rfl,T,TP,B,c,q,b];let[o,d]:=B.bk.ob;let[p,e]:=B.pk.ob
 have g:∀ {m:Str},¬ m="contents"->¬ m="width"->¬ m="written"->(pf A.cl w n).lookup m=none:=λh1 h2 h3=>IK _ _ _ h1 h2 h3;refine BT c  rfl rfl ?_;erw[];split;rename_i h0;refine y3 {d,T.cl,T.nG,_,QM,y2 {e,g (by decide) (by decide) (by decide),x5 _ _ w _ n {rfl,TP,B.pk,?_}}};erw[];split;exact{by decide,b λz=>by lia};refine BT c  rfl rfl ?_;erw[];split;rename_i h2;refine y3 {d,T.cl,T.nG,_,QM,y2 {e,g (by decide) (by decide) (by decide),x5 _ _ w _ n {rfl,TP,B.pk,?_}}};erw[];split;exact{by decide,b λz=>by lia};exact q {h0,by lia,h2,by lia};exact{by decide,b λz=>by lia};exact{by decide,b λz=>by lia}
example:(zv6,QX,zR,2):=by
 apply u9;intro A w rows n cs outs g i j [rfl,T,TP,B,b,q,l];let[p,c]:=B.bk.ob;let[kvs,d,o,z]:=B.bk.lat;refine y2 {c,C8,x9 A w _ n cs _ g i j {rfl,T,TP,B,b,λh=>(y3 {c,T.cl,T.nL,_,sY,.inr {_,.inl d},_,rH d b,?_}),l}};rw[o]
 have:=q h;cases e:D5 cs i j with
 |none=>rw[e]at this;exact this
 |some k=>rw[e]at this;exact this
def BookIn.len(B:BookIn C D H A w cs outs):∃ xs,H A.m=some (.lst xs)/\xs.length=cs.length:=by
 let[b,e,p]:=B.made;exact{_,e,by rw[ε,p.length]}
example:(zv7,US,uK,3):=by
 apply u8;intro A w rows n cs outs nl ns [rfl,T,B,hs,q,s];let[D,u]:=B.bk.ob;let[xs,v,o]:=B.bk.len;refine .inl {⟨_,hs⟩,(GZ  (λi j d=>d=H/\(∃ z,j=[some _,some _,z])/\∀ x∈ns.take i,known cs x) {rfl,⟨_,rfl⟩,by simp} (by intro i j d _ [e,_];exact e ▸ hs) (λi x j d l b=>?_) (λj d b=>?_))};let[rfl,[z,rfl],p]:=b;rw[υ,af]at l;let[r,g,rfl]:=l
 have bad:¬ known cs r->1<=sizeLine/\E _ _ d:=λh=>{by decide,s {r,η g,h}}
 erw[uK0_,uK1_];split;rename_i h0;refine y3 {u,T.cl,T.nM,_,JI,_,.inl {_,SqL.of v,o.symm},?_};split;exact bad λz=>by lia
 intro y c;rw[cw,g]at c;let c||c:=bc.mp c
 exact p y c;simp only[Dn,aa]at c;subst c;exact{h0,by lia};exact bad λz=>by lia
 let[e,[z,I],p]:=b;subst e;refine q λx l=>p x ?_;rw[ε,ca];exact l
example:(zv8,UT,uG,1):=by
 apply u6;intro A w rows n cs outs [rfl,T,B,q];let[xs,e,b]:=B.bk.len;let[o,c]:=B.bk.ob;let[r,g,j,z]:=B.bk.out
 have sz:=B.bk.sz;refine y3 {c,T.cl,T.nM,_,JI,_,.inl {_,SqL.of e,b.symm},i0,by lia,(zd6 (λk=> !outs k) (BQ _<|oA sz rfl) (λi s u l=>(y3 {c,T.cl,T.nO,_,QN,_,dI g,?_})) λp d=>(q p _ d (AL d) (by rw[AE];rfl)))};rw[j];exact l
example:(zv9,GS,Av,6):=by
 apply OW;intro A w rows n cs outs M nl v ns i j [rfl,T,TP,B,hp,hs,hl,hc,q,q1,q2];let[xs,hm,hml]:=B.bk.len;let[dx,hb]:=B.bk.ob;refine y2 {hb,C8,x9 A w _ n cs outs M i j {rfl,T,TP,B,hp,λhon=>(y2 {hb,C8,x8 A w rows n cs outs nl ns {rfl,T,B,hs,λhkn=>(y3 {hb,T.cl,T.nM,_,JI,cs.length,.inl {_,SqL.of hm,hml.symm},(y3 {hb,T.cl,T.nM,_,JI,.inl {rfl,_,SqL.of hm},x3 nl ns (D5 cs i j) {rfl,hs,hl,λt ks H1 s1 et kr km kl=>(λx L hx hdy ndy=>x5 x L M v t {rfl,T,AE,rfl,?_})}})}),q2 hon}}),q1}};rw[GE]
 have s2:Same H1 (upd (upd H1 L<|.own x) x (.ins (a "Change") L (F5 M v t))):=(AL hdy).trans (AL (by rw[AI ndy.symm];exact hx))
 have ex:upd (upd H1 L<|.own x) x (.ins (a "Change") L (F5 M v t)) x=some (.ins (a "Change") L (F5 M v t)):=AE;revert s2 ex;generalize upd (upd H1 L<|.own x) x (.ins (a "Change") L (F5 M v t))=H2;intro s2 ex
 have s:=s1.trans s2;replace et:=s2 _ _ et;let[chs,O,pch]:=B.bk.made
 have IB:=B.bk.mil;let[kvs,A0,hv,GU]:=B.bk.lat;let[i0,i1,j0,j1]:=hon;let[DY,EE,hvo,hko]:=B.bk.out;obtain⟨U,rfl⟩:∃ U:Nat,j=U:={j.toNat,(fu j0).symm}
 obtain⟨g,rfl⟩:∃ g:Nat,i=g:={i.toNat,(fu i0).symm}
 have Y:g<A.ls.length:=by rw[B.nb];exact dn.mp i1
 have el:=θ Y
 have r:=B.bk.mic g _ el
 have b:=uz Y;revert el r b;generalize A.ls[g]=l;intro el r b
 have ap:=B.bk.ap
 have nml:A.m≠l:=λz=>ap.2.1<|z ▸ b
 have ncl:A.cl≠l:=λz=>ap.2.2.2.2.2<|z ▸ b
 have d:∀ {y:Addr} {o:HO},H2 y=some o->(∀ k,o≠.dT k)->y≠A.lt:=λe h=>BI e (s _ _ A0) (h _)
 have I:∀ {y:Addr} {o:HO},H2 y=some o->(∀ k,o≠.lst k)->y≠A.m:=λe h=>BI e (s _ _ O) (h _)
 have J:∀ {y:Addr} {o:HO},H2 y=some o->(∀ k,o≠.lst k)->y≠l:=λe h=>BI e (s _ _ r) (h _)
 have D:=s _ _ hb
 have JX:=s _ _ hp;refine{_,s _ _ O,ω (show(chs.map V.ref).length<1000 by rw[ε];exact oD (cf (ba pch.length) hc) rfl) (by decide),?_}
 have bb:=I D (by intro k z;cases z)
 have bl:=J D (by intro k z;cases z)
 have pm:=I JX (by intro k z;cases z)
 have pl':=J JX (by intro k z;cases z)
 have mt:=d (s _ _ O) (by intro k z;cases z)
 have lt':=d (s _ _ r) (by intro k z;cases z)
 have bln:=Y2 cs g;refine y3 {by rw[AI bb];exact D,T.cl,T.nI,_,Y4,BT (by rw[AI pm];exact JX) (n:=0) rfl rfl (CH (SqL.of (by rw[AI ap.1.symm];exact s _ _ IB)) (n:=g) (v:=.ref l) rfl (by rw[υ,el];rfl) {.inl {rfl,_,SqL.of (by rw[AI nml.symm];exact s _ _ r)},{_,by rw[AI nml.symm];exact s _ _ r,ω (show((DF cs g).map λ(k:Nat)=>V.int k).length<1000 by rw[ε];lia) (by decide),(y3 {by rw[AI bl,AI bb];exact D,T.cl,T.nL,_,sY,_,pT2 (by rw[AI lt'.symm,AI mt.symm];exact s _ _ A0) (by rw[AI pl',AI pm];exact JX) (oD (cf GU hc) rfl),?_})}})};generalize eH:upd (upd (upd H2 A.m _) l _) A.lt (.dT<|CD kvs [.inl ↑g,.inl ↑U] (.int ↑cs.length))=H5
 have N:∀ y,y≠A.m->y≠l->y≠A.lt->H5 y=H2 y:=λy n1 n2 n3=>by rw[<-eH,AI n3,AI n2,AI n1]
 have s5:SameBut (λy=>y=A.m\/y=l\/y=A.lt) H H5:=λy o e ny=>by
  rw[N y (λz=>ny<|.inl z) (λz=>ny<|.inr<|.inl z) (λz=>ny<|.inr<|.inr z)];exact s _ _ e
 have lo:∀ y,(y=A.m\/y=l\/y=A.lt)->ER (H y):=by
  rintro y (z|z|z)
  ·exact B.loose<|.inl z
  ·exact B.loose<|.inr<|.inr<|.inl<|z ▸ b
  ·exact B.loose<|.inr<|.inr<|.inr<|.inl z
 have hnd:∀ y∈ks,0<=y/\y<cs.length:=λy hy=>by
  let h||[k,e,rfl]:=(km y).mp hy
  ·exact hkn y h
  ·exact{iM rfl,by have:=QL e;exact dn.mpr this}
 refine q ⟨i0,i1,j0,j1⟩ hkn ks H5 kr km {{{dx,by rw[N _ bb bl (d D (by intro k z;cases z))];exact D},{chs++[x],?_,Paired.snoc (Paired.mapP pch λy c h=>h.sb s5 lo) (x3 L M t {?_,?_,?_})},?_,λk l' e=>?_,B.bk.nd,{CD kvs [.inl ↑g,.inl ↑U] (.int ↑cs.length),(by rw[<-eH,AE]),λp q=>?_,?_},{DY,?_,hvo,(hko.mono (by simp))},?_,λc hc'=>?_,λk c e=>?_,ap,λk c e j ej=>?_},B.pk.sbL s5 lo ?_,B.nb} (s5.wide λy z=>?_);rw[<-eH,AI mt,AI nml,AE,av];rfl;rw[N x (I ex (by intro k z;cases z)) (J ex (by intro k z;cases z)) (d ex (by intro k z;cases z))];exact ex
 ·rw[N M pm pl' (d JX (by intro k z;cases z))];exact JX
 rw[N t (I et (by intro k z;cases z)) (J et (by intro k z;cases z)) (d et (by intro k z;cases z))];exact et;rw[N _ ap.1.symm (λz=>ap.2.2.1<|z ▸ b) (d (s _ _ IB) (by intro k z;cases z))];exact s _ _ IB;rw[zj5];by_cases z:l'=l;subst z
 have ek:k=g:=by
  let[h1,h2]:=ζ.mp e;let[h3,h4]:=ζ.mp el;exact(Gs B.bk.nd).mp (h2.trans h4.symm)
 subst ek;rw[<-eH,AI lt',AE];simp
 have nk:¬ g=k:=λy=>by subst y;rw[el]at e;cases e;exact z rfl
 have hl':=B.bk.mic k l' e;rw[N l' (λy=>ap.2.1<|y ▸ η e) z (d (s _ _ hl') (by intro k z;cases z))];simp only[cj,if_neg nk];exact s _ _ hl';rw[HJ,YZ];by_cases z:p=g/\q=U;let[rfl,rfl]:=z;simp;rw[if_neg (λy=>z (by simpa using y)),if_neg<|λy=>z ⟨y.1.symm,y.2.symm⟩];exact hv p q
 have:=HK kvs [.inl ↑g,.inl ↑U] (.int ↑cs.length);simp;lia;rw[N _ (I (s _ _ EE) (by intro k z;cases z)) (J (s _ _ EE) (by intro k z;cases z)) (d (s _ _ EE) (by intro k z;cases z))];exact s _ _ EE;simp;exact dv hc;let h||h:=bc.mp hc'
 exact B.bk.inn c h;rw[aa.mp h];exact{by rw[cj];exact Y,(show(U:Int).toNat<w by exact dn.mp j1)};let h||h:=ff k cs.length
 rw[bg h]at e;exact B.bk.need k c e;rw[cg h]at e
 have:k-cs.length=0:=by
  rcases ni (k-cs.length)with z|z
  ·exact z
  ·rw[bv (by simp;exact z)]at e;cases e
 rw[this]at e;cases e;exact{λy hy=>{(hnd y hy).1,by have:=(hnd y hy).2;lia},kr,(show ks.length<=100 by lia)};let h||h:=ff k cs.length
 rw[bg h]at e;rw[List.take_append_of_le_length (by exact js h)]at ej;exact B.bk.chn k c e j ej;rw[cg h]at e
 have:k-cs.length=0:=by
  rcases ni (k-cs.length)with z|z
  ·exact z
  ·rw[bv (by simp;exact z)]at e;cases e
 have hk:k=cs.length:=by lia
 subst hk;rw[this]at e;cases e;exact(km _).mpr (.inr {j,by simpa using ej,rfl});rintro (z|z|z);exact ap.2.2.2.1 z;exact ncl z;let[ts,e,u]:=B.pk.ls;exact d (s _ _ e) (by intro k z;cases z) z;let z||z||z:=z
 exact .inl z;exact .inr<|.inr<|.inl<|z ▸ b;exact .inr<|.inr<|.inr<|.inl z
def BookIn.at{C D:Addr}{A:BA}{w:Nat}{cs:zE}{outs:vD}{H:Hp}(B:BookIn C D H A w cs outs){k:Nat}{c:Ch}(e:cs[k]? =some c):∃ xs x,H A.m=some (.lst xs)/\xs[k]? =some (.ref x)/\ChAt D H x c:=by
 let[b,h,p]:=B.made;let[x,ex,d]:=JB p e;exact x2 _ x {h,by rw[υ,ex];rfl,d}
def zwa{n:Nat}{outs:vD}{k:Nat}(h:k∈FS n outs):k<n/\outs k=false:=by
 have:=c_.mp h;exact{ao.mp this.1,by simpa using this.2}
def zwb(n:Nat)(outs:vD):(FS n outs).Pairwise (· <·):=ix.filter _
def zwc(n:Nat)(outs:vD):(FS n outs).length<=n:=by
 have:=cz (λ(k:Nat)=> !outs k) (ρ n)
 rwa [cr]at this
example:(zwd,ZH,w9,5):=by
  apply u8;intro A w rows n cs outs nl ns [rfl,T,B,hs,hl,q,qe];let[dx,hb]:=B.bk.ob;refine y2 {hb,C8 (by decide),x8 A w _ n cs _ nl ns {rfl,T,B,hs,λhkn f hf=>(.inl {{_,(AL hf).seq hs},(GZ  (λi u D=>∃ kvs,D=upd H f (.dK kvs)/\(∀ x:Int,(BE kvs<|.inl x).isSome=true↔x∈ns.take i)/\kvs.length<=i/\∃ z,u=[some (.ref _),some _,some _,z,none]) {[],rfl,by simp[XA],ο _,_,rfl} (by intro i u D _ [kvs,e,_];rw[e];exact(AL hf).seq hs) (λi x u D p g=>?_) (λu D g=>?_))}),qe}};let[kvs,rfl,hv,GU,z,rfl]:=g
  have hi:=(ζ.mp p).1;rw[ε]at hi;rw[υ,af]at p;let[x',J,rfl]:=p;erw[w98_];refine{_,pI AE (by lia),_,GE,λy=>?_,?_};rw[HJ,cw,J,bc,<-hv y];by_cases e:y=x';subst e;simp
  have:¬ (vb y:AM)=vb x':=λz=>e (by simpa using z);simp[e]
  have:=HK kvs (.inl x') (.bl true)
  lia
  let[kvs,rfl,hv,GU,z,rfl]:=g;rw[ε,ca]at hv;rw[ε]at GU
  have s1:=AL (o:=.dK kvs) hf;erw[w97_]
  have B1:=B.same s1
  have f1:upd H f (.dK _) f=some (.dK kvs):=AE;refine y2 {s1 _ _ hb,C8 (by decide +kernel),x6 A w rows n cs outs {rfl,T,B1,λl H2 DC s2 el=>?_}};erw[]
  have IA:=s1.trans s2;refine{_,SqL.of el,?_}
  have sz:=B.bk.sz
  have wl:=zwc cs.length outs
  have hW:(AQ<|FS cs.length outs).length=(FS cs.length outs).length:=ε _
  have keep:∀ d,Same H (upd H2 f<|.dK d):=λd b o e=>by
    rw[AI (BJ e hf)];exact IA _ _ e
  have Bk:=λd=>B.same<|keep d;refine zd5 (λi u D=>∃ d,D=upd H2 f (.dK d)/\(∀ x∈ns,(BE d<|.inl x).isSome=true)/\(∀ x:Int,(BE d<|.inl x).isSome=true->x∈ns\/∃ (k:Nat) (c:Ch),cs[k]? =some c/\outs k=false/\(BE d<|.inl (k:Int)).isSome=true/\x∈c.nd) /\
    (∀ (t:Nat) (k:Nat) (c:Ch),(FS cs.length outs)[t]? =some k->(FS cs.length outs).length-i<=t->cs[k]? =some c->(BE d<|.inl (k:Int)).isSome=true->∀ y∈c.nd,(BE d<|.inl y).isSome=true)/\d.length<=1000+100*i/\∃ z z',u=[some (.ref A.b),some<|.ref nl,some<|.ref f,z,z'])
    {kvs,?_,λx p=>(hv x).mpr p,λx p=>.inl<|(hv x).mp p,λt k c s L=>?_,ψ GU hl,_,_,rfl} (λi u D _ ⟨d,e,_⟩=>by rw[e];exact SqL.of (by rw[AI (BJ f1 DC).symm];exact el)) (λi x u D hi p g=>?_) (λu D g=>?_)
  funext b;by_cases e:b=f;subst e;rw[AE];exact(s2 _ _ f1);rw[AI e]
  have:=(ζ.mp s).1;exact nL this L;let[d,rfl,h1,h3,h2,hkl',z,z',rfl]:=g;rw[hW]at hi p;unfold AQ at p;rw[υ,af]at p;let[k,J,rfl]:=p;let[hk,ho]:=zwa<|η J
  have ec:=θ hk;revert ec;generalize cs[k]=c;intro ec
  have later:∀ (t I:Nat),(FS cs.length outs)[t]? =some I->(FS cs.length outs).length - (i+1)<=t->I=k\/(k<I/\(FS cs.length outs).length - i<=t):=λt I s L=>by
    by_cases z:t=(FS cs.length outs).length-1-i
    ·subst z;rw[J]at s;cases s;exact .inl rfl
    · let[h5,rfl]:=ζ.mp s
      let[h6,rfl]:=ζ.mp J;exact .inr {rj.mp (zwb cs.length outs) _ _ h6 h5 (by lia),by lia}
  refine{_,dI AE,?_};cases hin:(BE d<|.inl (k:Int)).isSome with
  |false =>
    erw[];refine{_,rfl,h1,h3,λt I c' s L M Y=>?_,by lia};let rfl||[_,z]:=later t I s L
    ·rw[hin]at Y;cases Y
    ·exact h2 t I c' s z M Y
  | true =>
    erw[];refine u2 ?_<|(Bk d).bk.at ec;intro xs cx [hm,ex,DO];revert DO;apply u3;intro dc pl nt [hc1,hc2,N]
    have hb2:=(keep d) _ _ hb;refine y3 {hb2,T.cl,T.nM,_,JI,CH (SqL.of hm) rfl ex (y3 {hc1,T.cc,T.nN,_,sX,.inr {{_,SqT.of N},?_}})};let[nd1,nd2,nd3]:=B.bk.need k c ec;refine XQ (xs:=c.nd.map V.int) (λt u D=>∃ j,D=upd H2 f (.dK j)/\(∀ x:Int,(BE j<|.inl x).isSome=true↔(BE d<|.inl x).isSome=true\/x∈c.nd.take t)/\j.length<=d.length+t/\∃ z',u=[some (.ref A.b),some<|.ref nl,some<|.ref f,some<|.int k,z'])
      {d,rfl,by simp,ο _,_,rfl} (λt u D _ g=>?_) (λt y u D O g=>?_) (λu D g=>?_)
    · let[j,e,_]:=g
      rw[e]
      have nf:nt≠f:=BI N AE (by intro z;cases z);rw[AI nf]at N;exact SqT.of (by rw[AI nf];exact N)
    · let[j,e,HC,U,z2,ez]:=g
      subst e;subst ez
      have hty:=(ζ.mp O).1;rw[ε]at hty;rw[υ,af]at O;let[y',hy',rfl]:=O;erw[w90_,w91_,w92_,w93_,w94_,w95_,w96_,w97_,w98_];refine{_,pI AE (by lia),_,GE,λx=>?_,?_}
      · rw[HJ,cw,hy',bc]
        by_cases e:x=y'
        ·subst e;simp
        · have:¬ (vb x:AM)=vb y':=λz=>e (by simpa using z)
          rw[if_neg this,HC x];simp[e]
      · have:=HK j (.inl y') (.bl true)
        lia
    · let[j,e,HC,U,z2,ez]:=g
      subst e;subst ez;rw[ε,ca]at HC;rw[ε]at U
      have up:∀ {x:Int},(BE d<|.inl x).isSome=true->(BE j<|.inl x).isSome=true:=λh=>(HC _).mpr (.inl h);refine{j,rfl,λx p=>up<|h1 x p,λx p=>?_,λt I c' s L M Y y O=>?_,by lia,x2 _ _ rfl}
      · rcases(HC x).mp p with h | h
        · let h||[I,c',s,L,M,Y]:=h3 x h
          ·exact .inl h
          ·exact .inr<|x2 I c' {s,L,up M,Y}
        ·exact .inr<|x2 k c {ec,ho,up hin,h}
      · rcases later t I s L with rfl | ⟨A0,z⟩
        · rw[ec]at M;cases M
          exact(HC y).mpr (.inr O)
        · rcases(HC _).mp Y with h | h
          ·exact up<|h2 t I c' s z M h y O
          · have:=(nd1 _ h).2
            lia
  let[d,rfl,h1,h3,h2,hkl',z,z',rfl]:=g;rw[hW]at h2
  have s3:=keep d;erw[w90_,w91_,w92_,w93_,w94_,w95_,w96_,w97_,w98_];refine y2 {s3 _ _ hb,C8 (by decide +kernel),x6 A w rows n cs outs {rfl,T,Bk d,λl2 H4 hl4 s4 el4=>?_}};refine .inl {{_,SqL.of el4},?_};refine XZ (λv=>match v with
    |.int x=>(BE d<|.inl x).isSome
    |_=>false) (BQ _ (by lia)) (SqL.of el4) (λx p QB qb=>?_) λr hr=>?_
  let[k,hk,rfl]:=ay.mp p;exact{_,dI<|s4 _ _ AE,qb};refine q hkn r _ (λx=>(BE d<|.inl x).isSome) h1 (λk c s L M y O=>?_) h3 ((s3.trans s4).free hr) ((s3.trans s4).trans (AL hr)) ?_
  have hkm:k∈FS cs.length outs:=c_.mpr {ao.mpr (ζ.mp s).1,by rw[L];rfl};let[t,et]:=QQ hkm;exact h2 t k c et (by lia) s M y O;rw[AE];unfold AQ;rw[zf]
  rfl
def zwe{Q:Addr->Hp->Prop}{E:XK}(T:TB K a)(TP:DM K a)(P:PlankAt a d l i w rows n)
  (q:∀ (A:BA) (g:Hp),A.gp=l->A.cl=i->(∀ x o,d x=some o->x=i\/¬ A.F x)->D6 a g A w rows n [] (λ_=>false)->Same d g->Q A.b g) :
  ∀ x j,d x=none->d j=none->j≠x->UR K a [.ref x,.ref l] (upd (upd d j<|.own x) x (.ins (HR a) j [])) (λv g=>v=.non/\Q x g) E:=λb p I r s=>by
 have u:Same d (upd (upd d p<|.own b) b (.ins (HR a) p [])):=(AL r).trans (AL (by rw[AI s.symm];exact I));refine x7 b l i p w _ n {rfl,T,TP,P.same u,AE,λm Y lt ou ls J L M N O B U D=>{rfl,(q _ J rfl rfl (λx o e=>?_) U λy o e=>D _ _ (u _ _ e) (BJ e I))}};by_cases z:x=i;exact .inl z;refine .inr ?_
 have c:=u _ _ e;rintro (y|y|y|y|y|y);rw[y,L]at c;cases c;rw[y,M]at c;cases c;rw[B x y]at c;cases c;rw[y,N]at c;cases c;rw[y,O]at c;cases c;exact z y
example:(zwf,N2,Aw,3):=by
 apply u9;intro A w rows n cs outs u i j [rfl,T,TP,B,b,q,D];let[U,c]:=B.bk.ob;let[Y,I]:=B.pk.ob;refine y2 {c,C8,x9 A w _ n cs _ u i j {rfl,T,TP,B,b,λh=>?_,D}}
 have q:=q h;unfold ET at q;cases e:D5 cs i j with
 |none =>
  rw[e]at q;refine y3 {c,T.cl,T.nG,_,QM,y2 {I,OE _ _ _,BT b  rfl rfl (x6 _ _ w _ n i {rfl,TP,B.pk,λg row J l vl d=>?_,λz=>absurd h λy=>by lia})}};subst J
  have p:=AL (o:=.lst row) d;refine BT (p _ _ b)  rfl rfl ?_
  have rl:=B.pk.wd _<|η l
  have L:j.toNat<row.length:=by omega
  have r:=θ L;refine CH (SqL.of AE)   (by omega) r (q _ _ ?_ p);rw[show((g:Int)).toNat=g from rfl,l];exact r
 |some k =>
  rw[e]at q;let[M,N,pc]:=B.bk.made
  have s:=θ<|QL e;let[x,ex,O,p1,n1,h1,h2,h3]:=JB pc s;refine y3 {c,T.cl,T.nM,_,JI,CH (SqL.of N)  (v:=.ref x) rfl (by rw[υ,ex];rfl) (y3 {h1,T.cc,T.nV,_,sW,q _ _ ?_<|Same.refl _})}
  show(cs[k]?).map _=_;rw[s]
  rfl
example:(zwg,ZJ,uP,4):=by
 apply WL;intro A w rows n cs outs k c g d [rfl,T,B,I,J,q];let[dx,u]:=B.bk.ob;refine u2 ?_<|B.bk.at I;intro xs cx [L,ex,M];revert M;apply u3;intro dc pl nt [s,N,l];let[DY,O,U,v]:=B.bk.out;refine y3 {u,T.cl,T.nM,_,JI,CH (SqL.of L) rfl ex (y3 {s,T.cc,T.nN,_,sX,.inr {{_,SqT.of l},(XQ  (λi p r=>r=H/\(∀ x∈c.nd.take i,(outs x||B8 d x)=true)/\∃ z,p=[some _,some _,some _,z]) {rfl,by simp,_,rfl} (by intro i p r v [e,v];exact e ▸ SqT.of l) (λi x p r b j=>?_) (λp r j=>?_))}})};let[rfl,o,z,rfl]:=j;rw[υ,af]at b;let[y,D,rfl]:=b
 have step:(outs y||B8 _ y)=true->∀ x∈c.nd.take _,(outs x||B8 _ x)=true:=λh x b=>by
  rw[cw,D]at b;let b||b:=bc.mp b
  exact o x b
  have:x=y:=by simpa using b
  exact this ▸ h
 refine y3 {u,T.cl,T.nO,_,QN,_,dI O,?_};rw[U];cases h1:outs y with
 |true =>
  erw[];exact step (by rw[h1];rfl)
 | false =>
  refine{_,dI J,?_};cases h2:(BE d _).isSome with
  |true =>
   erw[];exact step (by show(outs y||(BE d _).isSome)=true;rw[h2];simp)
  |false =>
   have e:MR c.nd (λx=>outs x||B8 d x)=some y:=by
    let[Y,e]:=ζ.mp D;unfold MR;rw[mv];refine{by show(!(outs y||(BE d _).isSome))=true;rw[h1,h2];rfl,x2 _ (c.nd.drop<|i+1) {?_,λx b=>by show(!!(outs x||B8 _ x))=true;rw[o x b];rfl}};rw[<-e,<-ki Y,kh]
   rw[e]at q;exact q
 let[e,o,z,ez]:=j;subst e;rw[ε,ca]at o
 have e:MR _ (λx=>outs x||B8 _ x)=none:=kg.mpr λx b=>by show ¬ (!(outs x||B8 _ x))=true;rw[o x b];exact ax
 rw[e]at q;exact q
def zwh(s:Pass)(m:Nat)(e c:Hp)(g ol d:Addr):Prop:=∃ (b:vC) (hs:wD),SameBut (λy=>y=g\/y=ol\/y=d) e c/\c g=some (.dK b)/\(∀ x:Int,B8 b x=s.gone x)/\b.length<=m/\c ol=some (.lst<|s.out.map λ(k:Nat)=>V.int k) /\
 c d=some (.lst<|hs.map V.ref)/\Paired (λx (p:Nat × Int)=>c x=some (.tup [.int p.1,.int p.2])) hs s.held
def Jk(kvs:vC)(k x:Int)(v:V):B8 (CD kvs (.inl k) v) x=(B8 kvs x||x==k):=by
 unfold B8;rw[HJ];by_cases e:x=k;subst e;simp;simp[e]
example:(zwi,UU,bH,8):=by
 apply u9;intro A w rows n cs outs b tk r [rfl,T,B,hbl,htk,hkt,q];let[dx,hb]:=B.bk.ob;erw[bH,bH0_,bH1_,bH2_];refine{_,htk,λg hg=>{by decide,λol M=>{by decide,λD N=>?_}}}
 have J:=BJ AE M
 have s1:Same H (upd _ D<|.lst []):=((AL hg).trans (AL M)).trans (AL N)
 have O:=BJ AE N
 have ngl:=BJ (by rw[AI J];exact AE) N
 have eg:upd (upd (upd H g<|.dK r) ol (.lst [])) D (.lst []) g=some (.dK r):=by rw[AI ngl,AI J,AE]
 have eo:upd (upd (upd H g<|.dK r) ol (.lst [])) D (.lst []) ol=some (.lst []):=by rw[AI O,AE]
 have el:upd (upd (upd H g<|.dK r) ol (.lst [])) D _ D=some (.lst []):=AE
 have holH:=(AL hg).free M
 have hhlH:=((AL hg).trans (AL M)).free N;revert s1 eg eo el;generalize upd _ D _=H1;intro s1 eg eo el
 have hil:b<A.ls.length:=by rw[B.nb];exact hbl
 have U:=θ hil
 have Y:=B.bk.mic b _ U;revert U Y;generalize A.ls[b]=l
 have bln:=Y2 cs b;refine λU Y=>y3 {s1 _ _ hb,T.cl,T.nI,_,Y4,CH (SqL.of<|s1 _ _ B.bk.mil)  (v:=.ref l) rfl (by rw[υ,U];rfl) (.inl {{_,SqL.of<|s1 _ _ Y},?_})}
 have sz:=B.bk.sz
 have G:∀ {H':Hp},SameBut (λy=>y=g\/y=ol\/y=D) H1 H'->Same H H':=λsb y o e=>sb _ _ (s1 _ _ e) (by
  rintro (z|z|z);rw[z,hg]at e;cases e;rw[z,holH]at e;cases e;rw[z,hhlH]at e;cases e)
 refine GZ  (λi σ H'=>zwh (((DF cs b).take i).foldl (DG cs outs) {[],[],B8 _}) (1000+i) H1 H' g ol D/\∃ z1 z2,σ=[some _,some _,some _,some _,some _,some _,z1,z2])
  {x2 _ [] {SameBut.refl _,eg,λu=>rfl,hkt,eo,el,.nil},_,_,rfl} (by intro i σ H' u [[d,hs,sb,u],u];exact SqL.of<|G sb _ _ Y) (λi x σ H' hx hzz=>?_) (λσ H' hzz=>?_)
 have hi:=(ζ.mp hx).1;let[iv,z1,z2,rfl]:=hzz;rw[ε]at hi;rw[υ,af]at hx;let[k,hk,rfl]:=hx
 have hkc:=UF<|η hk
 have ec:=θ hkc;revert ec;generalize cs[k]=c
 have L:=Y6 (cs:=cs) (outs:=outs) ((DF cs b).take i) {[],[],B8 r}
 have j:=tE (DG cs outs) {[],[],B8 r} hk;intro ec;revert iv L j;generalize ((DF cs b).take i).foldl (DG cs _) _=s;generalize ((DF cs b).take _).foldl (DG cs _) _=s';intro iv L j;revert iv;apply u2;intro d hs [sb,e1,e2,e3,e4,e5,e6];simp only[nu,df]at L
 have sH:=G sb;let[DY,ho,hv,u]:=B.bk.out;erw[bH3_,bH4_,bH5_,bH6_,bH7_,bH8_];refine y3 {sH _ _ hb,T.cl,T.nO,_,QN,_,dI<|sH _ _ ho,?_};rw[hv];unfold DG at j;cases h1:outs k with
 |true =>
  rw[h1,pz,if_pos rfl]at j;rw[j];exact x2 _ hs {sb,e1,e2,ck e3,e4,e5,e6}
 | false =>
  rw[h1,ye]at j
  have e2k:(BE d _).isSome=s.gone k:=e2 k;refine{_,dI e1,?_};rw[e2k];cases h2:s.gone k with
  |true =>
   rw[h2]at j;rw[j];exact x2 d hs {sb,e1,e2,ck e3,e4,e5,e6}
  | false =>
   rw[h2,if_neg ax,ec]at j;refine y2 {sH _ _ hb,C8,WK A w _ n cs _ k c g _ {rfl,T,(B.same sH),ec,e1,?_}}
   have efn:(λx=>outs x||B8 d x)=λx=>outs x||s.gone x:=by funext x;rw[e2]
   rw[efn];simp only[H_]at j;cases h3:MR _ (λx=>outs x||s.gone x)with
   |none =>
    rw[h3]at j;dsimp only [ZI];refine{_,pI e1 (by lia),.inl {rfl,_,SqL.of (by rw[AI J.symm];exact e4)},{_,by rw[AI J.symm];exact e4,ω (show(s.out.map λ(k:Nat)=>V.int k).length<1000 by rw[ε];lia) (by decide),?_}};rw[j];refine x2 _ hs {?_,by rw[AI J,AE],λx=>by rw[Jk,e2],?_,by rw[AE,av];rfl,by rw[AI O.symm,AI ngl.symm];exact e5,Paired.mapP e6 λx p e=>?_};intro y o e ny;rw[AI λz=>ny<|.inr<|.inl z,AI λz=>ny<|.inl z];exact sb _ _ e ny
    have:=HK d (.inl (k:Int)) (.bl true)
    lia
    rw[AI (BI e e4 (by intro z;cases z)),AI (BI e e1 (by intro z;cases z))];exact e
   |some l' =>
    rw[h3]at j;dsimp only at j;dsimp only [ZI];rw[if_neg (by intro z;cases z)];refine{.inl {rfl,_,SqL.of e5},by decide,λtp I=>?_}
    have ntl:D≠tp:=BJ e5 I;refine{_,by rw[AI ntl];exact e5,ω (show(hs.map V.ref).length<1000 by rw[ε,e6.length];lia) (by decide),?_};rw[j]
    have s2:=AL (o:=.tup [.int (k:Int),.int l']) I
    have kp:∀ y,y≠D->y≠tp->upd (upd H' tp<|.tup [.int (k:Int),.int l']) D (.lst<|hs.map V.ref++[.ref tp]) y=H' y:=λy n1 n2=>by rw[AI n1,AI n2]
    refine x2 d (hs++[tp]) {?_,by rw[kp g ngl (BJ e1 I)];exact e1,e2,ck e3,by rw[kp ol O (BJ e4 I)];exact e4,by rw[AE,av];rfl,Paired.snoc (Paired.mapP e6 λx p e=>?_) ?_}
    ·intro y o e ny
     have e':=sb _ _ e ny;rw[kp y (λz=>ny<|.inr<|.inr z) (BJ e' I)];exact e'
    ·rw[kp x (BI e e5 (by intro z;cases z)) (BJ e I)];exact e
    ·rw[AI ntl.symm,AE]
 let[iv,z1,z2,rfl]:=hzz;rw[ε,ca]at iv;erw[bH0_,bH1_,bH2_,bH3_,bH4_,bH5_,bH6_,bH7_,bH8_,bH9_,bH10_];revert iv;apply u2;intro d hs [sb,e1,e2,e3,e4,e5,e6];refine{by decide,λt ht=>?_}
 have s2:=AL (o:=.tup [.ref ol,.ref D]) ht;exact q t ol D _ holH hhlH O ((G sb).trans s2) {AE,s2 _ _ e4,hs,s2 _ _ e5,Paired.mapP e6 λx p e=>s2 _ _ e}
example:(zwj,ZK,uS,5):=by
 apply u9;intro A w rows n cs outs b vl row [rfl,T,B,N,O,KU,q];let[dx,I]:=B.bk.ob;let[DY,ho,hv,z]:=B.bk.out;refine{_,.inl<|SqL.of O,λJ j=>?_}
 have U:=AL (o:=.lst row) j
 have Y:b<A.ls.length:=by rw[B.nb];exact N
 have d:=θ Y
 have g:=B.bk.mic b _ d;revert d g;generalize A.ls[b]=l
 have sk:∀ o,Same H (upd H J o):=λo=>AL j;refine λd g=>y3 {U _ _ I,T.cl,T.nI,_,Y4,CH (SqL.of<|U _ _ B.bk.mil)  (v:=.ref l) rfl (by rw[υ,d];rfl) (.inl {{_,SqL.of<|U _ _ g},?_})};refine GZ  (λi L M=>M=upd H J (.lst<|((DF cs b).take i).foldl (HQ cs outs) row)/\∃ z1,L=[some _,some _,some _,some _,z1])
  ⟨rfl,_,rfl⟩ (by intro i L M z [e,z];rw[e];exact SqL.of<|sk _ _ _ g) (λi x L M hx p=>?_) (λL M p=>?_)
 let[rfl,z1,rfl]:=p;rw[υ,af]at hx;let[k,hk,rfl]:=hx
 have hkc:=UF<|η hk
 have u:=θ hkc;revert u;generalize cs[k]=c
 have s:=tE (HQ cs outs) row hk
 have CL:=Y5 (cs:=cs) (outs:=outs) ((DF cs b).take i) row;intro u;revert s CL;generalize ((DF cs b).take i).foldl _ row=r;generalize ((DF cs b).take _).foldl _ _=r'
 have y:=sk<|.lst r;intro s CL;erw[uS1_,uS2_];refine y3 {y _ _ I,T.cl,T.nO,_,QN,_,dI<|y _ _ ho,?_};rw[hv];unfold HQ at s;cases h1:outs k with
 |false =>
  rw[h1,if_neg ax]at s;erw[];rw[s]
 |true =>
  rw[h1,if_pos rfl,u]at s;refine u2 ?_<|(B.same y).bk.at u;intro xs cx [hm,ex,dc,pl,nt,D,hc2,hc3]
  have hcell:=(B.bk.inn c<|η u).2;refine y3 {y _ _ I,T.cl,T.nM,_,JI,CH (SqL.of hm) rfl ex (y3 {D,T.cc,T.nV,_,sW,(y3 {y _ _ I,T.cl,T.nM,_,JI,CH (SqL.of hm) rfl ex (y3 {D,T.cc,T.nP,_,sV,BT hc2  rfl rfl (x4 J r _ _ {rfl,rfl,AE,?_,(by rw[GE,s])})})})})};unfold HG;rw[if_pos (i0),if_pos (by lia),cj]
 let[rfl,z1,rfl]:=p;rw[ε,ca];exact q J _ j (sk _) AE
example:(zwk,ZL,zT,5):=by
 apply u7;intro A w rows n cs outs b [rfl,T,TP,B,q,qe];let[dp,hg]:=B.pk.ob;let[dx,hb]:=B.bk.ob;refine y3 {hb,T.cl,T.nG,_,QM,y2 {hg,OE _ _ _,x6 _ _ w _ n b {rfl,TP,B.pk,λI row eb er vl hvl=>?_,qe}}};subst eb;let[H1,zz0,s1,ev]:=D3  hvl
 have hbl:=(ζ.mp er).1;rw[zz0];refine y2 {s1 _ _ hb,C8,λe0 he0=>?_}
 have s2:=s1.trans<|AL (o:=.dK []) he0;refine x9 A w _ n cs _ I e0 [] {rfl,T,B.same s2,hbl,AE,by simp,λt ol hl N hol hhl nol s3 told=>?_}
 have GB:=s2.trans s3
 have ev3:=s3 _ _<|AL he0 _ _ ev
 have U:=s2.free hol
 have O:(B8<|[])=λv=>false:=rfl
 have Y:=s2.free hhl;rw[O]at told;let[ht,J,hs,hh3,hpr]:=told;let[L,fresh,v]:=UJ (cs:=cs) (outs:=outs) (b:=I)
 have eW:DS cs _ I=λx=>outs x||(outcome cs _ (λv=>false) I).out.any _:=rfl
 replace q:=λH' a1 a2 a3=>q I _ t ol hl H' rfl er U Y nol a1 a2 a3;revert J hpr L fresh eW q;generalize outcome cs _ (λv=>false) I=oc;generalize DS cs _ I=ow;refine λJ hpr L fresh eW q=>BT ht  rfl rfl (.inl {{_,SqL.of J},?_});let[DY,EE,hvo,hko]:=B.bk.out
 have s:=GB _ _ EE
 have fO:=B.off U
 have nou:=λz=>fO<|.inr<|.inr<|.inr<|.inr<|.inl z;refine GZ  (λi σ H'=>(∃ u,H'=upd N A.ou (.dK u)/\(∀ x:Int,(BE u<|.inl x).isSome=(outs x||(oc.out.take i).any λk=>x==k))/\KeysOk u _)/\∃ z1,σ=[some _,some _,some _,some _,z1])
  {{_,?_,λx=>by rw[hvo];simp,hko},_,rfl} (by intro i σ H' v [[u,e,v],v];rw[e];exact SqL.of (by rw[AI nou];exact J)) (λi x σ H' hx hzz=>?_) (λσ H' hzz=>?_)
 funext y;by_cases e:y=A.ou;subst e;rw[AE];exact s;rw[AI e];let[[u,rfl,hv,hk],z1,rfl]:=hzz;rw[υ,af]at hx;let[k,ek,rfl]:=hx
 have hkm:=η ek
 have hnone:BE u (.inl k)=none:=by
  have:=hv k;rw[(fresh k hkm).1]at this
  have z:(oc.out.take i).any (λj=>k ==(j:Int))=false:=by
   rw[xj];intro j hj;let[m,hm,e]:=jr hj;rw[df]at hm;rw[Fe]at e;let[hi,e2]:=ζ.mp ek
   have:=rj.mp L m i (by lia) hi (by lia);rw[e,e2]at this;simp;exact λz=>gr this<|ce z
  rw[z]at this;exact Option.isSome_eq_false_iff.mp this |> xg.mp
 have hb3:upd N A.ou (.dK u) A.b=some (.ins (HR a) dx (bf A.gp A.m A.mi A.lt A.ou)):=by
  rw[AI (BI (GB _ _ hb) s (by intro z;cases z))];exact GB _ _ hb
 erw[zT2_];refine y3 {hb3,T.cl,T.nO,_,QN,_,pI AE (by have:=B.bk.sz;have:=hk.len;lia),_,GE,λx=>?_,hk.put (UF (fresh k hkm).2) hnone _}
 have:=Jk u k x<|.bl true;unfold B8 at this;rw[this,hv,cw,ek,lx];simp;let[[u,rfl,hv,hk],z1,rfl]:=hzz;rw[ε,ca]at hv;replace hv:∀ x:Int,(BE u _).isSome=ow x:=λx=>by rw[hv,eW]
 have kb:∀ {y:Addr} {o:HO},H y=some o->y≠A.ou->upd N _ (.dK u) y=some o:=λe n=>by rw[AI n];exact GB _ _ e
 have M:SameBut _ H _:=λy o e n=>kb e n
 have B4:D6 a (upd N A.ou<|.dK u) A w rows n cs ow:=by
  have g:∀ x,x=A.ou->ER (H x):=λx e=>e ▸ (QS EE);let[[[dx',b1],[chs,b2,b2'],b3,b4,b5,[kvs,b6,b6'],v,b8,b9,b10,b11,b12],pk,nb]:=B;let[ts,pl1,pl2]:=pk.ls;refine{{{dx',kb b1 (BI b1 EE (by intro z;cases z))},{chs,kb b2 (BI b2 EE (by intro z;cases z)),Paired.mapP b2' λx c h=>h.sb M g},kb b3 (BI b3 EE (by intro z;cases z)),λi l e=>kb (b4 i l e) (BI (b4 i l e) EE (by intro z;cases z)),b5,{kvs,kb b6 (BI b6 EE (by intro z;cases z)),b6'},⟨u,AE,hv,hk⟩,b8,b9,b10,b11,b12},pk.sbL M g (BI pl1 EE (by intro z;cases z)),nb}
 have ev4:upd N A.ou (.dK u) vl=some (.lst row):=by rw[AI (BI ev3 s (by intro z;cases z))];exact ev3
 have ht4:upd N A.ou (.dK u) t=some (.tup [.ref ol,.ref hl]):=by rw[AI (BI ht s (by intro z;cases z))];exact ht
 have ho4:upd N A.ou (.dK u) ol=some (.lst<|oc.out.map λ(k:Nat)=>V.int k):=by rw[AI nou];exact J
 have hh4:upd N A.ou (.dK u) hl=some (.lst<|hs.map V.ref):=by rw[AI (BI hh3 s (by intro z;cases z))];exact hh3
 have hp4:Paired (λx (p:Nat × Int)=>upd N A.ou (.dK u) x=some (.tup [.int p.1,.int p.2])) hs oc.held:=Paired.mapP hpr λx p e=>by rw[AI (BI e s (by intro z;cases z))];exact e
 revert M B4 ev4 ht4 ho4 hh4 hp4;intro M B4 ev4 ht4 ho4 hh4 hp4;let[dx4,hb4]:=B4.bk.ob;let[dp4,hg4]:=B4.pk.ob;refine y3 {hb4,T.cl,T.nG,_,QM,y2 {hg4,Jj _ _ _,y2 {hb4,C8,x9 A w rows n cs ow I vl row {rfl,T,B4,hbl,ev4,B.pk.wd row<|η er,λll H5 hll5 s5 ell5=>?_}}}}
 have B5:=B4.same s5;refine x8 A.gp A.cl w rows n I ll (EZ cs ow I row) {rfl,TP,B5.pk,SqL.of ell5,by rw[tD,B.pk.wd row<|η er];have:=B.pk.sw;exact oA this rfl,λi ei hi hxw H6 P6 sb6=>?_,λz=>?_}
 have ei:=ce ei;subst ei;let[ts5,D,pt5]:=B5.pk.ls;let[dp5,hg5]:=B5.pk.ob
 have ap:=B5.bk.ap
 have gp_b:A.b≠A.gp:=by
  let[d5,hb5]:=B5.bk.ob;exact BI hb5 hg5 (NY (by simp[bf,pf]))
 have k6:∀ {y:Addr} {o:HO},H5 y=some o->y≠A.gp->y≠A.cl->H6 y=some o:=λe n1 n2=>sb6 _ _ e (by rintro (z|z);exact n1 z;exact n2 z)
 have r:∀ {y:Addr} {o:HO},H5 y=some o->(∀ C d f,o≠.ins C d f)->y≠A.gp:=λe n=>BI e hg5<|n _ _ _
 have B6:D6 a H6 A w (rows.set I<|EZ cs ow I row) (n+1) cs ow:=by
  let[[b1,b2,b3,b4,b5,b6,b7,b8,b9,b10,b11,b12],pk,nb]:=B5;let[dx',b1]:=b1;let[chs,b2,b2']:=b2;let[kvs,b6,b6']:=b6;let[kvo',b7,b7']:=b7;refine{{{dx',k6 b1 gp_b (BI b1 D (by intro z;cases z))},{chs,k6 b2 (r b2 (by intro v v v z;cases z)) ap.2.2.2.1.symm,Paired.mapP b2' λx c h=>?_},k6 b3 (r b3 (by intro v v v z;cases z)) ap.2.2.2.2.1.symm,λi l e=>k6 (b4 i l e) (r (b4 i l e) (by intro v v v z;cases z)) (λz=>ap.2.2.2.2.2<|z ▸ η e),b5,{kvs,k6 b6 (r b6 (by intro v v v z;cases z)) (BI b6 D (by intro z;cases z)),b6'},{kvo',k6 b7 (r b7 (by intro v v v z;cases z)) (BI b7 D (by intro z;cases z)),b7'},b8,b9,b10,b11,b12},P6,by rw[nb,kj]};revert h;apply u3;intro dc p1 n1 [h1,h2,h3];exact x3 dc p1 n1 {k6 h1 (BI h1 hg5 (NY (by simp[F5,pf]))) (BI h1 D (by intro z;cases z)),k6 h2 (r h2 (by intro v v v z;cases z)) (BI h2 D (by intro z;cases z)),k6 h3 (r h3 (by intro v v v z;cases z)) (BI h3 D (by intro z;cases z))}
 have ht5:=s5 _ _ ht4
 have ho5:=s5 _ _ ho4
 have hh5:=s5 _ _ hh4;refine q H6 {k6 ht5 (r ht5 (by intro v v v z;cases z)) (BI ht5 D (by intro z;cases z)),k6 ho5 (r ho5 (by intro v v v z;cases z)) (λz=>fO<|.inr<|.inr<|.inr<|.inr<|.inr z),hs,k6 hh5 (r hh5 (by intro v v v z;cases z)) (λz=>(B.off Y) (.inr<|.inr<|.inr<|.inr<|.inr z)),Paired.mapP hp4 λx p e=>?_} B6 λy o e ny=>(k6 (s5 _ _<|M _ _ e λz=>ny<|.inl<|.inr<|.inr<|.inr<|.inr<|.inl z) (λz=>ny<|.inr z) (λz=>ny<|.inl<|.inr<|.inr<|.inr<|.inr<|.inr z))
 have e5:=s5 _ _ e;exact k6 e5 (r e5 (by intro v v v z;cases z)) (BI e5 D (by intro z;cases z));let z||z||z:=z
 lia
 exact absurd (dn.mpr hbl) (wo.mpr z);exact absurd (by rw[tD,B.pk.wd row<|η er]) z
example:(zwl,ZM,uH,2):=by
 apply u8;intro A w rows n cs outs k c [rfl,T,B,b,q];let[o,d]:=B.bk.ob;refine u2 ?_<|B.bk.at b;intro xs p [e,g,i,r,s,j,l,c3];exact y3 {d,T.cl,T.nM,_,JI,CH (SqL.of e) rfl g (y3 {j,T.cc,T.nP,_,sV,BT l  rfl rfl q})}
structure Jl(cs:zE)(outs R:vD)(H0:Hp)(rw tk lf:Addr)(sofar lefts:xE)(kvt:vC)(H:Hp):Prop where
 sb:Same H0 H
 er:H rw=some (.lst<|AQ sofar)
 et:H tk=some (.dK kvt)
 el:H lf=some (.lst<|AQ lefts)
 nrt:H0 rw=none/\H0 tk=none/\rw≠lf
 lft:lefts=F8 cs.length (λx=>outs x||B8 kvt x) R
 row:∀ rest,KH cs (λx=>outs x||B8 kvt x) lefts rest->KH cs outs (F8 cs.length outs R) (sofar++rest)
 ks:KeysOk kvt cs.length
 sl:sofar.length+lefts.length<=cs.length
def zwm(kvs:vC)(k x:Int)(v:V):B8 (CD kvs (.inl k) v) x=(B8 kvs x||x==k):=by
 unfold B8;rw[HJ];by_cases e:(vb x:AM)=.inl k
 ·cases e;simp
 have:¬ x=k:=λy=>e (by rw[y]);simp[this]
example:(zwn,ZN,zQ,7):=by
 apply u8;intro A w rows n cs outs nl ns [rfl,T,B,hs,hl,q,qe];refine{by decide,λrw J tk L=>?_}
 have M:=BJ AE L
 have htkH:H tk=none:=by rw[AI M.symm]at L;exact L
 have s1:=(AL  J).trans (AL (o:=.dK []) L)
 have N:upd (upd H rw (.lst [])) tk (.dK []) rw=some (.lst []):=by rw[AI M,AE]
 have et1:upd (upd H rw (.lst [])) tk _ tk=some (.dK []):=AE;revert s1 N et1;intro s1 N et1
 have B1:=B.same s1;let[dx1,hb1]:=B1.bk.ob;refine y2 {hb1,C8 (by decide),x8 A w _ n cs _ nl ns {rfl,T,B1,s1.seq hs,hl,λkn lf H2 R r1 r2 r3 hlf s2 elf=>?_,λbad=>qe bad _ s1}}
 have cR:UG cs _ ns R:=⟨r1,r2,r3⟩
 have csz:=B.bk.sz
 have llen:(F8 cs.length outs R).length<=cs.length:=by
  have h2:=cz (λ(k:Nat)=> !outs k) (ρ cs.length);rw[cr]at h2;exact ψ (cz (λ(k:Nat)=>R k) _) h2
 refine{λm σ O=>∃ (lf:Addr) (d l:List _) (g:List _),Jl cs outs R H rw tk lf d l g O/\l.length=m/\∃ y5 D,σ=[some _,some _,some _,some _,some<|.ref lf,y5,D],x5 _ lf [] _ [] {{(s1.trans s2),s2 _ _ N,s2 _ _ et1,elf,{J,htkH,(λe=>by rw[<-e,N]at hlf;cases hlf)},(by simp[XA,FS]),λrest h=>?_,{jz,by simp},by show 0+_<=_;rw[lg];exact llen},rfl,x2 _ _ rfl},?_};simpa [B8,XA,FS]using h;intro m σ H3 [lf,d,l,g,I,hm,y5,D,rfl];erw[];refine{_,.inl {_,SqL.of I.el,rfl},?_};cases l with
 |nil =>
  have:=I.row [] .nil;rw[ja]at this;exact q kn rw _ R H3 cR this (I.sl) J I.sb I.er
 | cons k r =>
  have hk:=UO.mp (show k∈F8 cs.length (λx=>outs x||B8 g x) R by rw[<-I.lft];exact χ ..)
  have ec:=θ hk.1;revert ec;generalize cs[k]=c;intro ec
  have B3:=B.same I.sb;let[dx3,hb3]:=B3.bk.ob;refine{λσ' O=>∃ (U:Addr) (j:xE) (p:vC),Jl cs outs R H rw tk U (d++[c.blk]) j p O/\j.length<m/\∃ y5 D,σ'=[some (.ref A.b),some<|.ref nl,some<|.ref rw,some<|.ref tk,some<|.ref U,y5,D],λσ' O ⟨U,j,p,I',A0,y5,D,e⟩=>{_,A0,x3 U _ j {⟨p,I'⟩,rfl,x2 y5 D e}},?_};let[g1,g2,g3]:=I.nrt;refine y2 {hb3,C8 (by decide +kernel),CH (SqL.of I.el) (n:=0) (v:=.int k) rfl rfl (x8 A w rows n cs outs k c {rfl,T,B3,ec,?_})};erw[zQ4_]
  have sl:=I.sl;rw[b_]at sl;refine{.inl {rfl,_,SqL.of I.er},_,I.er,ω (show(AQ d).length<1000 by unfold AQ;rw[ε];lia) (by decide),?_}
  have s4:Same H (upd H3 rw (.lst<|AQ d++[.int c.blk])):=λy o e=>by rw[AI (BJ e J)];exact I.sb _ _ e
  have mO:upd H3 rw (.lst<|AQ d++[.int c.blk]) rw=some (.lst<|AQ<|d++[c.blk]):=by rw[AE];simp[AQ]
  have s:upd H3 rw (.lst<|AQ d++[.int c.blk]) tk=some (.dK g):=by rw[AI M.symm];exact I.et
  have el4:upd H3 rw (.lst<|AQ d++[.int c.blk]) lf=some (.lst<|AQ (k::r)):=by rw[AI g3.symm];exact I.el
  revert s4 mO s el4;intro s4 mO s el4
  have B4:=B.same s4;let[dx4,hb4]:=B4.bk.ob;refine y2 {hb4,C8 (by decide +kernel),x9 A w rows n cs outs c.blk tk g {rfl,T,B4,(by rw[<-B.nb];exact(B.bk.inn c<|η ec).1),s,oA (ψ I.ks.len csz) rfl,λt ol hl5 H5 hol hhl nol s5 told=>BT told.1 (n:=0) rfl rfl (.inl {{_,SqL.of told.2.1},?_})}}
  have eo:=told.2.1;rw[zkh]at eo
  have oW:∀ x:Int,DS cs (λx=>outs x||B8 g x) c.blk x=((outs x||B8 g x)||(outcome cs (λx=>outs x||B8 g x) (λ_=>false) c.blk).out.any λ(k:Nat)=>x ==(k:Int)):=λx=>rfl;let[o1,o2,_]:=UJ (cs:=cs) (outs:=λx=>outs x||B8 g x) (b:=c.blk);generalize (outcome cs (λx=>outs x||B8 g x) (λ_=>false) c.blk).out=out at eo o1 o2 oW
  have et5:=s5 _ _ s
  have er5:=s5 _ _ mO
  have el5:=s5 _ _ el4
  have s45:=s4.trans s5
  have ntk:ol≠tk:=λe=>by rw[e,s]at hol;cases hol
  refine GZ (xs:=out.map λ(k:Nat)=>V.int k) (λq σ O=>(∃ i:vC,O=upd H5 tk (.dK i)/\(∀ x,B8 i x=(B8 g x||(out.take q).any λ(k:Nat)=>x ==(k:Int)))/\KeysOk i cs.length)/\∃ D,σ=[some (.ref A.b),some<|.ref nl,some<|.ref rw,some<|.ref tk,some<|.ref lf,some<|.int c.blk,D]) {{g,?_,by simp,I.ks},_,rfl} (λq σ O _ {⟨i,e,_⟩,_}=>by rw[e];exact SqL.of (by rw[AI ntk];exact eo)) (λq x σ O hx hzz=>?_) (λσ O hzz=>?_)
  ·funext y;by_cases e:y=tk
   ·subst e;rw[AE];exact et5
   ·rw[AI e]
  ·let[[i,e,u,Y],D,ez]:=hzz;subst e;subst ez;rw[υ,af]at hx;let[x',hx',rfl]:=hx
   have GU:=Y.len
   have et:out.take (q+1)=out.take q++[x']:=by
    let[h1,h2]:=ζ.mp hx';rw[<-h2,lu]
   let[q1,q2]:=o2 x'<|η hx'
   have hxn:x'<cs.length:=UF q2
   have hno:B8 i x'=false:=by
    rw[u,(fj.mp q1).2,ye];cases h:(out.take q).any λ(k:Nat)=>(x':Int) ==(k:Int)with
    |false=>rfl
    |true =>
     exfalso;let[y,hy,e]:=du.mp h
     have e:x'=y:=by have:=eq_of_beq e;exact ce this
     let[h1,h2]:=ζ.mp hx'
     have rise:=o1;rw[<-kh q out,ki h1,h2]at rise
     have:=(Aa.mp rise).2.2 y hy x' (χ ..)
     lia
   erw[zQ5_];refine{_,pI AE<|oC (ψ GU csz) rfl,CD i (.inl x') (.bl true),GE,λx=>?_,Y.put hxn (by simpa [B8]using hno) _};rw[zwm,u,et,Iw];simp[lx]
  ·let[[i,e,u,Y],D,ez]:=hzz;subst e;subst ez;rw[ε,ca]at u
   have s6:Same H (upd H5 tk<|.dK i):=λy o e=>by rw[AI (BJ e htkH)];exact s45 _ _ e
   have er6:upd H5 tk (.dK i) rw=some (.lst<|AQ<|d++[c.blk]):=by rw[AI M];exact er5
   have et6:upd H5 tk (.dK i) tk=some (.dK i):=AE
   have el6:upd H5 tk (.dK i) lf=some (.lst<|AQ (k::r)):=by rw[AI (BI el5 et5 (by intro z;cases z))];exact el5
   revert s6 er6 et6 el6;generalize upd H5 tk (.dK i)=H6;intro s6 er6 et6 el6
   have eJ:(λx=>outs x||B8 i x)=DS cs (λx=>outs x||B8 g x) c.blk:=by funext x;rw[oW,u,lx]
   have hll:(AQ (k::r)).length<=1000:=by unfold AQ;rw[ε,b_];lia
   erw[zQ7_];refine .inl {{_,SqL.of el6},XZ (λv=>match v with|.int x=> !B8 i x|_=>false) (BQ _<|oA hll rfl) (SqL.of el6) (λv hv QB qb=>?_) λl2 DC=>?_}
   ·let[x,_,rfl]:=ay.mp hv;erw[C0];exact{_,dI et6,qb}
   ·have ef:(AQ (k::r)).filter (λv=>match v with|.int x=> !B8 i x|_=>false)=AQ ((k::r).filter λ(x:Nat)=> !B8 i x):=by
     unfold AQ;rw[zf]
     rfl
    rw[ef]
    have e2:(k::r).filter (λ(x:Nat)=> !B8 i x)=(k::r).filter λ(x:Nat)=> !DS cs (λx=>outs x||B8 g x) c.blk x:=uk λx hx=>by
     rw[I.lft]at hx
     have:=(fj.mp (UO.mp hx).2.1).1;rw[<-eJ]
     show(!B8 i x)= !(outs x||B8 i x);rw[this,ye]
    have e3:(k::r).filter (λ(x:Nat)=> !B8 i x)=F8 cs.length (λx=>outs x||B8 i x) R:=by rw[e2,I.lft,zkk,eJ]
    have k1:DS cs (λx=>outs x||B8 g x) c.blk k=true:=zkm (λk c e=>(B.bk.need k c e).1) (λk c e ho=>cR.up k c e (fj.mp ho).1) I.lft.symm ec
    have short:((k::r).filter λ(x:Nat)=> !B8 i x).length<(k::r).length:=by
     rw[e2];exact zkn (χ ..) (by rw[k1];rfl)
    have nl2:rw≠l2:=BJ er6 DC;refine x2 l2 _ {{i,{s6.trans<|AL DC,AL DC _ _ er6,AL DC _ _ et6,AE,⟨g1,g2,nl2⟩,e3,λrest hr=>?_,Y,?_}},by lia,rfl}
    ·rw[dw];refine I.row _<|.cons ec ?_;rw[<-e2,<-eJ];exact hr
    ·rw[ai,je];rw[b_]at short
     lia
example:(zwo,ZA,vI,5):=by
 apply u6;intro p d n r c w [rfl,T,g,i,j,l,s,u,q];refine y3 {g,T.cl,T.n1,by decide,y3 {AE,T.cl,T.n2,KC (by decide),y3 {AE,T.cl,T.n3,KC  (rg (KC  (by decide))),y3 {AE,T.cl,T.n4,(KC  (rg (KC  (rg (KC  (by decide)))))),?_}}}};rw[GE,GE,GE];exact q _ {⟨d,AE⟩,i,j,l,s,u} λb o e v=>by rw[AI v];exact e
example:(zwp,MS,vL,3):=by
 apply u7;intro p n r c w k b [rfl,T,L,q];let[d,e]:=L.ob
 have:=L.h1
 have:=L.hw;refine y3 {e,T.cl,T.n4,_,NZ,({{by lia,by lia},y3 {e,T.cl,T.n4,_,NZ,?_}})};erw[];exact{by lia,by decide,q}
example:(zwq,JK,yI,2):=by
 apply u6;intro p n r c w k [rfl,T,L,q];let[b,e]:=L.ob;exact y2 {e,BZ,x7 p n r c w k 0 ⟨rfl,T,L,q⟩}
example:(zwr,G5,yJ,2):=by
 apply u6;intro p n r c w k [rfl,T,L,q];let[b,e]:=L.ob;exact y2 {e,BZ,y3 {e,T.cl,T.n1,_,UP,x7 p n r c w k _ ⟨rfl,T,L,q⟩}}
example:(zws,LM,yK,2):=by
 apply u6;intro p n r c w k [rfl,T,L,q];let[b,e]:=L.ob;exact y2 {e,BZ,y3 {e,T.cl,T.n1,_,UP,y3 {e,T.cl,T.n2,_,QT,(x7 p n r c w k _ ⟨rfl,T,L,q⟩)}}}
example:(zwt,KI,yL,2):=by
 apply u6;intro p n r c w k [rfl,T,L,q];let[b,e]:=L.ob;exact y2 {e,BZ,y2 {e,BZ,x5 p n r c w {rfl,T,L,x7 p n r c w k _ ⟨rfl,T,L,q⟩}}}
example:(zwu,KJ,yM,2):=by
 apply u6;intro p n r c w k [rfl,T,L,q];let[b,e]:=L.ob;exact y2 {e,BZ,y2 {e,BZ,x5 p n r c w {rfl,T,L,y3 {e,T.cl,T.n2,_,QT,(x7 p n r c w k _ ⟨rfl,T,L,q⟩)}}}}
example:(zwv,QU,vK,1):=by
 apply u5;intro p n r c w [rfl,T,L,q];let[b,e]:=L.ob;exact y3 {e,T.cl,T.n1,_,UP,y3 {e,T.cl,T.n2,_,QT,(y3 ⟨e,T.cl,T.n3,_,Y9,q⟩)}}
example:(zww,N0,yN,1):=by
 apply u5;intro p n r c w [rfl,T,L,q];let[b,e]:=L.ob;exact y2 {e,BZ,x5 p n r c w {rfl,T,L,y3 {e,T.cl,T.n2,_,QT,(y3 ⟨e,T.cl,T.n3,_,Y9,q⟩)}}}
example:(zwx,LN,vJ,1):=by
 apply u5;intro p n r c w [rfl,T,L,q];let[b,e]:=L.ob;let[z,d,g,i,j,l]:=L;refine y3 {e,T.cl,T.n1,_,UP,y3 {e,T.cl,T.n4,_,NZ,({.inl {i0,by lia},y3 {e,T.cl,T.n2,_,QT,y3 {e,T.cl,T.n4,_,NZ,({.inl {i0,by lia},y3 {e,T.cl,T.n3,_,Y9,y3 {e,T.cl,T.n4,_,NZ,?_}}})}}})}};erw[];exact{.inl {i0,by lia},by decide,q}
example:(zwy,ZB,zU,1):=by
 apply u5;intro p n r c w [rfl,T,TP,L,q];let[M,e]:=L.ob
 have s:=L;let[z,N,O,U,u,v]:=L;refine y2 {e,BZ,x5 p n r c w {rfl,T,s,y3 {e,T.cl,T.n4,_,NZ,λx d g y i=>?_}}}
 have j:Same H (upd (upd H _<|.own x) x (.ins (a "Plank") d [])):=(AL y).trans (AL (by rw[AI i.symm];exact g));refine x4 x _ _ w {rfl,TP,AE,by lia,u,oA v rfl,λA B D I J=>{rfl,q x A B g (j.free D) I λb o l=>J _ _ (j _ _ l) (BJ l g)}}
def zwz(b:i<m)(h:f i=true)(c:∀ j<i,f j=false):EU f m=i:=by
 unfold EU
 have:(ρ m).find? f=some i:=by
  let[d,rfl]:=io<|show i+1<=m from b;rw[mv];refine{h,x2 (ρ i) ((ρ d).map (i+1+·)) {?_,λj e=>by rw[c j (ao.mp e)];rfl}};rw[fg,wz,wz];simp[fg,Go]
 rw[this]
def zw0(b:∀ j<m,f j=false):EU f m= -1:=by
 unfold EU
 have:(ρ m).find? f=none:=kg.mpr λj c=>by rw[b j (ao.mp c)];exact ax
 rw[this]
def zw1(b:∀ z∈xs,UV z)(c:GoodV n H v)(hf:JA v=true):NJ v xs=decide (v∈xs):=by
 rw[ku,decide_eq_true_iff];unfold NJ
 have key:∀ z,UV z->(J8 z v=true↔z=v):=λz hz=>by
  let rfl||[i,rfl]:=hz<;>(cases v<;>first|exact{λy=>rfl,λy=>rfl}|(constructor<;>intro e<;>cases e<;>done)|exact{λe=>congrArg V.int<|eq_of_beq e,λe=>by cases e;exact beq_self_eq_true _}|(cases n<;>exact c.elim)|cases hf)
 rw[du];constructor;intro[z,hz,e];rw[<-(key z<|b z hz).mp e];exact hz;exact λh=>{v,h,(key v<|b v h).mpr rfl}
def EA(H c:Hp):Prop:=∀ b xs,H b=some (.tup xs)->c b=some (.tup xs)
def GoodV.keep(k:EA H b):∀ {n:Nat} {v:V},GoodV n H v->GoodV n b v:=by
 intro n
 induction n with
 |zero=>exact id
 |succ n c =>
  intro v;cases v with
  |ref p=>intro[xs,h1,h2,h3];exact{xs,k _ _ h1,h2,λv d=>c<|h3 v d}
  |_=>exact id
def Same.tk{H c:Hp}(s:Same H c):EA H c:=λb xs e=>s _ _ e
def zw2(c:GoodV 4 H v)(g:H d=some (.tup xs))(b:∀ z∈xs,UV z)(q:Q (.bl<|decide<|v∈xs) H):QD K v (.ref d) H Q:=by
 have flat:JA v=true->QD K v _ H Q:=λhf=>.inl ⟨d,xs,rfl,.inr<|SqT.of g,hf,(gu.mpr λz hz=>by let rfl||[i,rfl]:=b z hz<;>rfl),by
  rw[zw1 b c hf];exact q⟩
 cases v with
 |ref t =>
  have:decide ((V.ref t)∈xs)=false:=decide_eq_false λj=>by let z||[i,z]:=b _ j<;>cases z
  let[ys,e,y]:=c;rw[this]at q;exact .inr<|x4 t ys d xs {rfl,SqT.of e,rfl,SqT.of g,b,q}
 |int i=>exact flat rfl
 |non=>exact flat rfl
 |str z=>exact flat rfl
 |_=>exact c.elim
example:(zw3,N3,Bj,5):=by
 apply OW;intro A w rows n cs outs pl vl N xs f m [rfl,T,TP,B,L,M,O,U,Y,hf,q,qe];let[dx,ho]:=B.bk.ob;refine{{_,SqL.of L},X6  (λi l p=>(Same H p/\∀ j<i,f j=false)/\∃ x y,l=[some _,some _,some _,x,y]) {{Same.refl _,λj I=>absurd I<|i_ _},x2 _ _ rfl} (by intro i l p u [[s,u],u];exact SqL.of<|s _ _ L) (λi x l p t b c ht=>?_) (λl p c=>?_)};let[[s,lo],x0,y0,rfl]:=c;rw[υ]at b;cases r:N[i]? with
 |none=>rw[r]at b;cases b
 | some J =>
  rw[r]at b;obtain rfl:=ι b;refine u3 ?_<|hf i J r;intro bi bj v [e1,on,ev,gv,ef]
  have d:=s.trans<|AL (o:=.tup [.int i,.ref J]) ht;refine{_,SqT.of AE,rfl,?_};revert d;refine λd=>y2 {d _ _ ho,C8,x9 A w _ n cs _ J bi bj {rfl,T,TP,B.same d,d _ _ e1,λu v' H3 e s3=>?_,λz=>absurd on z}};rw[ev]at e;obtain rfl:=ι e
  have D:=d.trans s3;refine zw2 (gv.keep D.tk) (D _ _ U) Y ?_;rw[<-ef];erw[];cases g:f i with
  |true=>exact q i (zwz (M ▸ ((ζ.mp r).1)) g lo) _ D
  |false=>exact⟨D,λj I=>by
    let z||z:=ff j i
    exact lo j z;rw[show j=i by exact kq (dv I) z];exact g⟩
 let[[s,lo],x0,y0,ez]:=c;rw[ε,M]at lo;exact{by decide,qe (zw0 lo) _ s}
def cN{m w:Nat}{B:Nat->Int}{r:TE}{u:xE}{v:St}{H:Hp}{Q:VK}(D:m<=1000)(I:∀ i b x,i<m->Same H b->G4 (B i) (i%w:Nat) x b->r (some (.int<|0+(i:Int))::C0 u v) b x)
  (q:∀ (c:wD) (b:Hp) (l:Addr),c.length=m->Same H b->(∀ k t,c[k]? =some t->b t=some (.tup [.int (B k),.int (k%w:Nat)]))->b l=some (.lst<|c.map V.ref)->Q (.ref l) b):EI (FM 0 m) (AG 0) CQ r 1 u v H Q:=by
 refine MK (BQ m<|oA D rfl) (λi ys b=>Same H b/\∃ c:List _,ys=c.map V.ref/\c.length=i/\∀ k t,c[k]? =some t->b t=some (.tup [.int (B k),.int<|k%w])) {Same.refl _,[],rfl,rfl,λk t h=>by simp at h} (λi ys b J y g=>?_) λys b y g l j=>?_;let[s,c,e,A,h]:=g;refine I i b _ J s λt n=>?_
 have st:=AL (o:=.tup [.int (B i),.int<|i%w]) n;refine{s.trans st,c++[t],by rw[e,av];rfl,by simp[A],λk t' d=>?_};let z||z:=ff k _
 rw[bg z]at d;exact st _ _<|h k t' d;rw[cg z]at d
 have p:k-c.length=0:=by
  let z||z:=ni _
  exact z;rw[bv (z)]at d;cases d
 rw[p]at d;obtain rfl:=ι d
 have:k=i:=by lia
 subst this;exact AE;let[s,c,rfl,A,h]:=g
 have st:=AL (o:=.lst<|c.map V.ref) j;exact q c _ l (by simpa using y) (s.trans st) (λk t d=>st _ _<|h k t d) AE
def Jm{rows:wC}{w i j:Nat}(c:∀ r∈rows,r.length=w)(d:i<rows.length)(g:j<w)(cs:zE):∃ v,ET cs rows i j=some v:=by
 unfold ET;cases e:D5 cs i j with
 |some k =>
  exact{_,by show(cs[k]?).map _=_;rw[θ (QL e)];rfl}
 |none =>
  have b:=θ d;exact{_,by rw[cj,b];exact θ<|Nat.lt_of_lt_of_eq g (c _<|η b).symm}
def zw4{n r c w kind k:Nat}(b:kind<3)(h:k<BR n r c w kind):BH n r c w kind k<n+r+c+r+c:=by
 unfold BH
 have hd:=lh (by rw[dq];exact h);rcases(c3 b)with z|z|z<;>subst z<;>simp at hd ⊢ <;>lia
def Jp{n r c w kind k:Nat}(h:k<BR n r c w kind):1<=w:=by
 let z||z:=ni w
 rw[z]at h;exact nZ h;exact z
def VN{n r c w kind:Nat}(h1:n<=6)(h2:r<=6)(h3:c<=6)(h4:w<=6):BR n r c w kind<=36:=by
 have h:(if kind=0 then n else if kind=1 then r else if kind=2 then c else if kind=3 then r else c)<=6:=by
  split<;>(try split)<;>(try split)<;>(try split)<;>lia
 exact ia h h4
def RP(kind:Nat):cF:=if kind=0 then [.non]else [.non,.int 0]
def zw5(kind:Nat)(v:V):decide (v∈RP kind)=LP kind v:=by
 unfold RP LP;by_cases h:kind=0;subst h;simp;rw[if_neg h];simp[m_ h]
def cO{kind:Nat}{A:BA}{n r c w:Nat}{rows:wC}{nn:Nat}{cs:zE}{outs:vD}{p:wD}{l:Addr}{b:Hp}(O:kind<3)(T:TB K a)(TP:DM K a)(s:Same H b)(B:D6 a H A w rows nn cs outs)(U:rows.length=n+r+c+r+c)(h1:n<=6)(h2:r<=6)(h3:c<=6)(h4:w<=6)
  (Y:∀ i j v,ET cs rows i j=some v->GoodV 4 H v) (e:p.length=BR n r c w kind) (ht:∀ k t,p[k]? =some t->b t=some (.tup [.int (BH n r c w kind k:Nat),.int (k%w:Nat)])) (el:b l=some (.lst<|p.map V.ref))
  (q:∀ k:Nat,EU (MT cs rows n r c w kind) (BR n r c w kind)=k->∀ b,Same H b->Q (.int k) b) (qe:EU (MT cs rows n r c w kind) (BR n r c w kind)= -1->∀ b,Same H b->E (.ref<|a "NoRoom") none b) :
  ∀ u,b u=none->N3 K a [.ref A.b,.ref l,.ref u] (upd b u<|.tup<|RP kind) Q E:=λu hu=>by
 have y:=AL (o:=.tup<|RP kind) hu
 have x:=s.trans y;refine OV A w _ nn cs _ l u p _ _ _ {rfl,T,TP,B.same x,y _ _ el,e,oA (VN  h1 h2 h3 h4) rfl,AE,λz hz=>?_,λk t g=>?_,λk d D I=>q k d D<|x.trans I,λd D I=>qe d D<|x.trans I};unfold RP at hz;split at hz<;>simp at hz;exact .inl hz;let z||z:=hz
 exact .inl z;exact .inr {0,z}
 have M:=e ▸ ((ζ.mp g).1)
 have hb:=zw4 O M
 have N:k%w<w:=t_ _<|(Jp M);let[v,J]:=Jm (λr' L=>B.pk.wd r' L) (show BH n r c w kind k<rows.length by lia) N cs;refine x3 _ _ v {y _ _<|ht k t g,{i0,dn.mpr<|U ▸ hb,i0,dn.mpr N},J,(Y _ _ _ J).keep x.tk,?_};unfold MT;rw[J,zw5]
example:(zw6,UX,bV,3):=by
 apply u2;intro p b [rfl,A,n,r,c,w,rows,nn,cs,outs,rfl,T,TP,u,L,h1,h2,h3,h4,B,v,x,q,y];let[N,e]:=L.ob;erw[bV,bV0_];refine y2 {e,BZ,x5 p n r c w {rfl,u,L,λt z=>?_}}
 have d:=AL (o:=.tup [V.int (n*w),V.int<|r*w,V.int<|c*w]) z;refine BT AE  rfl rfl ?_;revert d
 have D:=VN (kind:=0) h1 h2 h3 h4
 have O:n*w=(BR n r c w 0):=by unfold BR;simp
 refine λd=>{i0,by lia,cN   (oA D rfl) (λi I U Y g J=>(y2 {g _ _<|d _ _ e,BZ,x6 p n r c w i {(by simp),u,(L.same d).same g,?_}})) λts I l j g s M=>{by decide,cO  (by decide) T TP (d.trans g) B v h1 h2 h3 h4 x j s M q y}}
 exact J
example:(zw7,ZO,bW,3):=by
 apply u2;intro p b [rfl,A,n,r,c,w,rows,nn,cs,outs,rfl,T,TP,u,L,h1,h2,h3,h4,B,v,x,q,y];let[N,e]:=L.ob;erw[bW,bW0_];refine y2 {e,BZ,x5 p n r c w {rfl,u,L,λt z=>?_}}
 have d:=AL (o:=.tup [V.int (n*w),V.int<|r*w,V.int<|c*w]) z;refine BT AE  rfl rfl ?_;revert d
 have D:=VN (kind:=1) h1 h2 h3 h4
 have O:r*w=(BR n r c w 1):=by unfold BR;simp
 refine λd=>{i0,by lia,cN   (oA D rfl) (λi I U Y g J=>(y2 {g _ _<|d _ _ e,BZ,x6 p n r c w i {(by simp),u,(L.same d).same g,?_}})) λts I l j g s M=>{by decide,cO  (by decide) T TP (d.trans g) B v h1 h2 h3 h4 x j s M q y}}
 exact J
example:(zw8,ZP,bX,3):=by
 apply u2;intro p b [rfl,A,n,r,c,w,rows,nn,cs,outs,rfl,T,TP,u,L,h1,h2,h3,h4,B,v,x,q,y];let[N,e]:=L.ob;erw[bX,bX0_];refine y2 {e,BZ,x5 p n r c w {rfl,u,L,λt z=>?_}}
 have d:=AL (o:=.tup [V.int (n*w),V.int<|r*w,V.int<|c*w]) z;refine BT AE  rfl rfl ?_;revert d
 have D:=VN (kind:=2) h1 h2 h3 h4
 have O:c*w=(BR n r c w 2):=by unfold BR;simp
 refine λd=>{i0,by lia,cN   (oA D rfl) (λi I U Y g J=>(y2 {g _ _<|d _ _ e,BZ,x6 p n r c w i {(by simp),u,(L.same d).same g,?_}})) λts I l j g s M=>{by decide,cO  (by decide) T TP (d.trans g) B v h1 h2 h3 h4 x j s M q y}}
 exact J
theorem Jq:∀ {n:Nat} {v:V},GoodV n H v->∃ d,Dat K H n v d
 |_+1,.int i,_=>{_,Dat.int i}
 |_+1,.non,_=>⟨_,Dat.non⟩
 |_+1,.str z,h=>{_,.str z,h,bh _}
 | n+1,.ref p,⟨xs,h1,h2,h3⟩=>by
  have:∀ (l:cF),(∀ v∈l,GoodV n H v)->∃ c,Paired _ l c:=λl=>by
   induction l with
   |nil=>exact λy=>{[],.nil}
   |cons x r e =>
    intro h;let[d,hd]:=Jq<|h x<|χ ..;let[c,b]:=e λv g=>h v<|τ _ g;exact{_,.cons hd b}
  let[c,b]:=this xs h3;exact{_,Dat.tup (SqT.of h1) b}
def zw9(h:∀ v∈l,GoodV n H v):∃ c,Paired (Dat K H n) l c:=by
 induction l with
 |nil=>exact{[],.nil}
 |cons x r e =>
  let[d,hd]:=Jq  (h x<|χ ..);let[c,b]:=e λv g=>h v<|τ _ g;exact{_,.cons hd b}
def zxa{cs:zE}{rows:wC}(g:goodH H cs rows){i j:Int}{v:V}(h:ET cs rows i j=some v):GoodV 4 H v:=by
 unfold ET at h;cases e:D5 cs i j with
 |some k =>
  rw[e]at h
  have h:(cs[k]?).map _=some v:=h;cases b:cs[k]? with
  |none=>rw[b]at h;cases h
  |some c =>
   rw[b]at h;obtain rfl:=ι h;exact g.2 c<|η b
 |none =>
  rw[e]at h;cases d:rows[i.toNat]? with
  |none=>rw[d]at h;cases h
  |some r =>
   rw[d]at h;exact g.1 r (η d) v (η h)
def goodH.keep(g:goodH H cs rows)(k:EA H b):goodH b cs rows:={λr d v e=>(g.1 r d v e).keep k,λc i=>(g.2 c i).keep k}
def zxb{cs:zE}{rows:wC}{i j:Int}{b c:Nat}{v:V}{nd:wE}:ET (cs++[⟨b,c,v,nd⟩]) rows i j=if(b:Int)=i/\(c:Int)=j then some v else ET cs rows i j:=by
 unfold ET;rw[YZ];by_cases h:b=i/\c=j;rw[if_pos h,if_pos h];simp;rw[if_neg h,if_neg h];cases e:D5 cs i j with
 |none=>rfl
 |some k =>
  show((cs++[_])[k]?).map _=(cs[k]?).map _;rw[bg (QL e)]
def KO{G:Addr->Prop}{H c:Hp}(s:SameBut G H c)(g:∀ x,G x->ER (H x)):EA H c:=λb xs e=>s _ _ e λz=>(g _ z).1 _ e
def zxc{p b:Addr}{xs:cF}(h1:SqL K H p xs)(h2:SqL K H b xs)(c:∀ v∈xs,GoodV 4 H v)(q:Q (.bl false) H):LA K (.ref p) (.ref b) H Q:=by
 let[d,D]:=zw9  c;exact zed  (by decide) (Dat.lst h1 D) (Dat.lst h2 D) q
def cP{z:Str}{i:Int}{n:Nat}{c:Nat}{Q:VK}(b:i=n)(d:z.cps.toList.length<=1000)(e:z.cps.toList[n]? =some c)(q:Q (.str {#[c]}) H):B7 K (.str z) (.int i) H Q:=by
 subst b;exact .inr (.inr (x3 z n c {rfl,rfl,ψ (d) (BQ _ (by decide)),SU e,q}))
def zxd:[c]<(μ " ").cps.toList↔c<32:=by
 rw[show(μ _).cps.toList=[32] by decide +kernel,jf];simp
def zxe:(μ "~").cps.toList<[c]↔126<c:=by
 rw[show(μ _).cps.toList=[126] by decide +kernel,jf];simp
def zxf:[c]<(μ "a").cps.toList↔c<97:=by
 rw[show(μ _).cps.toList=[97] by decide +kernel,jf];simp
def zxg:(μ "z").cps.toList<[c]↔122<c:=by
 rw[show(μ _).cps.toList=[122] by decide +kernel,jf];simp
example:(zxh,ZQ,aQ,1,h):=by
 let[c,rfl,q]:=h;erw[aQ,aQ0_,zxd,zxe];unfold LQ at q;split;rename_i h1;split;rename_i h2;rw[decide_eq_true (cv h1),decide_eq_true<|cv h2]at q
 have e:(!decide (((#[c].getD 0 0):Int)=37))=decide (c≠37):=by
  rw[show(#[c]).getD 0 0=c from rfl,<-decide_not];exact decide_eq_decide.mpr (by lia)
 refine{rfl,?_};rw[e];exact q;rw[show decide (c<=126)=false from decide_eq_false (by lia)]at q;simpa using q;rw[decide_eq_false (by lia)]at q;exact q
def cQ(hz:z.length<=1000)(l:∀ c (j:VK),j (.bl<|f c) H->n [some (.str {#[c]})] H j)(q:∀ d,Same H d->Q (.bl<|z.cps.toList.all f) d) :
  EI (PZ z) (AG 0) CQ n 1 [] [some (.str z)] H λx o=>ML K [x] o Q:=by
 refine zc1 (BQ _<|oA hz rfl) (λi ys d=>d=H/\ys=(z.cps.toList.take i).map λc=>V.bl<|f c) ⟨rfl,rfl⟩ (λi c ys d r s b=>?_) (λys d s b p u=>?_);let[rfl,e]:=b
 have g:z.cps.toList[i]? =some c:=by simpa using r
 refine l c _ {rfl,?_};rw[cw,g,e];simp;let[rfl,e]:=b
 have v:ys=(z.cps.toList.map f).map V.bl:=by
  rw[e,lb,de (by simp)];rfl
 refine x2 p _ {rfl,by rw[<-v];exact SqL.of AE,?_};rw[Et];exact(q _<|AL  u)
example:(zxi,ZR,aR,1,h):=by
 let[z,rfl,hz,q]:=h;erw[aR,aR0_];unfold BK at q;refine{_,{BQ _<|oA hz rfl,rfl},?_};split;rename_i h1;rw[decide_eq_true (by exact dn.mp h1)]at q;by_cases h2:z.length<=8;rw[decide_eq_true h2]at q;rw[if_pos (by lia)];refine cQ hz (λc d b=>?_) q;erw[zxf,zxg];unfold QZ at b;split;rename_i h3;rw[decide_eq_true (cv h3)]at b;rw[show(!decide _)=decide (c<=122) by rw[<-decide_not];exact decide_eq_decide.mpr (by lia)];exact b;rw[decide_eq_false (by lia)]at b;exact b;rw[decide_eq_false h2]at q;rw[if_neg (by exact λz=>h2<|kx.mp z)];exact q _<|Same.refl _;rename_i h1;rw[decide_eq_false (λz=>h1<|kx.mpr z)]at q;exact q _<|Same.refl _
example:(zxj,ZS,bI,1,h):=by
 let[z,rfl,hz,q]:=h;erw[bI,bI0_];unfold G6 at q;refine{_,{BQ _<|oA hz rfl,rfl},?_};split;rename_i h1;rw[decide_eq_true (by exact dn.mp h1)]at q;by_cases h2:z.length<=40;rw[decide_eq_true h2]at q;rw[if_pos (by lia)];exact cQ hz (λc d b=>⟨c,rfl,b⟩) q;rw[decide_eq_false h2]at q;rw[if_neg (by exact λz=>h2<|kx.mp z)];exact q _<|Same.refl _;rename_i h1;rw[decide_eq_false (λz=>h1<|kx.mpr z)]at q;exact q _<|Same.refl _
def M4(x y:Str):(x++y).length=x.length+y.length:=PySem.strLen_append x y
def OF(x:Int){n:Nat}(h:1<=n):∃ b:Nat,x%(n:Int)=b/\b<n :=
 ⟨_,(fu (Ip x (show(n:Int)≠0 by exact λz=>gr h<|ce z))).symm,by
  have:=Co x (show(0:Int)<n by exact dn.mpr h)
  lia⟩
def zxk{z:Str}{i:Int}{n:Nat}{Q:VK}(b:i=n)(d:n<z.length)(hz:z.length<=1000)(q:∀ c,Q (.str {#[c]}) H):B7 K (.str z) (.int i) H Q:=by
 subst b;exact .inr<|.inr<|x3 z n _ {rfl,rfl,BQ _<|oA hz rfl,SU<|θ<|d,q _}
section
variable{lp b tk:Addr}
def IP:(sf lp b tk).lookup ("plan":Str)=some (V.ref lp):=by simp[sf]
def HV:(sf lp b tk).lookup ("book":Str)=some (V.ref b):=by
 simp[sf,au,BC (a:="book") (b:="plan") (by decide)]
def cS:(sf lp b tk).lookup ("taken_out":Str)=some (V.ref tk):=by
 simp[sf,au,BC (a:="taken_out") (b:="plan") (by decide),BC (a:="taken_out") (b:="book") (by decide)]
def CB{x:Str}(h:(D0 x "plan" || D0 x "book" || D0 x "taken_out")=false:=by decide +kernel):(sf lp b tk).lookup x=none:=by
 simp only[fj]at h;let[[h1,h2],h3]:=h;simp[sf,au,BC h1,BC h2,BC h3]
def zxl:BS "taken_out" (.ref tk) (BS "book" (.ref b) (BS "plan" (.ref lp) []))=sf lp b tk:=by
 rfl
end
def zxm{w k b:Nat}(h1:k/w=b/w)(h2:k%w=b%w):k=b:=by
 rw[<-tq k w,<-tq b w,h1,h2]
def zxn{f:yD}{m k:Nat}(h:EU f m=k):k<m:=by
 unfold EU at h;cases e:(ρ m).find? f with
 |none=>rw[e]at h;simp at h
 |some b =>
  have:=ao.mp<|xh e
  lia
def Jv{z:Str}(h:BK z=true):iz z=true:=by
 unfold BK at h;rw[bx]at h
 have h:=h.2;unfold iz;rw[<-yo];rw[gu]at h ⊢;intro c b
 have:=h c b;simp only[QZ,bx,decide_eq_true_eq]at this ⊢;exact oC this.2 rfl
def RepC.keep(k:EA H c):∀ {x:CV} {v:V},RepC H x v->RepC c x v:=λ{x v}=>by
 cases x with
 |nm=>intro[t,e,b];exact{t,e,k _ _ b}
 |rc=>intro[t,u,e,b,d];exact x2 t u {e,k _ _ b,k _ _ d}
 |_=>exact id
theorem LaidA.keep(k:EA H b)(h:LaidA n r c w H cs as):LaidA n r c w b cs as:=by
 induction h with
 |nil=>exact .nil
 |snoc _ d e g i j l o=>exact o.snoc d e (g.keep k) i j l
def SM.same(I:SM a H S n r c w rows nn cs outs b M)(s:Same H i):SM a i S n r c w rows nn cs outs b M:=by
 let[[j,l],o,p,q,u,x,y,z,A,d,e,g]:=I;exact{{j,s _ _ l},o.same s,p.same s,s _ _ q,u,x,y,z,A.keep s.tk,λkind k v h1 h2 B=>(d _ k v h1 h2 B).keep s.tk,e,g.keep s.tk}
example:(zxo,ZT,uV,1):=by
 apply u5;intro x c d b tk [rfl,T,e,q];exact y3 ⟨e,T.cl,T.n2,_,HV,q⟩
def BookAt.ins1(B:BookAt a C H A w rows n cs outs)(s:SameBut (· =x) H j)(I:H x=some (.ins C' dx fs))(hf:fs.length<=2):BookAt a C j A w rows n cs outs:=by
 let[[[J,L],[M,N,O],T,U,Y,[kvs,e7,e8],[DY,e9,q],r1,r2,r3,r4,r5],[[d2,f1],[ts,f2,f3],f4,f5,f6],nb]:=B
 have o:∀ {y:Addr} {o:HO},H y=some o->(∀ b g ,o≠.ins b g fs)->j y=some o:=λe h=>s _ _ e<|BI e I<|h _ _
 have u:∀ {y:Addr} {b g:Addr} {p:List _},H y=some _->2<p.length->j y=some (.ins b g p):=λe h=>o e λv v z=>by injection z with _ _ z;rw[z]at h;exact nL h hf
 have ol:∀ {y:Addr} {D:HO},H y=some D->(∀ b g p,D≠.ins b g p)->j y=some D:=λe h=>o e λv v=>h _ _ _;exact{{{J,u L (by simp[bf])},{_,ol N (by simp),Paired.mapP O (by intro y c [d,pl,nt,g1,g2,g3];exact x3 d pl nt {u g1 (by simp[F5]),ol g2 (by simp),ol g3 (by simp)})},ol T (by simp),λi l h=>ol (U i l h) (by simp),Y,{_,ol e7 (by simp),e8},{_,ol e9 (by simp),q},r1,r2,r3,r4,r5},{{d2,u f1 (by simp[pf])},{ts,ol f2 (by simp),Paired.mapP f3 λt r z=>ol z (by simp)},f4,f5,f6},nb}
example:(zxp,Q1,Ax,3):=by
 apply OW;intro x d i gp cl n r c w rows nn M [rfl,[T,TP,TL,TS],l,L,P,sz,g,N,hok,q];refine y3 {l,TS.cl,TS.n1,by decide,?_}
 have s:upd H x _ x=some (.ins (a "Store") d (BS "plan" (.ref i) [])):=AE
 have j:SameBut _ H (upd H x<|.ins (a "Store") d (BS "plan" (.ref i) [])):=λy o e n=>by rw[AI n];exact e
 revert s j;generalize upd H x _=H1;intro s j
 have P1:PlankAt a H1 gp cl w rows nn:=by
  let[[dx',f1],[ts,f2,f3],r1,r2,r3]:=P;exact{{_,j _ _ f1 (BI f1 l (NY (by simp[pf])))},{ts,j _ _ f2 (BI f2 l (by intro z;cases z)),Paired.mapP f3 λt r z=>j _ _ z (BI z l (by intro z;cases z))},r1,r2,r3}
 refine zwe T TP P1 λA I eg ec off B O=>?_
 have u:=O _ _ s;refine y3 {u,TS.cl,TS.n2,FV  (by decide),λp D=>?_}
 have np:=BJ AE D;rw[AI np.symm]at D;refine y3 {by rw[AI np,AE],TS.cl,TS.n3,FV  (FV  (by decide)),?_};rw[zxl]
 have J:SameBut _ I (upd (upd (upd I x<|.ins (a "Store") d (BS "book" (.ref A.b) (BS "plan" (.ref i) []))) p (.dK [])) x (.ins (a "Store") d (sf i A.b p))):=λy o e n=>by
  rw[AI n,AI<|BJ e D,AI n];exact e
 have U:upd (upd (upd I x<|.ins (a "Store") d (BS "book" (.ref A.b) (BS "plan" (.ref i) []))) p (.dK [])) x _ x=some (.ins (a "Store") d (sf i A.b p)):=AE
 have Y:upd (upd (upd I x<|.ins (a "Store") d (BS "book" (.ref A.b) (BS "plan" (.ref i) []))) p (.dK [])) x (.ins (a "Store") d (sf i A.b p)) p=some (.dK []):=by rw[AI np.symm,AE]
 revert J U Y;generalize upd _ x _=H3;intro J U Y
 have sb:=(j.trans<|Same.sb O).trans J
 have tk:EA H H3:=λb xs e=>sb _ _ e (BI e l (by intro z;cases z));let[dl,el]:=L.ob;refine q ⟨A,x,i,p⟩ H3 rfl rfl eg ec (λy o e=>?_) (j.none (by rw[s];intro z;cases z) (O.free D)) {⟨d,U⟩,L.sb sb (BI el l (NY (by simp[lf]))),(B.ins1 J u (ψ (O4 _ _ _) (by simp))),Y,ο _,λz v h=>by simp[BE]at h,B.off D,sz,{λr hr v hv=>(g r hr v hv).keep tk,λc hc=>by cases hc},λkind k v h1 h2 hv=>(N _ k v h1 h2 hv).keep tk,hok,.nil} sb;by_cases hy:y=x;subst hy;exact(off _ _ s).imp id id;exact off y o<|j _ _ e hy
section
variable{X:SX}{cs:zE}{tks:vC}{M:Hs}
def cT{n r c w kind d k g:Nat}(h1:kind<5)(h2:d<5)(o:k<BR n r c w kind)(i:g<BR n r c w d)(l:BH n r c w kind k=BH n r c w d g)(p:k%w=g%w):kind=d/\k=g:=by
 have f:∀ {kind x:Nat},kind<5->x<(if kind=0 then n else if kind=1 then r else if kind=2 then c else if kind=3 then r else c)->∀ b,(if kind=0 then 0 else if kind=1 then n+r+c else if kind=2 then n+r+c+r else if kind=3 then n else n+r)+x=b->(if b<n then 0 else if b<n+r then 3 else if b<n+r+c then 4 else if b<n+r+c+r then 1 else 2)=kind:=by
  intro kind x h j b e;rcases(c5 h)with z|z|z|z|z<;>subst z
  rw[if_pos]<;>simp at j e<;>exact e ▸ j
  all_goals rw[if_neg]<;>simp at j e<;>lia
 have key:kind=d/\k/w=g/w:=by
  obtain rfl:kind=d:=(f h1 (lh (by rw[dq];exact o)) _ l).symm.trans (f h2 (lh (by rw[dq];exact i)) _ rfl);exact{rfl,Nat.add_left_cancel l}
 exact{key.1,zxm key.2 p}
def LaidA.newest{n r c w:Nat}{H:Hp}{cs:zE}{as:bF}(h:LaidA n r c w H cs as){kind k:Nat}(h1:kind<5)(d:k<BR n r c w kind):D5 cs (BH n r c w kind k:Nat) (k%w:Nat)=IL kind k as/\cs.length=as.length:=by
 induction h with
 |nil=>exact⟨rfl,rfl⟩
 |@snoc cs as ch x _ g i o p j l b =>
  refine{?_,by rw[ai,b.2];rfl};rw[YZ,b.1,b.2]
  show _=(if x.kind=kind/\x.k=k then some _ else IL _ k as);by_cases e:x.kind=kind/\x.k=k;rw[if_pos e,if_pos {by rw[g,e.1,e.2],by rw[i,e.2]}];rw[if_neg e,if_neg λz=>e (cT j h1 l d (by lia) (by lia))]
def SM.on(I:X.at a H cs tks M)(h1:kind<5)(b:k<BR X.n X.r X.c X.w kind):BH X.n X.r X.c X.w kind k<X.rows.length/\k%X.w<X.w:=by
 refine{?_,t_ _<|(Jp b)};rw[I.sz.2.2.2.2];unfold BH
 have hd:=lh (by rw[dq];exact b);rcases(c5 h1)with z|z|z|z|z<;>subst z<;>simp at hd ⊢ <;>lia
def SM.onPl(I:X.at a H cs tks M){kind k:Nat}(h1:kind<5)(b:k<BR X.n X.r X.c X.w kind):onPl X.rows X.w (BH X.n X.r X.c X.w kind k:Nat) (k%X.w:Nat):=by
 have:=I.on h1 b;exact{jx _,by lia,jx _,dn.mpr this.2}
def SM.val(I:X.at a H cs tks M){kind k:Nat}(h1:kind<5)(c:k<BR X.n X.r X.c X.w kind):∃ v,ET cs X.rows (BH X.n X.r X.c X.w kind k:Nat) (k%X.w:Nat)=some v/\RepC H (M kind k) v:=by
 let[e,g]:=I.on h1 c;let[v,d]:=Jm (λi b=>I.bk.pk.wd i b) e g cs;exact{v,d,I.rp _ k v h1 c d}
def SM.snoc{i:Hp}{kind k:Nat}{v:V}{x:CV}{nd:wE}{l:xE}(hd:∀ y:Int,y∈nd↔(∃ j∈l,y=(j:Nat))\/tN cs (BH X.n X.r X.c X.w kind k:Nat) (k%X.w:Nat) y)(I:X.at a H cs tks M)(h1:kind<5)(n:k<BR X.n X.r X.c X.w kind)(B:D6 a i X.S.A X.w X.rows X.nn (cs++[{BH X.n X.r X.c X.w kind k,k%X.w,v,nd}]) X.outs)(s:SameBut X.S.A.F H i)(g:GoodV 4 i v)(D:RepC i x v)(T:FB kind x):X.at a i (cs++[{BH X.n X.r X.c X.w kind k,k%X.w,v,nd}]) tks (M.put kind k x l):=by
 have lo:∀ x,X.S.A.F x->ER _:=λx U=>I.bk.loose U
 have tk:=KO s lo;let[[Y,J],L,e3,e4,e5,e6,N,e8,O,r,u,o]:=I;let[dl,el]:=L.ob;refine{{Y,s _ _ J λz=>(lo _ z).2 _ _ _ J},L.sb s λz=>(lo _ z).2 _ _ _ el,B,s _ _ e4 N,by rw[ai];exact ck e5,λz v h=>?_,N,e8,{(O.keep tk).1,λc hc=>?_},λb q v' d e p=>?_,λb q d e=>?_,(o.keep tk).snoc rfl rfl D (λy=>by rw[hd];unfold tN;rw[(o.newest h1 n).1]) h1 n};let[k,ek,n]:=e6 z v h;exact{k,ek,by rw[ai];exact ck n};let y||y:=bc.mp hc
 exact(O.keep tk).2 c y;rw[aa.mp y];exact g;rw[zxb]at p;rw[Hs.put_at];by_cases w:b=kind/\q=k;let[rfl,rfl]:=w;rw[if_pos ⟨rfl,rfl⟩]at p ⊢;obtain rfl:=ι p;exact D;rw[if_neg λy=>w (by
  have:=cT h1 d n e (ce y.1) (ce y.2);exact⟨this.1.symm,this.2.symm⟩)]at p
 rw[if_neg w];exact(r _ q v' d e p).keep tk;rw[Hs.put_at];split;rename_i y;rw[y.1];exact T;exact u _ q d e
def IQ{kind k:Nat}{v:V}{x:CV}{u nl:Addr}{ns:wE}(p:CU K a)(I:X.at a H cs tks M)(h1:kind<5)(c:k<BR X.n X.r X.c X.w kind)(r:H u=some (.tup [.int (BH X.n X.r X.c X.w kind k:Nat),.int (k%X.w:Nat)]))(s:H nl=some (.lst<|ns.map V.int))(w:ns.length<=60)(d:cs.length<990)(i:∀ x∈ns,known cs x)(g:GoodV 4 H v)(B:RepC H x v)(D:FB kind x)
  (q:∀ ch l,X.at a l (cs++[ch]) tks (M.put kind k x<|LR ns)->SameBut X.S.A.F H l->Q (.int cs.length) l):GS K a [.ref X.S.A.b,.ref u,v,.ref nl] H Q E:=by
 let[T,TP,O,TS]:=p;refine OV _ _ _ _ cs _ u nl v ns _ _ {rfl,T,TP,I.bk,r,SqL.of s,w,d,λz z nd J U mem L n=>?_,λy=>absurd (I.onPl h1 c) y,λz ⟨x,b,c⟩=>absurd (i x b) c}
 have tk:=KO n λx b=>I.bk.loose b;refine q _ J (I.snoc (λy=>?_) h1 c L n (g.keep tk) (B.keep tk) D) n;rw[mem];refine or_congr {λh=>{_,ay.mpr ⟨y,h,rfl⟩,(fu<|(i y h).1).symm},λo=>?_} Nf;let[j,N,e]:=o;let[x,b,rfl]:=ay.mp N
 have:=(i x b).1;rw[show y=x by lia];exact b
end
def NmX(H:Hp)(v:V):Option (Str × Nat)->Prop
 |none=>v=.non
 |some (z,k)=>∃ t,v=.ref t/\H t=some (.tup [.str z,.int k])
def NmX.keep(h:NmX H v x)(k:EA H b):NmX b v x:=by
 cases x with
 |none=>exact h
 |some p=>let[t,e,c]:=h;exact{t,e,k _ _ c}
def RepC.nmv(h:RepC H (M 0 k) v)(ok:FB 0 (M 0 k)):NmX H v (D1 M k):=by
 unfold D1;cases e:M 0 k with
 |no=>rw[e]at h;exact h
 |nm z r=>rw[e]at h;exact h
 |mk i=>rw[e]at ok;exact ok.elim
 |rc m ps=>rw[e]at ok;exact ok.elim
 |tx z=>rw[e]at ok;exact ok.elim
example:(zxq,Q2,bQ,1):=by
 apply u4;intro X cs O M [rfl,[T,TP,J,TS],I,q];let[S,n,r,c,w,rows,nn,outs]:=X;let[dx,j]:=I.ob;let[dl,L]:=I.ly.ob;let[db,U]:=I.bk.bk.ob
 have hz:=I.sz
 have l:=ia hz.1 hz.2.2.2.1;erw[bQ,bQ0_];refine y3 {j,TS.cl,TS.n1,_,IP,y2 {L,BZ,x5 _ n r c w {rfl,J,I.ly,λt Y=>?_}}}
 have A:=AL (o:=.tup [V.int (n*w),V.int<|r*w,V.int<|c*w]) Y;refine BT AE  rfl rfl ?_;revert A
 have em:(n:Int)*w=(n*w:Nat):=rfl;intro A;rw[em];erw[];refine{i0,by lia,MK (BQ _<|oA l rfl) (λi ys B=>Same H B/\ys.length=i/\∀ k v,ys[k]? =some v->ET cs rows (BH n r c w 0 k) (k%w)=some v) {A,rfl,λk v h=>by simp at h} (λi ys B hi e d=>?_) (λys B e d p hp=>?_)}
 ·let[s,x,D]:=d;refine y3 {s _ _ j,TS.cl,TS.n2,_,HV,y2 {s _ _ U,C8,y3 {s _ _ j,TS.cl,TS.n1,_,IP,y2 {s _ _ L,BZ,x6 _ n r c w i {by simp,J,I.ly.same s,λu hu=>?_}}}}}
  have N:=s.trans<|AL (o:=.tup [.int (0+i/w),.int<|i%w]) hu;refine x9 _ w rows nn cs _ u (BH n r c w 0 i) (i%w) {rfl,T,TP,I.bk.same N,by rw[AE];simp[BH],λx v H3 ev g=>{N.trans g,by simp[e],λk v' b=>?_},λz=>absurd (SM.onPl I  (by decide) (hi)) z};let z||z:=ff k _
  rw[bg z]at b;exact D k v' b
  have:k=i:=by
   let y||y:=Nat.eq_or_lt_of_le z
   exact e ▸ y.symm;rw[bv (by simp;lia)]at b;cases b
  rw[cg z]at b;subst this;rw[e,wb]at b;obtain rfl:=ι b;exact ev
 let[s,x,D]:=d
 have g:=s.trans<|AL (o:=.lst ys) hp;exact q p ys _ g AE e λk v b=>((I.rp 0 k v (by decide) (by simp[BR];exact e ▸ ((ζ.mp b).1)) (D k v b)).keep g.tk)
def zxr(b:i<m)(h:(D1 M i).any (λp=>decide<|p.1=z)=true)(c:∀ j<i,(D1 M j).any (λp=>decide<|p.1=z)=false):cellOf M m z=some i:=by
 unfold cellOf;let[d,rfl]:=io<|show i+1<=m from b;rw[mv];refine{h,x2 (ρ i) ((ρ d).map (i+1+·)) {?_,λj e=>by rw[c j (ao.mp e)];rfl}};rw[fg,wz,wz];simp[fg,Go]
def zxs(b:∀ j<m,(D1 M j).any (λp=>decide<|p.1=z)=false):cellOf M m z=none:=kg.mpr λj c=>by rw[b j (ao.mp c)];exact ax
example:(zxt,N4,Cd,4):=by
 apply u5;intro X cs T M z [rfl,U,I,q];let[dx,Y]:=I.ob;refine y2 {Y,CB,x4 X cs _ M {rfl,U,I,λl xs J s1 L r hx=>({{_,SqL.of L},X6  (λi g d=>(Same H d/\Same J d/\∀ j<i,(D1 M j).any (λp=>decide<|p.1=z)=false)/\∃ x y,g=[some _,some _,x,y]) {{s1,Same.refl _,λj w=>absurd w<|i_ _},x2 _ _ rfl} (by intro i g d v [[v,s,v],v];exact SqL.of<|s _ _ L) (λi x g d t e c N=>?_) (λg d c=>?_)})}};let[[A,s,lo],y1,y2,rfl]:=c
 have B:=(ζ.mp e).1
 have n:=s.trans<|AL (o:=.tup [.int i,x]) N
 have b:=A.trans<|AL (o:=.tup [.int i,x]) N
 have nx:=((hx i x e).nmv (I.ok 0 i (by decide) (by rw[r]at B;exact B))).keep n.tk;refine{_,SqT.of AE,rfl,?_};revert n b nx;generalize upd d t _=O;intro n b nx
 have next:(D1 M i).any (λp=>decide _)=false->Same H O/\Same J O/\∀ j<i+1,(D1 M j).any (λp=>decide _)=false:=λh=>⟨b,n,λj w=>by
  let y||y:=ff j i
  exact lo j y;rw[show j=i by exact kq (dv w) y];exact h⟩
 erw[Cd1_,Cd0_];cases D:D1 M i with
 |none =>
  rw[D]at nx next;rw[nx];exact next rfl
 |some p =>
  rw[D]at nx next;let[u,rfl,eu]:=nx;refine BT eu  rfl rfl ?_;erw[];by_cases hz:p.1=z;rw[if_pos hz]
  have:=q _ b;rw[zxr  (r ▸ B) (by rw[D];simpa using hz) lo]at this;exact this;rw[if_neg hz];exact next (by simpa using hz)
 let[[A,s,lo],y1,y2,ez]:=c
 have:=q _ A;rw[zxs (by rw[<-r];exact lo)]at this;exact this
example:(zxu,UY,bY,1):=by
 apply u4;intro X cs O M [rfl,T,I,q]
 have hz:=I.sz;let[dx,U]:=I.ob
 have g:=ia hz.1 hz.2.2.2.1;erw[bY,bY0_];refine y2 {U,CB (by decide),x4 X cs _ M {rfl,T,I,λl xs Y w A s hx=>(.inl {{_,SqL.of A},rM  (BQ _<|oA (ψ (ba s) g) rfl) (λi b ys j=>j=Y/\(∃ B,b=[B])/\ys=(F9 M i).map V.str) {rfl,⟨_,rfl⟩,rfl} (by intro i b ys j [e,z,d];exact{e ▸ SqL.of A,by rw[d,ε];exact ψ (fq _ _) (by simp)}) (λi x b ys j n v c=>?_) (λb ys j c p hp=>?_)})}};let[e,[B,es],d]:=c
 have nx:=(hx i x v).nmv (I.ok 0 i (by decide) (by rw[s]at n;simpa [BR]using n));subst e es
 have r:F9 M (i+1)=F9 M i++((D1 M i).map (·.1)).toList:=by
  unfold F9;rw[bz];cases e:D1 M i<;>simp[e]
 cases J:D1 M i with
 |none =>
  rw[J]at nx r;rw[nx];exact{_,by lia,rfl,n,by rw[r,d];simp}
 |some p =>
  rw[J]at nx r;let[u,rfl,eu]:=nx;exact{λy L=>y=.str _/\L=j,(by intro y L [e1,e2];exact{_,by lia,rfl,n,e2,by rw[r,d,e1];simp}),BT eu  rfl rfl ⟨rfl,rfl⟩}
 let[rfl,z,d]:=c
 have sp:=AL (o:=.lst ys) hp;exact x2 p (F9 M _) {rfl,by rw[<-s,<-d];exact SqL.of AE,cf (fq _ _) (by simp;exact oC g rfl),λD ks N pk hs=>(q D ks _ (w.free<|sp.free N) ((w.trans sp).trans (AL N)) AE pk hs)}
example:(zxv,UZ,cA,3):=by
 apply u7;intro X cs B M z U r [rfl,D,I,u,J,L,q,q1,q2];let[Y,N]:=I.ob;erw[cA,cA1_];refine .inl {{_,SqL.of u},XO  (BQ _ (by rw[ε];exact oA J rfl)) (λi ys g=>Same H g/\ys=((r.take i).map BK).map V.bl) {Same.refl _,rfl} (λi ys g y ⟨s,_⟩=>SqL.of<|s _ _ u) (λi x ys g d l c=>?_) (λys g l c p O=>?_)};let[s,j]:=c;rw[υ,af]at d;let[v,e,rfl]:=d;refine{v,rfl,L v<|η e,λH2 b=>{s.trans b,?_}};rw[cw,e,j];simp;let[s,j]:=c;rw[ε,ca]at j
 have b:=s.trans<|AL (o:=.lst ys) O;refine x2 p _ {rfl,by rw[<-j];exact SqL.of AE,?_};rw[Et,Function.id_comp];revert b;intro b;cases n:r.all _ with
 |false =>
  exact{by decide,q1 n _ b}
 |true =>
  refine y2 {b _ _ N,CB,x5 X cs _ M z {rfl,D,I.same b,λH3 T=>?_}}
  have w:=b.trans T;cases A:cellOf M _ z with
  |none =>
   exact q n A _ w
  |some k =>
   exact{by decide,q2 n ⟨k,A⟩ _ w}
def KP{S:SA}{l n d e g lt i:Addr}{c:Str}{P:V->Prop}(TS:Q0 K a)(o:H S.st=some (.ins (a "Store") l (sf S.lp S.A.b S.tk)))(q:H S.A.b=some (.ins (a "Hold") n (bf d e g lt i)))(r:(bf d e g lt i).lookup c=none)(p:P (.ref S.A.b)) :
  ∃ x s x2,H S.st=some (.ins x s x2)/\Cls K x/\NoAttr K x "book"/\∃ v,x2.lookup ("book":Str)=some v/\CS v λb=>∃ y j,H b=some (.ins (a "Hold") y j)/\j.lookup c=none/\P v:=y3 {o,TS.cl,TS.n2,_,HV,y2 ⟨q,r,p⟩}
def G9{S:SA}{g dl:Addr}{n r c w:Int}{d:Str}{P:V->Prop}(TS:Q0 K a)(i:H S.st=some (.ins (a "Store") g (sf S.lp S.A.b S.tk)))(j:H S.lp=some (.ins (a "Layout") dl (lf n r c w)))(l:(lf n r c w).lookup d=none)(p:P (.ref S.lp)) :
  ∃ x o x2,H S.st=some (.ins x o x2)/\Cls K x/\NoAttr K x "plan"/\∃ v,x2.lookup ("plan":Str)=some v/\CS v λb=>∃ y e,H b=some (.ins (a "Layout") y e)/\e.lookup d=none/\P v:=y3 {i,TS.cl,TS.n1,_,IP,y2 ⟨j,l,p⟩}
section
variable{p:Addr}{n r c w k:Nat}
def Jw(b:D8 K a)(L:LayAt a H p n r c w)(q:G4 (0+k/w) (k%w) Q H):JK K a [.ref p,.int k] H Q E:=x6 p n r c w k ⟨rfl,b,L,q⟩
def OG(b:D8 K a)(L:LayAt a H p n r c w)(q:G4 (n+k/w) (k%w) Q H):G5 K a [.ref p,.int k] H Q E:=x6 p n r c w k ⟨rfl,b,L,q⟩
def Jx(b:D8 K a)(L:LayAt a H p n r c w)(q:G4 (n+r+k/w) (k%w) Q H):LM K a [.ref p,.int k] H Q E:=x6 p n r c w k ⟨rfl,b,L,q⟩
def Jy(b:D8 K a)(L:LayAt a H p n r c w)(q:G4 (n+r+c+k/w) (k%w) Q H):KI K a [.ref p,.int k] H Q E:=x6 p n r c w k ⟨rfl,b,L,q⟩
def lPM(b:D8 K a)(L:LayAt a H p n r c w)(q:G4 (n+r+c+r+k/w) (k%w) Q H):KJ K a [.ref p,.int k] H Q E:=x6 p n r c w k ⟨rfl,b,L,q⟩
end
theorem cU:∀ {l:xE},(∀ k∈l,f k=g k)->l.find? f=l.find? g
 | [],_=>rfl
 |k::l,h=>by
  rw[vq,vq,h k χ,cU λc b=>h c<|τ _ b]
def zxx(h:∀ k<m,f k=g k):EU f m=EU g m:=by
 unfold EU;rw[cU λk b=>h k<|ao.mp b]
section
variable{X:SX}{cs:zE}{tks:vC}{M:Hs}
def SM.free(I:X.at a H cs tks M){kind:Nat}(d:kind<3):EU (MT cs X.rows X.n X.r X.c X.w kind) (BR X.n X.r X.c X.w kind)=G8 M kind (BR X.n X.r X.c X.w kind):=zxx λk c=>by
 let[v,g,b]:=I.val (oA d rfl) c;unfold MT;rw[g];cases e:M _ k with
 |no=>rw[e]at b;rw[b];simp[LP,G7]
 |nm z r=>rw[e]at b;let[t,rfl,y]:=b;simp[LP,G7]
 |mk i =>
  rw[e]at b;rw[b];simp[LP,G7]
 |rc m ps=>rw[e]at b;revert b;apply u2;intro t u [rfl,y];simp[LP,G7]
 |tx z=>rw[e]at b;rw[b];simp[LP,G7]
def VO(h:cellOf M m z=some cell):cell<m/\∃ k,M 0 cell=.nm z k:=by
 have h2:=Ix h;unfold D1 at h2;refine{(ao.mp<|xh h),?_};cases e:M 0 _ with
 |nm b k =>
  rw[e]at h2;simp at h2;exact{k,by rw[h2]}
 |_=>rw[e]at h2;simp at h2
def VP{kind:Nat}(d:CU K a)(I:X.at a H cs tks M)(c:kind<3)(q:∀ k:Nat,G8 M kind (BR X.n X.r X.c X.w kind)=k->k<BR X.n X.r X.c X.w kind->∀ b,Same H b->Q (.int k) b)(g:G8 M kind (BR X.n X.r X.c X.w kind)= -1->EC a H "NoRoom" E):UW kind K a X.S.lp X.S.A.b H Q E:=by
 let[l,n,o,p,r]:=I.sz;let[T,TP,u,TS]:=d;refine x9 _ _ _ _ _ _ _ cs _ {rfl,T,TP,u,I.ly,l,n,o,p,I.bk,r,λi j v w=>zxa I.gd w,λk e b s=>?_,λe b s=>?_};rw[I.free c]at e;exact q k e (zxn e) b s;rw[I.free c]at e;exact g e b s
end
example:(zxy,JL,bR,2):=by
 apply u5;intro X cs i M b [rfl,[T,TP,j,TS],I,l,q];let[A,c]:=I.ob;let[dl,n]:=I.ly.ob;let[B,p]:=I.bk.bk.ob
 have d:b<BR X.n X.r X.c _ 3:=l;erw[bR,bR0_];refine KP TS (c) (p) (C8) (G9 TS (c) (n) (BZ) (OG j (I.ly) λu r=>?_))
 have e:=AL (o:=.tup [.int (X.n+b/X.w),.int<|b%X.w]) r;refine x9 _ _ _ _ cs _ u _ _ {rfl,T,TP,I.bk.same e,by rw[AE];simp[BH],λy v s w x=>?_,λz=>absurd (I.onPl  (by decide) d) z}
 have g:=e.trans x;exact q v s ((I.rp 3 _ v (by decide) d w).keep g.tk) g
example:(zxz,KL,Dc,3):=by
 apply u5;intro X cs o M z [rfl,d,I,q,p];let[x,g]:=I.ob;refine y2 {g,CB,x5 X cs _ M z {rfl,d,I,λy b=>?_}};cases e:cellOf M _ z with
 |none =>
  exact{by decide,p e _ b}
 |some cell =>
  let[i,k,j]:=VO e;refine y2 {b _ _ g,CB,x4 X cs _ M {rfl,d,I.same b,λl xs A r s u v=>?_}}
  have ex:=θ (by rw[u];exact i)
  have n:=v _ _ ex;rw[j]at n;let[t,w,c]:=n;exact CH (SqL.of s) rfl ex (by rw[w];exact BT c  rfl rfl (q _ k e i j _<|b.trans r))
def Jz{X:SX}{cs:zE}{g:vC}{M:Hs}{cell c need:Nat}{z:Str}{nl:Addr}{ns:wE}{i:Hp}(w:CU K a)(I:X.at a H cs g M)(L:cell<X.m0)(j:cs.length<980)(hz:iz z=true)(s:Same H i)(N:i nl=some (.lst<|ns.map V.int))(O:ns.length<=60)(U:∀ x∈ns,known cs x)
  (q:U0 X a H cs g (M.put 0 cell (.nm z c) (LR ns)) Q) :
  bT3 K a (λ_=>E) (λ_=>E) (AX Q) [some (.ref X.S.st),some<|.int cell,some<|.str z,some<|.int c,some<|.int need,some<|.ref nl] i:=by
 have l:=w;let[T,TP,Y,TS]:=w;let[dx,y]:=I.ob;let[dl,el]:=I.ly.ob;let[db,eb]:=I.bk.bk.ob;erw[bT3_];refine KP TS (s _ _ y) (s _ _ eb) (C8) (G9 TS (s _ _ y) (s _ _ el) (BZ) (Jw Y (I.ly.same s) λu A=>?_))
 have p:=s.trans<|AL (o:=.tup [.int (0+cell/X.w),.int<|cell%X.w]) A
 have r:upd i u (.tup [.int (0+cell/X.w),.int<|cell%X.w]) u=some (.tup [.int (BH X.n X.r X.c X.w 0 cell),.int<|cell%X.w]):=by rw[AE];simp[BH]
 have d:=AL (o:=.tup [.int (0+cell/X.w),.int<|cell%X.w]) A _ _ N;revert p r d;generalize upd i u _=H3;refine λp r d=>{by decide,λt ht=>?_}
 have st:=AL (o:=.tup [V.str z,V.int c]) ht
 have B:=p.trans st
 have D:upd H3 t _ t=some (.tup [V.str z,V.int c]):=AE;refine IQ l (I.same B)  (x:=.nm z _) (by decide) (L) (st _ _ r) (st _ _ d) O (oA j rfl) U {_,D,by simp,λv J=>?_} ⟨t,rfl,D⟩ trivial λch H' I' sb=>q ch H' I' λb o e n=>sb _ _ (B _ _ e) n;simp only[aj,bt,or_false]at J;let rfl||rfl:=J
 exact hz
 trivial
example:(zx0,U1,bT,6):=by
 apply u8;intro X cs i M cell s need z [rfl,[T,TP,l,TS],I,n,u,b,hz,q];let[y,p]:=I.ob;erw[bT,bT0_];refine{by decide,λnl c=>?_}
 have d:=AL (o:=.lst [V.int need]) c;refine y3 {d _ _ p,TS.cl,TS.n3,_,cS,_,dS<|d _ _ I.tk,?_}
 have j:upd H nl _ nl=some (.lst [V.int need]):=AE
 have r:known cs _:={i0,dn.mpr u}
 cases e:BE i _ with
 |none =>
  rw[show FT _ z=[] by unfold FT;rw[e]]at q;exact Jz (ns:=[need]) ⟨T,TP,l,TS⟩ I n b hz d j (by simp) (λx g=>by rw[aa.mp g];exact r) q
 |some v =>
  let[k,rfl,w]:=I.tv z v e;rw[show FT _ z=[k] by unfold FT;rw[e];rfl]at q;refine{.inl {rfl,_,SqL.of j},y3 {d _ _ p,TS.cl,TS.n3,_,cS,_,dS' (d _ _ I.tk) e,{_,j,(by show 1<sizeLine;decide),?_}}};rw[GE];refine Jz (ns:=[need,k]) ⟨T,TP,l,TS⟩ I n b hz (AL c) AE (by simp) (λx g=>?_) q;simp only[aj,bt,or_false]at g;let rfl||rfl:=g
  exact r;exact{i0,dn.mpr w}
def zx1(ps:xE):∀ v∈AQ ps,GoodV (n+1) H v:=λv b=>by
 let[p,z,rfl]:=ay.mp b
 trivial
def cV{H:Hp}{t u:Addr}{m:Nat}{ps:xE}(h1:H t=some (.tup [.int m,.ref u]))(h2:H u=some (.tup<|AQ ps))(c:ps.length<=100):GoodV 4 H (.ref t):=⟨_,h1,by simp,λv b=>by
 simp only[aj,bt,or_false]at b;let rfl||rfl:=b
 trivial
 exact{_,h2,by simp[AQ];exact c,zx1 ps}⟩
example:(zx2,Q3,Cj,5):=by
 apply mV;intro X cs U M c m i more ps nl ns [rfl,A,I,B,Y,j,l,en,hl,kn,p,q]
 have g:=A;let[T,TP,TL,TS]:=A;let[dx,r]:=I.ob;let[dl,el]:=I.ly.ob;let[db,eb]:=I.bk.bk.ob;refine y2 {r,CB,x5 X cs _ M _ {rfl,g,I,B,λv D J s=>?_}};rw[Y]at J;revert J;apply u2;intro t0 w [rfl,L,GD];erw[Cj1_];refine KP TS (s _ _ r) (s _ _ eb) (C8) (G9 TS (s _ _ r) (s _ _ el) (BZ) (OG TL (I.ly.same s) λu hu=>?_))
 have d:=AL (o:=.tup [.int (X.n+c/X.w),.int<|c%X.w]) hu
 have y:upd D u (.tup [.int (X.n+c/X.w),.int<|c%X.w]) u=some (.tup [.int (BH X.n X.r X.c X.w 3 c),.int<|c%X.w]):=by rw[AE];simp[BH]
 revert d y;generalize upd D u _=H2;refine λd y=>BT (d _ _ L)  rfl rfl (BT (d _ _ L)  rfl rfl {by decide,λt ht=>?_});rw[j]
 have st:=AL (o:=.tup [V.int i,V.ref w]) ht
 have z:=(s.trans d).trans st
 have N:upd H2 t _ t=some (.tup [V.int i,V.ref w]):=AE
 have O:=st _ _<|d _ _ GD;exact IQ g (I.same z)  (x:=.rc i ps) (by decide) (B) (st _ _ y) (z _ _ en) hl (oA p rfl) kn (cV N O l) (x2 t w ⟨rfl,N,O⟩) trivial λch H' I' sb=>q ch H' I' λb o e n=>sb _ _ (z _ _ e) n
example:(zx3,U2,bZ,4):=by
 apply mV;intro X cs L M c m ps N j nl ns [rfl,y,I,z,O,l,p,U,Y,kn,r,q]
 have d:=y;let[T,TP,TL,TS]:=y;let[dx,s]:=I.ob;let[dl,el]:=I.ly.ob;let[db,eb]:=I.bk.bk.ob;erw[bZ,bZ0_];refine KP TS (s) (eb) (C8) (G9 TS (s) (el) (BZ) (OG TL (I.ly) λu hu=>?_))
 have g:=AL (o:=.tup [.int (X.n+c/X.w),.int<|c%X.w]) hu
 have w:upd H u (.tup [.int (X.n+c/X.w),.int<|c%X.w]) u=some (.tup [.int (BH X.n X.r X.c X.w 3 c),.int<|c%X.w]):=by rw[AE];simp[BH]
 revert g w;refine λg w=>y2 {g _ _ s,CB,x5 X cs _ M _ {rfl,d,I.same g,z,λv H3 A B=>?_}};rw[O]at A;revert A;apply u2;intro t0 u0 [rfl,GY,GD];refine BT GY  rfl rfl {by decide,λt ht=>?_}
 have st:=AL (o:=.tup [V.int m,V.ref j]) ht
 have i:=(g.trans B).trans st
 have D:upd H3 t _ t=some (.tup [V.int m,V.ref j]):=AE
 have J:=i _ _ l;exact IQ d (I.same i)  (x:=.rc m _) (by decide) (z) (st _ _<|B _ _ w) (i _ _ U) Y (oA r rfl) kn (cV D J p) (x2 t j ⟨rfl,D,J⟩) trivial λch H' I' sb=>q ch H' I' λb o e n=>sb _ _ (i _ _ e) n
def OH{α b c :Type}{F: α -> b ->Prop}{G: α -> c ->Prop}{f: b -> c}:∀ {l:List α} {m:List b},Paired F l m->(∀ x y,F x y->G x (f y))->Paired G l (m.map f):=λh k=>by
 induction h with
 |nil=>exact .nil
 |cons h t d=>exact .cons (k _ _ h) d
def VQ{j:TE}{l:xE}{d:St}{b:Addr}{xs:cF}(v:xs.length<=sizeLine)(Pv:Nat->cF->Hp->Prop)(h0:Pv 0 [] H)(r:∀ i ys H,i<=xs.length->Pv i ys H->SqT K H b xs)
  (hs:∀ i x ys H,xs[i]? =some x->ys.length=i->Pv i ys H->j (some x::C0 l d) H λy s=>Pv (i+1) (ys++[y]) s)
  (hd:∀ ys H,ys.length=xs.length->Pv xs.length ys H->∀ p,H p=none->Q (.ref p) (upd H p<|.lst ys)) :
  EI (IX K b) (AG 0) CQ j 1 l d H Q:=by
 refine{λi m c ys H=>m=xs.length-i/\i<=xs.length/\ys.length=i/\(∃ n,c=n::C0 _ d)/\Pv i ys H,{xs.length,rfl,bh _,rfl,⟨_,rfl⟩,h0},?_};intro i m c ys H [rfl,u,g,[n,rfl],p]
 have q:=r i ys H u p;by_cases o:i<xs.length;refine .inr {x2 xs (xs[i]) {q,by simp[o]},by lia,λx w y=>?_};let[rfl,y]:=y;refine{_,λy z q=>{_,by lia,rfl,o,?_,⟨_,rfl⟩,q},hs i x ys _ (y xs q) g p};rw[ai,je,g]
 have e:i=xs.length:=by lia
 subst e;exact .inl {{xs,q,ο _},hd ys H g p}
section
variable{X:SX}{cs:zE}{tks:vC}{M:Hs}
def SM.lput{l:Addr}{xs ys:cF}(I:X.at a H cs tks M)(e:H l=some (.lst xs))(f:¬ X.S.A.F l):X.at a (upd H l<|.lst ys) cs tks M:=by
 have s:SameBut _ H (upd H l<|.lst ys):=λy o r n=>by rw[AI n];exact r
 have g:∀ x,x=l->ER _:=λx b=>by rw[b];exact QR e
 have tk:=KO s g;let[[u,j],p,w,q,B,D,J,L,N,c,d,i]:=I;let[dl,O]:=p.ob;exact{{u,s _ _ j (BI j e (by intro z;cases z))},p.sb s (BI O e (by intro z;cases z)),w.sb s g λx b=>by rw[b];exact f,s _ _ q (BI q e (by intro z;cases z)),B,D,J,L,N.keep tk,λkind k v h1 h2 T=>(c _ k v h1 h2 T).keep tk,d,i.keep tk}
def SM.taken(I:X.at a H cs tks M)(q:k<cs.length)(r:tks.length<cs.length):X.at a (upd H X.S.tk<|.dK<|CD tks (.inr z) (.int k)) cs (CD tks (.inr z) (.int k)) M:=by
 have s:SameBut _ H (upd H X.S.tk<|.dK<|CD tks (.inr z) (.int k)):=λy o u n=>by rw[AI n];exact u
 have g:∀ x,x=X.S.tk->ER _:=λx b=>by rw[b];exact QS I.tk
 have tk:=KO s g;let[[w,i],j,A,l,O,B,p,D,J,c,d,e]:=I;let[dl,L]:=j.ob;refine{{w,s _ _ i (BI i l (by intro z;cases z))},j.sb s (BI L l (by intro z;cases z)),A.sb s g λx b=>by rw[b];exact p,AE,ψ (HK ..) (r),λy v h=>?_,p,D,J.keep tk,λkind k v h1 h2 N=>(c _ k v h1 h2 N).keep tk,d,e.keep tk};rw[HJ]at h;split at h;obtain rfl:=ι h;exact⟨k,rfl,q⟩;exact B y v h
end
example:(zx4,U3,cB,4):=by
 apply u8;intro X cs v M cell z nl ns [rfl,p,I,w,A,B,D,J,b,q]
 have c:=p;let[dx,g]:=I.ob;let[dl,L]:=I.ly.ob;let[T,TP,N,TS]:=p;let[db,O]:=I.bk.bk.ob;erw[cB,cB0_];refine y3 {g,TS.cl,TS.n2,_,HV,y2 {O,C8,y3 {g,TS.cl,TS.n1,_,IP,y2 {L,BZ,y2 {g,CB,x5 X cs _ M z {rfl,c,I,λU r=>?_}}}}}};rw[w];refine x6 _ _ _ _ _ _ {rfl,N,I.ly.same r,λu Y=>?_}
 have i:upd U u (.tup [.int (0+cell/X.w),.int<|cell%X.w]) u=some (.tup [.int (BH X.n X.r X.c X.w 0 cell),.int<|cell%X.w]):=by rw[AE];simp[BH]
 have d:=r.trans<|AL (o:=.tup [.int (0+cell/X.w),.int<|cell%X.w]) Y;revert i d;refine λi d=>IQ c (I.same d)  (x:=.no) (by decide) (A) i (d _ _ B) D (oA b rfl) J trivial rfl trivial λch H3 j sb=>?_;let[dx3,l]:=j.ob
 have s:=I.tl;refine y3 {l,TS.cl,TS.n3,_,cS,_,pS j.tk<|oD (cf s b) rfl,(q ch _ (j.taken (by simp) (by simp;exact xk s)) λy o e n=>?_)};rw[AI λy=>n<|.inr y];exact sb _ _ (d _ _ e) λy=>n<|.inl y
def drI(a:Ad)(X:SX)(cs:zE)(c:vC)(M:Hs)(b gone:Nat)(j d:Addr)(e:List (Nat × Nat))(l:Hp)(i:Nat)(n:St)(g:Hp):Prop:=(∃ ex,ex.length=i+1/\X.at a g (cs++ex) c ((e.take i).foldl (λ(M:Hs) (y:Nat × Nat)=>M.put y.1 y.2 (.mk 0) [cs.length]) (M.put 3 b .no [gone]))/\g d=some (.lst (AQ ((ρ<|i+1).map (cs.length+·))))/\SameBut (λx=>X.S.A.F x\/x=d) l g)/\∃ o,n=[some (.ref X.S.st),some<|.int b,some<|.int gone,some<|.ref j,some<|.int cs.length,some<|.ref d,o]
example:(zx6,ZU,Cv,7):=by
 apply u8;intro X cs tks M c m gone ps [rfl,T4,I,hr,eM,hg,hps,B9,hcs,q]
 have T4':=T4;let[dx,ho]:=I.ob;let[T,TP,TL,TS]:=T4;refine y2 {ho,CB,x5 X cs _ M _ {rfl,T4',I,hr,λv H1 rv s=>?_}};rw[eM]at rv;revert rv;apply u2;intro t0 u0 [rfl,GY,GD]
 have I1:=I.same s;refine BT GY  rfl rfl ?_;let[dx1,ho1]:=I1.ob;let[dl1,el1]:=I1.ly.ob;let[db1,eb1]:=I1.bk.bk.ob;erw[Cv1_];refine KP TS (ho1) (eb1) (C8) (G9 TS (ho1) (el1) (BZ) (OG TL (I1.ly) λu hu=>{by decide,λnl hnl=>?_}))
 have sb:=AL (o:=.lst [V.int gone]) hnl
 have eu:=sb _ _ (show upd H1 u _ u=some (.tup [.int (BH X.n X.r X.c X.w 3 c),.int<|c%X.w]) by rw[AE];simp[BH])
 have en:upd (upd H1 u<|.tup [.int (X.n+c/X.w),.int<|c%X.w]) nl _ nl=some (.lst<|[(gone:Int)].map V.int):=AE
 have s2:=(AL  hu).trans sb;revert eu en s2;refine λeu en s2=>IQ T4' (I1.same s2)  (x:=.no) (by decide) (hr) eu en (by simp) (oA hcs rfl) (λx l=>by rw[aa.mp l];exact{i0,dn.mpr hg}) trivial rfl trivial λch H3 I3 R7=>?_;erw[Cv2_];refine{by decide,λml hml=>?_}
 have sm:=AL (o:=.lst [V.int cs.length]) hml
 have I4:=I3.same sm
 have fml:=I3.bk.off hml
 have eu4:=sm _ _<|(KO R7 λx l=>(I1.same s2).bk.loose l) _ _ (s2 _ _ GD)
 have B:upd H3 ml _ ml=some (.lst [V.int cs.length]):=AE
 have hmlH:H ml=none:=by
  cases e:H ml with
  |none=>rfl
  |some o=>have:=R7 _ _ (s2 _ _<|s _ _ e) fml;rw[hml]at this;cases this
 have sb4:SameBut _ H _:=λy o e n=>sm _ _<|R7 _ _ (s2 _ _<|s _ _ e) n;revert I4 eu4 B sb4;generalize upd H3 ml _=H4;intro I4 eu4 B sb4;let[dx4,ho4]:=I4.ob;let[dl4,el4]:=I4.ly.ob;erw[Cv4_];refine .inr {{_,SqT.of eu4},VQ  (BQ _ (by simp[AQ];exact oA B9 rfl)) (λi ys H'=>Same H4 H'/\∃ us:List _,ys=us.map V.ref/\Paired (λu p=>H' u=some (.tup [.int (BH X.n X.r X.c X.w 2 p),.int<|p%X.w])) us (ps.take i)) {Same.refl _,[],rfl,.nil} (λi ys H' j ⟨s',_⟩=>SqT.of<|s' _ _ eu4) (λi x ys H' l D g=>?_) (λys H' D g lc hlc=>?_)};let[s',us,ey,pu]:=g;unfold AQ at l;rw[υ,af]at l;let[p,ep,rfl]:=l;erw[C0];refine y3 {s' _ _ ho4,TS.cl,TS.n1,_,IP,y2 {s' _ _ el4,BZ,x6 _ _ _ _ _ p {rfl,TL,I4.ly.same s',λu' J=>?_}}}
 have su:=AL (o:=.tup [.int (X.n+X.r+X.c+X.r+(p:Int)/X.w),.int<|(p:Int)%X.w]) J;refine{s'.trans su,us++[u'],by rw[ey,av];rfl,?_};rw[cw,ep];exact Paired.snoc (Paired.mapP pu λt r z=>su _ _ z) (by rw[AE];simp[BH]);let[s',us,rfl,pu]:=g;rw[show(AQ ps).length=ps.length by simp[AQ],ca]at pu
 have sc:=AL (o:=.lst<|us.map V.ref) hlc
 have s5:=s'.trans sc;refine G9 TS (s5 _ _ ho4) (s5 _ _ el4) (BZ) (Jy TL (I4.ly.same s5) λd hur=>{by decide,λlr hlr=>.inl ?_})
 have se:=AL (o:=.lst [V.ref d]) hlr
 have sd:=AL (o:=.tup [.int (X.n+X.r+X.c+(c:Int)/X.w),.int<|(c:Int)%X.w]) hur;refine x4 lc lr _ _ {rfl,rfl,se _ _<|sd _ _ AE,AE,BQ _ (by have:=pu.length;simp;exact oA (ψ (ba this) B9) rfl),λl2 DC=>?_}
 have sf':=AL (o:=.lst<|us.map V.ref++[V.ref d]) DC
 have er:upd (upd (upd (upd H' lc<|.lst<|us.map V.ref) d (.tup [.int (X.n+X.r+X.c+(c:Int)/X.w),.int<|(c:Int)%X.w])) lr (.lst [V.ref d])) l2 (.lst<|us.map V.ref++[V.ref d]) d=some (.tup [.int (BH X.n X.r X.c X.w 1 c:Nat),.int (c%X.w:Nat)]):=(se.trans sf') _ _ (by rw[AE];simp[BH])
 have sg:=(sd.trans se).trans sf'
 have hl2F:¬ X.S.A.F l2:=by
  have:=((I4.same s5).same (sd.trans se)).bk.off DC;exact this
 have L:upd (upd (upd (upd H' lc<|.lst<|us.map V.ref) d (.tup [.int (X.n+X.r+X.c+(c:Int)/X.w),.int<|(c:Int)%X.w])) lr (.lst [V.ref d])) l2 (.lst<|us.map V.ref++[V.ref d]) l2=some (.lst<|(us++[d]).map V.ref):=by rw[AE];simp
 have s6:=s5.trans sg
 have nlm:=(BJ (se _ _<|sd _ _<|s5 _ _ B) DC).symm
 have PP:Paired (λu (y:Nat × Nat)=>upd (upd (upd (upd H' lc<|.lst<|us.map V.ref) d (.tup [.int (X.n+X.r+X.c+(c:Int)/X.w),.int<|(c:Int)%X.w])) lr (.lst [V.ref d])) l2 (.lst<|us.map V.ref++[V.ref d]) u=some (.tup [.int (BH X.n X.r X.c X.w y.1 y.2:Nat),.int (y.2%X.w:Nat)])) (us++[d]) (ps.map (λp=>(2,p))++[(1,c)]) :=
  Paired.snoc (OH pu λu p z=>sg _ _<|sc _ _ z) er
 revert s6 L PP;generalize upd (upd (upd (upd H' lc<|.lst<|us.map V.ref) d (.tup [.int (X.n+X.r+X.c+(c:Int)/X.w),.int<|(c:Int)%X.w])) lr (.lst [V.ref d])) l2 (.lst<|us.map V.ref++[V.ref d])=H6;intro L s6 PP;generalize us++[d]=vs at L PP
 have N:∀ y∈ps.map (λp=>(2,p))++[(1,c)],(y.1=1\/y.1=2)/\y.2<BR X.n X.r X.c X.w y.1:=λy hy=>by
  let hy||hy:=bc.mp hy
  ·let[p,hp,rfl]:=ay.mp hy;exact{.inr rfl,by simpa [BR]using hps p hp}
  ·rw[aa.mp hy];exact{.inl rfl,by simpa [BR]using hr}
 have D:(ps.map (λp=>((2:Nat),p))++[(1,c)]).length=ps.length+1:=by simp
 have O:(ps.map (λp=>(2,p))++[(1,c)]).foldl (λ(M:Hs) (y:Nat × Nat)=>M.put y.1 y.2 (.mk 0) [cs.length]) (M.put 3 c .no [gone])=((M.put 3 c .no [gone]).unmark cs.length ps).put 1 c (.mk 0) [cs.length]:=by
  rw[k_,List.foldl_map];rfl
 revert N D O PP;generalize ps.map (λp=>((2:Nat),p))++[(1,c)]=w;intro PP N D O;refine(.inl ⟨{_,SqL.of L},GZ (xs:=vs.map V.ref) (drI a X cs tks M c gone u0 ml w H6)
  {{[ch],rfl,I4.same s6,by rw[s6 _ _ B];simp[AQ,bz],λy o e j=>e},_,rfl} (λi σ H' j {⟨_,_,_,_,sb'⟩,_}=>SqL.of<|sb' _ _ L ?_) (λi x σ H7 l g=>?_) (λσ H7 g=>?_)⟩)
 rintro (y|y);exact hl2F y;exact nlm y;let[[ex,R9,I7,U,sb7],y6,rfl]:=g
 have hi:=(ζ.mp l).1;rw[ε]at hi
 have hip:i<w.length:=by rw[<-PP.length];exact hi
 have ey:=θ hip;let[u',eu',J]:=JB PP ey;rw[υ,eu']at l;obtain rfl:=ι l;let[Y,hky]:=N _<|η ey
 have etk:w.take (i+1)=w.take i++[w[i]]:=by rw[cw,ey];rfl
 revert etk Y hky J;generalize w[i]=y;intro J Y hky etk;let[dx7,ho7]:=I7.ob;let[db7,eb7]:=I7.bk.bk.ob;erw[Cv3_]
 have k67:∀ b xs,H6 b=some (.tup xs)->H7 b=some (.tup xs):=λb xs e=>sb7 _ _ e λz=>z.elim (λz=>((I4.same s6).bk.loose z).1 _ e) λz=>by rw[z,s6 _ _ B]at e;cases e
 refine{.inl {rfl,_,SqL.of U},y3 {ho7,TS.cl,TS.n2,_,HV,y2 {eb7,C8,by decide,λn8 hn8=>?_}}}
 have s8:=AL (o:=.lst [V.int cs.length]) hn8;refine IQ (ns:=[(cs.length:Int)]) T4' (I7.same s8) (kind:=y.1) (x:=.mk 0) (by lia) hky (s8 _ _<|k67 _ _ J) AE (by simp) (by simp;lia) (λx l=>by rw[aa.mp l];exact{i0,by simp;lia}) trivial rfl (by let z||z:=Y<;>rw[z]<;>exact bh _) λch9 H9 I9 OS=>?_
 have em9:=OS _ _ (s8 _ _ U) fml;refine{_,em9,ω (show(AQ ((ρ<|i+1).map (cs.length+·))).length<1000 by simp[AQ];lia) (by decide),({{ex++[ch9],by simp[R9],by have:=I9.lput (ys:=AQ ((ρ<|i+1).map (cs.length+·))++[V.int ((cs++ex).length:Nat)]) em9 fml;rw[etk,k_,<-dw];exact this,by rw[AE];simp[AQ,bz,R9],λb o e n=>?_},_,rfl})};rw[AI λz=>n<|.inr z];exact OS _ _ (s8 _ _<|sb7 _ _ e n) λz=>n<|.inl z;let[[ex,R9,I7,U,sb7],y6,rfl]:=g
 have hvl:=PP.length;rw[ε,hvl,D]at R9 U;rw[ε,hvl,ca,O]at I7;exact q ex ml H7 hmlH U R9 I7 λy o e n=>(sb7 _ _ (s6 _ _<|sb4 _ _ e n) λy'=>y'.elim n λz=>by rw[z,hmlH]at e;cases e)
def M5{X:SX}{cs:zE}{c:vC}{M:Hs}{d:Hp}{l:Addr}(I:X.at a d cs c M)(sb:SameBut (λx=>X.S.A.F x\/x=X.S.tk) H d)(b:d l=none):H l=none:=by
 cases e:H l with
 |none=>rfl
 |some o =>
  have:=sb _ _ e λz=>z.elim (I.bk.off b) λz=>by rw[z,I.tk]at b;cases b
  rw[b]at this;cases this
example:(zx7,Q4,cC,6):=by
 apply u5;intro X cs tks M z [rfl,T4,I,hzl,j,q,q1,q2,q3];let[dx,r]:=I.ob
 have c:=T4
 have hm3:BR X.n X.r X.c X.w 3=X.r*X.w:=by simp[BR]
 erw[cC,cC0_];refine y2 {r,CB,by decide,λgl hgl=>?_}
 have s1:=AL (o:=.lst [V.str z]) hgl;refine x7 X cs _ M z gl [z] {rfl,T4,I.same s1,AE,by simp,λy hy=>by rw[aa.mp hy];exact hzl,λg s H2 v=>?_,λg H2 v=>q1 (by simpa using g) _ (s1.trans v),λg s H2 v=>q2 (by simpa using g) s _ (s1.trans v)}
 have g:BK z=true:=by simpa using g
 have w:=s1.trans v;let[T,TP,TL,TS]:=T4;refine y3 {w _ _ r,TS.cl,TS.n1,_,IP,y3 {w _ _ r,TS.cl,TS.n2,_,HV,x2 _ _ {rfl,VP c (I.same w) (by decide) (λb B KU H3 D=>?_) λB H3 D=>q3 g s (.inl<|B) _ (w.trans D)}}}
 have d:=w.trans D;refine y3 {d _ _ r,TS.cl,TS.n1,_,IP,y3 {d _ _ r,TS.cl,TS.n2,_,HV,x2 _ _ {rfl,VP c (I.same d) (by decide) (λcell ec BN H4 s4=>?_) λB H3 D=>q3 g s (.inr<|B) _ (d.trans D)}}}
 have J:=d.trans s4
 have L:=I.same J;let[dl4,el4]:=L.ly.ob;let[dx4,N]:=L.ob;let[db4,eb4]:=L.bk.bk.ob;erw[cC3_];refine KP TS (N) (eb4) (C8) (G9 TS (N) (el4) (BZ) (Jy TL (L.ly) λu hu=>{by decide,λl0 hl0=>?_}))
 have sb:=AL (o:=.lst []) hl0
 have eu:=sb _ _ (show upd H4 u _ u=some (.tup [.int (BH X.n X.r X.c X.w 1 b),.int<|b%X.w]) by rw[AE];simp[BH])
 have p:upd (upd H4 u<|.tup [.int (X.n+X.r+X.c+b/X.w),.int<|b%X.w]) l0 _ l0=some (.lst<|([]).map V.int):=AE
 have s5:=(AL (o:=.tup [.int (X.n+X.r+X.c+b/X.w),.int<|b%X.w]) hu).trans sb;revert eu p s5;refine λeu p s5=>IQ c (L.same s5)  (x:=.mk 1) (by decide) (KU) eu p (by simp) (oA j rfl) (λx hx=>by cases hx) trivial rfl (ο _) λc1 H6 O sb6=>?_;let[dx6,U]:=O.ob;let[dl6,el6]:=O.ly.ob;let[db6,eb6]:=O.bk.bk.ob;erw[cC4_];refine KP TS (U) (eb6) (C8) (G9 TS (U) (el6) (BZ) (OG TL (O.ly) λu2 hu2=>({by decide,λe6 he6=>{by decide,λt6 ht6=>{by decide,λl6 hl6=>?_}}})))
 have sc:=AL (o:=.tup [.int 1,.ref e6]) ht6
 have sd:=AL (o:=.lst [.int cs.length]) hl6
 have sb:=AL (o:=.tup []) he6
 have i:=(((AL  hu2).trans sb).trans sc).trans sd
 have f1:=sd _ _ (sc _ _ (sb _ _ (show upd H6 u2 _ u2=some (.tup [.int (BH X.n X.r X.c X.w 3 b),.int<|b%X.w]) by rw[AE];simp[BH])))
 have f2:=sd _ _<|sc _ _<|AE   
 have f3:=sd _ _<|AE   
 have f4:=AE (H:=upd (upd (upd H6 u2<|.tup [.int (X.n+b/X.w),.int<|b%X.w]) e6 (.tup [])) t6 (.tup [.int 1,.ref e6])) (a:=l6) (o:=.lst [.int cs.length]);revert i f1 f2 f3 f4;refine λi f1 f2 f3 f4=>IQ (ns:=[cs.length]) c (O.same i)  (x:=.rc 1 []) (by decide) (by exact KU) f1 f4 (by simp) (by simp;exact oC j rfl) (λx hx=>by rw[aa.mp hx];exact{i0,by simp;exact Au _}) (cV (ps:=[]) f3 f2 (by simp)) (x2 t6 e6 ⟨rfl,f3,f2⟩) trivial λc2 H8 I8 sb8=>?_;let[dx8,ho8]:=I8.ob
 have CL:(cs++[c1]).length=cs.length+1:=by simp
 erw[cC5_];rw[CL];refine y2 {ho8,CB,x8 X _ _ _ _ _ _ z {rfl,c,I8,BN,by simp,by simp;exact oH j rfl,Jv g,λc3 H9 I9 OS=>{by decide,λl hl=>?_}}}
 have sl:=AL (o:=.lst [V.int cs.length,V.int<|cs.length+1,V.int<|(cs++[c1]++[c2]).length]) hl
 have Y:SameBut (λx=>X.S.A.F x\/x=X.S.tk) H H9:=λy o e n=>OS _ _ (sb8 _ _ (i _ _<|sb6 _ _ (s5 _ _<|J _ _ e) λz=>n<|.inl z) λz=>n<|.inl z) λz=>n<|.inl z;exact q g s _ _ B ec KU BN _ l _ rfl (M5 I9 Y hl) (by rw[AE];simp[AQ,bz]) (by simpa using (I9.same sl)) λy o e n=>sl _ _<|Y _ _ e n
example:(zx8,N5,cD,6):=by
 apply u6;intro X cs tks M y z [rfl,J,I,L,N,i,q,q1,q2,q3,q4]
 have d:=J;let[dx,j]:=I.ob;erw[cD,cD0_];refine y2 {j,CB,by decide,λgl O=>?_}
 have v:=AL (o:=.lst [V.str y,V.str z]) O;refine x7 X cs _ M z gl [y,z] {rfl,J,I.same v,AE,by simp,λx w=>?_,λb p H2 r=>?_,λb H2 r=>q1 (by simpa using b) _ (v.trans r),λb p H2 r=>?_};simp only[aj,bt,or_false]at w;let rfl||rfl:=w
 exact L;exact N
 have b:BK y=true/\BK z=true:=by simpa using b
 have B:=v.trans r;let[T,TP,TL,TS]:=J;refine y2 {B _ _ j,CB,x5 X cs _ M y {rfl,d,I.same B,λold rec D U eM H3 s=>?_,λD H3 s=>q3 b.1 b.2 p D _<|B.trans s}}
 have c:=B.trans s;refine y3 {c _ _ j,TS.cl,TS.n1,_,IP,y3 {c _ _ j,TS.cl,TS.n2,_,HV,x2 _ _ {rfl,VP d (I.same c) (by decide) (λcell ec BN H4 s4=>?_) λer H3 s=>q4 b.1 b.2 p ⟨_,D⟩ (er) _ (c.trans s)}}};let[hr,m,ps,eR,Y,q]:=q b.1 b.2 p _ _ _ D U eM
 have g:=c.trans s4;refine y2 {g _ _ j,CB,by decide,λl0 hl0=>?_}
 have s5:=AL (o:=.lst []) hl0;refine OU X cs _ M _ m _ 1 ps l0 [] {rfl,d,(I.same g).same s5,hr,eR,rfl,Y,AE,by simp,(λx w=>by cases w),oA i rfl,λc1 H6 I6 sb6=>?_};let[dx6,ho6]:=I6.ob;erw[cD4_];refine y2 {ho6,CB,x8 X _ _ _ _ _ _ z {rfl,d,I6,BN,by simp,by simp;exact oC i rfl,Jv b.2,λc2 H7 I7 sb7=>{by decide,λl hl=>?_}}}
 have sl:=AL (o:=.lst [V.int cs.length,V.int<|(cs++[c1]).length]) hl
 have u:SameBut (λx=>X.S.A.F x\/x=X.S.tk) H H7:=λy o e n=>sb7 _ _ (sb6 _ _ (s5 _ _<|g _ _ e) λz=>n<|.inl z) λz=>n<|.inl z;exact q ec BN _ l _ rfl (M5 I7 u hl) (by rw[AE];simp[AQ,bz]) (by simpa using (I7.same sl)) λy o e n=>sl _ _<|u _ _ e n
 have b:BK y=true/\BK z=true:=by simpa using b
 exact q2 b.1 b.2 p _<|v.trans r
def zx9(n d:Nat):AQ ((ρ<|d+1).map (n+·))=[V.int n]++AQ ((ρ d).map (n+1+·)):=by
 rw[yw];simp[AQ,fg,ug 1]
example:(zya,Q5,Dv,4):=by
 apply u5;intro X cs tks M z [rfl,r,I,g,q,q1];let[dx,ho]:=I.ob;refine y2 {ho,CB,x5 X cs _ M z {rfl,r,I,λcell rec ec BN eM H1 D=>?_,λeo H3 s3=>q1 eo _ s3}};let[J,m,ps,eR,L,B9,q2,q3]:=q _ _ ec BN eM;refine y2 {D _ _ ho,CB,by decide,λl0 N=>?_}
 have s2:=AL (o:=.lst []) N;refine x8 X cs _ M _ z l0 [] {rfl,r,(I.same D).same s2,ec,BN,AE,by simp,(λx O=>by cases O),oA g rfl,λT H3 U R7=>?_}
 have sb:SameBut (λx=>X.S.A.F x\/x=X.S.tk) H H3:=λy o e n=>R7 _ _ (s2 _ _<|D _ _ e) n
 have i:(M.put 0 cell .no<|LR []) 3 _=.rc m ps:=eR;let[dx3,j]:=U.ob;refine y2 {j,CB,x5 X _ _ _ _ {rfl,r,U,J,λv H4 rv s=>?_}};rw[i]at rv;revert rv;apply u2;intro t0 u0 [rfl,GY,GD]
 have Y:=U.same s;refine BT GY  rfl rfl ?_;erw[];split;rename_i hm;erw[Dv2_];refine y2 {s _ _ j,CB,by decide,λl5 c=>?_}
 have p:=AL (o:=.lst [V.int cs.length]) c;refine OU X _ _ _ _ m (m-1) _ ps l5 [cs.length] {rfl,r,Y.same p,J,i,by lia,oA B9 rfl,AE,by simp,(λx O=>by rw[aa.mp O];exact{i0,by simp;exact Au _}),by simp;exact oC g rfl,λc2 H6 u d=>{by decide,λl hl=>?_}}
 have w:=AL (o:=.lst [V.int cs.length,V.int<|(cs++[T]).length]) hl
 have b:SameBut (λx=>X.S.A.F x\/x=X.S.tk) H H6:=λy o e n=>d _ _ (p _ _<|s _ _<|sb _ _ e n) λz=>n<|.inl z;exact q2 (dn.mp hm) _ l _ rfl (M5 u b hl) (by rw[AE];simp[AQ,bz]) (by simpa using (u.same w)) λy o e n=>w _ _<|b _ _ e n;erw[Dv4_];refine{by decide,λl5 c=>?_}
 have p:=AL (o:=.lst [V.int cs.length]) c;refine y2 {p _ _<|s _ _ j,CB,x8 X _ _ _ _ m _ ps {rfl,r,(Y.same p),J,i,by simp,L,B9,by simp;exact oC g rfl,λex l H6 hl6 el6 hex u d=>.inl (x4 l5 l _ _ {rfl,rfl,d _ _ AE<|Y.bk.off c,el6,BQ _ (by simp[AQ];lia),λl7 B=>?_})}}
 have w:=AL (o:=.lst ([V.int cs.length]++AQ ((ρ<|ps.length+2).map ((cs++[T]).length+·)))) B
 have b:SameBut (λx=>X.S.A.F x\/x=X.S.tk) H H6:=λy o e n=>d _ _ (p _ _<|s _ _<|sb _ _ e n) λz=>n<|.inl z;exact q3 (by lia) (T::ex) l7 _ (by simp[hex]) (M5 u b B) (by rw[AE,zx9 _<|ps.length+2];simp) (by simpa using (u.same w)) λy o e n=>w _ _<|b _ _ e n
def cat_tup(h1:H b=some (.tup xs))(h2:H d=some (.tup ys))(i:ys≠[])(j:xs.length+ys.length<=1000)(q:∀ p c,Same H c->c p=some (.tup<|xs++ys)->Q (.ref p) c):BF K (.ref b) (.ref d) H Q:=by
 by_cases g:xs=[];subst g;exact .inr<|.inr<|x3 b d ys {rfl,rfl,SqT.of h1,SqT.of h2,q d H (Same.refl _) h2};exact .inr<|.inl<|x4 b d xs ys {rfl,rfl,SqT.of h1,SqT.of h2,g,BQ _<|oA j rfl,λe=>absurd e i,λz p l=>q p _ (AL l) AE}
example:(zyb,Q6,Dz,7):=by
 apply u6;intro X cs tks M z t [rfl,T4,I,htl,hts,g,q,q1,q2,q3]
 have b:=T4;let[dx,ho]:=I.ob;refine y2 {ho,CB,x5 X cs _ M z {rfl,T4,I,λcell rec ec BN eM H1 s1=>?_,λeo H3 s3=>q1 eo _ s3}};let[T,TP,TL,TS]:=T4;refine{t,rfl,htl,λH2 s2=>?_}
 have c:=s1.trans s2;cases hb:G6 t with
 |false =>
  exact{by decide,q2 ⟨_,ec⟩ hb _ c}
 |true =>
  refine y3 {c _ _ ho,TS.cl,TS.n1,_,IP,y3 {c _ _ ho,TS.cl,TS.n2,_,HV,x2 _ _ {rfl,VP b (I.same c) (by decide) (λp ep B9 H4 s4=>?_) λer H3 s3=>q3 ⟨_,ec⟩ hb (er) _ (c.trans s3)}}};let[hr,m,ps,eR,r,q]:=q _ _ ec BN eM hb p ep B9
  have s:=c.trans s4
  have w:=I.same s;let[dx4,B]:=w.ob;let[dl4,el4]:=w.ly.ob;let[db4,eb4]:=w.bk.bk.ob;erw[Dz4_];refine KP TS (B) (eb4) (C8) (G9 TS (B) (el4) (BZ) (lPM TL (w.ly) λu hu=>{by decide,λl0 hl0=>?_}))
  have sb:=AL (o:=.lst []) hl0
  have j:=AL (o:=.tup [.int (X.n+X.r+X.c+X.r+p/X.w),.int<|p%X.w]) hu
  have eu:=sb _ _ (show upd H4 u _ u=some (.tup [.int (BH X.n X.r X.c X.w 2 p),.int<|p%X.w]) by rw[AE];simp[BH])
  have i:upd (upd H4 u<|.tup [.int (X.n+X.r+X.c+X.r+p/X.w),.int<|p%X.w]) l0 _ l0=some (.lst<|([]).map V.int):=AE
  have s5:=j.trans sb;revert eu i s5;refine λeu i s5=>IQ b (w.same s5)  (x:=.mk 1) (by decide) (B9) eu i (by simp) (oA g rfl) (λx D=>by cases D) trivial rfl (ο _) λc1 H6 J sb6=>?_;let[dx6,L]:=J.ob;let[dl6,el6]:=J.ly.ob;let[db6,eb6]:=J.bk.bk.ob;erw[Dz5_];refine KP TS (L) (eb6) (C8) (G9 TS (L) (el6) (BZ) (Jx TL (J.ly) λu2 hu2=>{by decide,λl6 hl6=>?_}))
  have sb:=AL (o:=.lst [.int cs.length]) hl6
  have f1:=sb _ _ (show upd H6 u2 _ u2=some (.tup [.int (BH X.n X.r X.c X.w 4 p),.int<|p%X.w]) by rw[AE];simp[BH])
  have j:=AL (o:=.tup [.int (X.n+X.r+p/X.w),.int<|p%X.w]) hu2
  have f4:=AE (H:=upd H6 u2<|.tup [.int (X.n+X.r+p/X.w),.int<|p%X.w]) (a:=l6) (o:=.lst [.int cs.length])
  have d:=j.trans sb;revert d f1 f4;refine λf1 f4 d=>IQ (ns:=[cs.length]) b (J.same d)  (x:=.tx t) (by decide) (by exact B9) f1 f4 (by simp) (by simp;exact oC g rfl) (λx D=>by rw[aa.mp D];exact{i0,by simp;exact Au _}) hts rfl trivial λc2 H8 I8 sb8=>?_;let[dx8,N]:=I8.ob
  have O:((M.put 2 p (.mk 1) (LR [])).put 4 p (.tx t) (LR [cs.length])) 3 rec=.rc m ps:=eR;erw[Dz6_];refine y2 {N,CB,y2 {N,CB,x5 X _ _ _ _ {rfl,b,I8,hr,λv H9 rv s9=>?_}}};rw[O]at rv;let[t0,u0,rfl,GY,GD]:=rv;refine BT GY  rfl rfl {by decide,λt9 ht9=>?_}
  have j:=AL (o:=.tup [V.int p]) ht9;refine cat_tup (j _ _ GD) AE (by simp) (by simp[AQ];exact oA r rfl) λpp H10 s10 epp=>{by decide,λl10 U=>?_}
  have sc:=AL (o:=.lst [V.int ((cs++[c1]).length)]) U
  have c:=((s9.trans j).trans s10).trans sc;refine OU X _ _ _ _ m ps (ps++[p]) pp _ [((cs++[c1]).length)] {rfl,b,I8.same c,hr,O,sc _ _ (by rw[epp];simp[AQ]),by simp;exact oA r rfl,AE,by simp,(λx D=>by rw[aa.mp D];exact{i0,by simp}),by simp;exact oH g rfl,λc3 H13 Y sb13=>{by decide,λl hl=>?_}}
  have sl:=AL (o:=.lst [V.int cs.length,V.int<|(cs++[c1]).length,V.int<|(cs++[c1]++[c2]).length]) hl
  have sbH:SameBut (λx=>X.S.A.F x\/x=X.S.tk) H _:=λy o e n=>sb13 _ _ (c _ _<|sb8 _ _ (d _ _<|sb6 _ _ (s5 _ _<|s _ _ e) λz=>n<|.inl z) λz=>n<|.inl z) λz=>n<|.inl z;exact q _ l _ rfl (M5 Y sbH hl) (by rw[AE];simp[AQ,bz]) (by simpa using (Y.same sl)) λy o e n=>sl _ _<|sbH _ _ e n
example:(zyc,U4,Eg,3):=by
 apply u5;intro X cs tks M z [rfl,U,I,q,q1]
 have d:=U;let[dx,r]:=I.ob;let[dl,el]:=I.ly.ob;let[db,eb]:=I.bk.bk.ob;let[T,TP,TL,TS]:=U;refine y2 {r,CB (by decide),y2 {r,CB (by decide),x5 X cs _ M z {rfl,d,I,λcell rec ec BN eM H1 Y=>?_,λeo H3 w=>q1 eo _ w}}};let[hr,m,ps,eR,A,B,pt,q]:=q _ _ ec BN eM;refine x5 X cs _ M _ {rfl,d,I.same Y,hr,λv H2 e s2=>?_};rw[eR]at e;revert e;apply u2;intro t0 u0 [rfl,GY,GD]
 have D:=Y.trans s2;refine BT GY  rfl rfl (.inr {{_,SqT.of GD},VQ  (BQ _ (by simp[AQ];exact oA A rfl)) (λi ys s=>Same H2 s/\ys=(B.take i).map V.str) {Same.refl _,rfl} (λi ys s y ⟨b,_⟩=>SqT.of<|b _ _ GD) (λi x ys s J L c=>?_) (λys s L c lc g=>?_)});let[b,u]:=c;unfold AQ at J;rw[υ,af]at J;let[p,ep,rfl]:=J
 have N:i<B.length:=by have:=(ζ.mp ep).1;have:=pt.length;lia
 have j:=θ N;let[p',l,SB,eP]:=JB pt j;rw[ep]at l;obtain rfl:=ι l
 have hm:p<BR X.n X.r X.c _ 4:=SB
 have n:=D.trans b
 have I':=I.same n;refine y3 {n _ _ r,TS.cl,TS.n2,_,HV,y2 {n _ _ eb,C8 (by decide),y3 {n _ _ r,TS.cl,TS.n1,_,IP,y2 {n _ _ el,BZ (by decide),x6 _ _ _ _ _ p {rfl,TL,I'.ly,λu' O=>?_}}}}}
 have su:=AL (o:=.tup [.int (X.n+X.r+p/X.w),.int<|p%X.w]) O;refine x9 _ _ _ _ cs _ u' _ _ {rfl,T,TP,I'.bk.same su,by rw[AE];simp[BH],λy v H3 ev w=>?_,λz=>absurd (I.onPl  (by decide) hm) z}
 have e:=I.rp 4 p v (by decide) hm ev;rw[eP]at e;rw[e];refine{(b.trans su).trans w,?_};rw[cw,j,u,av]
 rfl;let[b,u]:=c
 have hl:(AQ ps).length=B.length:=by rw[<-pt.length];simp[AQ]
 rw[hl,ca]at u;subst u;exact q lc _ (D.free<|b.free g) ((D.trans b).trans (AL  g)) AE
def zyd(h1:H b=some (.tup xs))(h2:H d=some (.tup ys))(g:xs.length+ys.length<=1000)(q:∀ p c,Same H c->c p=some (.tup<|xs++ys)->Q (.ref p) c):BF K (.ref b) (.ref d) H Q:=by
 by_cases i:ys=[];subst i;by_cases j:xs=[];subst j;exact .inr<|.inr<|x3 b d [] {rfl,rfl,SqT.of h1,SqT.of h2,q d H (Same.refl _) h2};exact .inr (.inl (x4 b d xs [] {rfl,rfl,SqT.of h1,SqT.of h2,j,BQ _<|oA g rfl,λz=>q b H (Same.refl _) (by rw[h1];simp),λe=>absurd rfl e}));exact cat_tup h1 h2 i g q
example:(zye,Q7,Ed,6):=by
 apply u6;intro X cs tks M z x [rfl,s,I,b,q,q1]
 have c:=s;let[dx,J]:=I.ob;refine y2 {J,CB,x5 X cs _ M z {rfl,s,I,λcell L ec BN eM H1 N=>?_,λeo H3 s3=>q1 eo _ s3}};let[hr,m,ps,eR,hps,q2,q3]:=q _ _ ec BN eM;refine y2 {N _ _ J,CB,x5 X cs _ M L {rfl,s,I.same N,hr,λv H2 rv s2=>?_}};rw[eR]at rv;revert rv;apply u2;intro t0 u0 [rfl,GY,w]
 have B:=N.trans s2;refine BT GY  rfl rfl ?_;erw[Ed3_];split;rename_i h0;refine{ps.length,.inr {_,SqT.of w,by simp[AQ]},?_};split;exact{by decide,q2 (by lia) _ B};obtain⟨k,rfl⟩:∃ k:Nat,x=k:={_,(fu h0).symm}
 have O:k<ps.length:=by lia
 have ek:=θ O;let[hp,q3]:=q3 k _ rfl ek
 have e1:HT.sIx (AQ ps).length (AQ ps).length (some k)=k:=by
  simp[AQ];exact nq<|js O
 refine y2 {B _ _ J,CB,?_}
 have e2:HT.sIx (AQ ps).length 0 (some<|k+1)=k+1:=by
  simp[AQ];exact nq O
 have hnl:(AQ ps).length=ps.length:=by simp[AQ]
 refine .inr (x2 u0 _ {rfl,SqT.of w,λy=>by lia,λp1 OQ=>?_})
 have D:=AL (o:=.tup<|GJ (AQ ps) none (some k)) OQ;refine .inr (x2 u0 _ {rfl,SqT.of<|D _ _ w,λy=>by lia,λp2 JX=>?_})
 have sb:=AL (o:=.tup<|GJ (AQ ps) (some<|k+1) none) JX
 have U:GJ (AQ ps) none (some k)=AQ (ps.take k):=by rw[zj2 _ (i0),cj];simp[AQ]
 have c2:GJ (AQ ps) (some<|k+1) none=AQ (ps.drop<|k+1):=by rw[zj3 _ (by exact i0)];simp[AQ]
 rw[U,c2]at sb;rw[U]at D;rw[U,c2];refine zyd (sb _ _ AE) AE (by simp[AQ];lia) λpp H5 s5 Y=>{by decide,λl5 hl5=>?_}
 have sc:=AL (o:=.lst []) hl5
 have s6:=(((B.trans D).trans sb).trans s5).trans sc;refine OU X cs _ M _ m ps (ps.eraseIdx k) pp l5 [] {rfl,c,I.same s6,hr,eR,sc _ _ (by rw[Y,lz];simp[AQ]),(by rw[List.length_eraseIdx];split<;>lia),AE,by simp,(λx d=>by cases d),oA b rfl,λg H7 i j=>?_};let[T,TP,TL,TS]:=s;let[dx7,p]:=i.ob;let[dl7,el7]:=i.ly.ob;let[db7,eb7]:=i.bk.bk.ob;erw[Ed5_]
 have hm2:BR X.n X.r X.c X.w 2=X.c*X.w:=by simp[BR]
 refine y3 {p,TS.cl,TS.n2,_,HV,y2 {eb7,C8,y3 {p,TS.cl,TS.n1,_,IP,y2 {el7,BZ,BT ((KO j λx d=>(I.same s6).bk.loose d) _ _ ((((D.trans sb).trans s5).trans sc) _ _ w)) (n:=k) rfl (by unfold AQ;rw[υ,ek];rfl) (x6 X.S.lp X.n X.r X.c X.w (ps[k]) {rfl,TL,i.ly,λu hu=>{by decide,λl8 hl8=>?_}})}}}}
 have se:=AL (o:=.lst [.int cs.length]) hl8
 have sd:=AL (o:=.tup [.int (X.n+X.r+X.c+X.r+(ps[k]:Int)/X.w),.int<|(ps[k]:Int)%X.w]) hu;refine IQ (ns:=[(cs.length:Int)]) c (i.same<|sd.trans se) (kind:=2) (x:=.mk 0) (by decide) (by rw[hm2];exact hp) (se _ _ (show upd H7 u (.tup [.int (X.n+X.r+X.c+X.r+(ps[k]:Int)/X.w),.int<|(ps[k]:Int)%X.w]) u=some (.tup [.int (BH X.n X.r X.c X.w 2 ps[k]:Nat),.int (ps[k]%X.w:Nat)]) by rw[AE];simp[BH])) AE (by simp) (by simp;exact oC b rfl) (λx d=>by rw[aa.mp d];exact{i0,by simp;exact Au _}) trivial rfl (bh _) λc2' H9 I9 OS=>{by decide,λl hl=>?_}
 have sl:=AL (o:=.lst [V.int cs.length,V.int ((cs++[g]).length:Nat)]) hl
 have r:SameBut (λx=>X.S.A.F x\/x=X.S.tk) H H9:=λy o e n=>OS _ _ ((sd.trans se) _ _ (j _ _ (s6 _ _ e) λz=>n<|.inl z)) λz=>n<|.inl z;exact q3 [g,c2'] l _ rfl (M5 I9 r hl) (by rw[AE];simp[AQ,bz]) (by have:=I9.same sl;simpa using this) λy o e n=>sl _ _<|r _ _ e n;exact{by decide,q2 (by lia) _ B}
def OI{f:yD}{m k:Nat}(h:EU f m=k):f k=true:=by
 unfold EU at h;cases e:(ρ m).find? f with
 |none=>rw[e]at h;simp at h
 |some b =>
  rw[e]at h
  have:=Ix e
  have  :=ce h;subst this
  assumption
def zyf(b:y≠z)(d:G7 0 (M 0 cell)=true):cellOf ((M.put 3 c x i).put 0 cell (.nm z c) j) m y=cellOf M m y:=by
 refine cU λk v=>?_;unfold D1;by_cases g:k=cell;subst g;rw[Hs.put_at];cases e:M 0 k with
 |nm l n=>rw[e]at d;simp[G7]at d
 |_=>simp;exact λh=>b h.symm
 rw[Hs.put_at,if_neg<|λz=>g z.2,Hs.put_at,if_neg<|nE rfl]
example:(zyg,Q8,Ev,6):=by
 apply u6;intro X cs j M y z [rfl,O,I,Y,hzl,d,q,q1,q2,q3,q4];let[dx,ho]:=I.ob;refine y2 {ho,CB,x6 X cs _ M y z {rfl,O,I,Y,hzl,oA d rfl,λhy hz hc old c cell T p e0=>?_,q1,q2,q3,q4}};let[hr,m,ps,e3,r,q]:=q hy hz hc _ _ _ T p e0;refine{hr,x2 m ps {e3,r,λec BN ex l1 H1 hex DN s I1 sb1=>?_}}
 have fc:=OI ec
 have e01:((M.put 3 c (.rc (m+1) ps) []).put 0 cell (.nm z c) (cs.length::FT j z)) 0 old=.nm y c:=by rw[Hs.put_at,if_neg (λz=>(λh=>by rw[<-h,e0]at fc;simp[G7]at fc) z.2)];exact e0
 have g:cellOf ((M.put 3 c (.rc (m+1) ps) []).put 0 cell (.nm z c) (cs.length::FT j z)) X.m0 y=some old:=by rw[zyf (λh=>by rw[h,hc]at T;cases T) fc];exact T
 let[dx1,u]:=I1.ob
 have i:¬ X.S.A.F l1/\l1≠X.S.tk:={λz=>(I.bk.off DN) z,λz=>by rw[z,I.tk]at DN;cases DN}
 refine y2 {u,CB,x5 X _ _ _ y {rfl,O,I1,λcell' k' w hc' B H2 D=>?_,λe=>by rw[g]at e;cases e}};rw[g]at w;obtain rfl:=ι w;rw[e01]at B;cases B;erw[Ev2_];refine y2 {D _ _ u,CB,CH (SqL.of<|D _ _ s)  (v:=.int<|cs.length+1) rfl (by simp[AQ]) {by decide,λl3 hl3=>?_}}
 have s3:=AL (o:=.lst [V.int (cs.length+1)]) hl3;refine x8 X _ _ _ _ y l3 [((cs.length+1))] {rfl,O,((I1.same D).same s3),g,p,AE,by simp,(λx hx=>by rw[aa.mp hx];exact{i0,by simp[hex]}),by simp[hex];exact oH d rfl,λc3 H4 I4 J=>?_};let[dx4,ho4]:=I4.ob
 have CL:(cs++ex).length=cs.length+2:=by simp[hex]
 rw[CL];erw[Ev3_];refine y2 {ho4,CB,by decide,λl5 hl5=>?_}
 have s5:=AL (o:=.lst [V.int (cs.length+2)]) hl5;refine OU X _ _ _ _ _ m _ ps l5 [((cs.length+2))] {rfl,O,I4.same s5,hr,(by rw[Hs.put_at,if_neg<|nE rfl];exact(by rw[Hs.put_at,if_neg<|nE rfl,Hs.put_at,if_pos ⟨rfl,rfl⟩])),by lia,r,AE,by simp,(λx hx=>by rw[aa.mp hx];exact{i0,by simp[hex]}),by simp[hex];exact oH d rfl,λc4 H6 I6 L=>{by decide,λl6 hl6=>.inl ?_}}
 have U:=AL (o:=.lst [V.int (cs.length+2),V.int<|(cs++ex++[c3]).length]) hl6;refine x4 l1 l6 _ _ {rfl,rfl,U _ _<|L _ _ (s5 _ _<|J _ _ (s3 _ _<|D _ _ s) λz=>z.elim i.1 i.2) i.1,AE,BQ _ (by simp[AQ]),λl hl=>?_}
 have sl:=AL (o:=.lst (AQ ((ρ 2).map (cs.length+·))++[V.int (cs.length+2),V.int<|(cs++ex++[c3]).length])) hl
 have h2:((cs.length:Int)+2).toNat=cs.length+2:=rfl
 have N:SameBut (λx=>X.S.A.F x\/x=X.S.tk) H _:=λb o e n=>U _ _<|L _ _ (s5 _ _<|J _ _ (s3 _ _<|D _ _<|sb1 _ _ e n) n) λz=>n<|.inl z;exact(q ec BN) (ex++[c3]++[c4]) l _ (by simp[hex]) (M5 (I6.same U) N hl) (by rw[AE];simp[AQ,bz,hex]) (by simpa [hex,h2]using ((I6.same U).same sl)) λb o e n=>sl _ _<|N _ _ e n
theorem Kb(C d:yD)(g:∀ j,C j=true->d j=true)(kind k:Nat):∀ as:bF,(∃ x,∀ M,sh M d as kind k=x)\/((∀ M,sh M d as kind k=M kind k)/\∀ M,sh M C as kind k=M kind k)
 | []=>.inr {λ_=>rfl,λ_=>rfl}
 |b::r=>by
  have i:=Kb C d g kind k r;by_cases e:kind=b.kind/\k=b.k;let[rfl,rfl]:=e;by_cases c:d r.length=true;exact .inl {_,λM=>by rw[C2 c,CZ]};let[x,h]||[h1,h2]:=i
  exact .inl {x,λM=>by rw[EN c];exact h M};exact .inr {λM=>by rw[EN c];exact h1 M,λM=>by rw[EN (λz=>c<|g _ z)];exact h2 M}
  have far:∀ (D:yD) (M:Md),sh M D _ _ k=sh M D r _ k:=λD M=>by
   by_cases c:D r.length=true;rw[C2 c];exact if_neg e;rw[EN c]
  let[x,h]||[h1,h2]:=i
  exact .inl {x,λM=>by rw[far];exact h M};exact .inr {λM=>by rw[far];exact h1 M,λM=>by rw[far];exact h2 M}
def zyh(c:∀ j,C j=true->b j=true):sh (sh M C as) b as kind k=sh M b as kind k:=by
 let[x,h]||[h1,h2]:=Kb C b c _ k as
 rw[h,h];rw[h1,h1,h2]
def zyi:EZ (cs++[ch]) O b row=if ch.blk=b/\O cs.length=true then(EZ cs O b row).set ch.cell ch.val else EZ cs O b row:=by
 have st:∀ (l:List _) (row:cF),(∀ k∈l,k<cs.length)->l.foldl (HQ (cs++[ch]) O) row=l.foldl (HQ cs O) row:=by
  intro l
  induction l with
  |nil=>intro y y;rfl
  |cons k l d =>
   intro row h;rw[gg,gg,d _ λj g=>h j<|τ _ g];unfold HQ;rw[bg (h k χ)]
 have lt:∀ k∈DF cs b,k<cs.length:=λk i=>by
  let[c,e,y]:=UH.mp i;exact(ζ.mp e).1
 have n:DF (cs++[ch]) b=if ch.blk=b then DF cs b++[cs.length]else DF cs b:=by simp[DF,G2]
 unfold EZ;rw[n];by_cases e:ch.blk=b;rw[if_pos e,k_,st _ _ lt];simp only[gg,List.foldl_nil];unfold HQ;rw[cg (ο _),wb];by_cases o:O cs.length=true;rw[if_pos o,if_pos ⟨e,o⟩];rfl;rw[if_neg o,if_neg λz=>o z.2];rw[if_neg e,if_neg λz=>e z.1,st _ _ lt]
section
variable{n r c w:Nat}{cs:zE}{as:bF}
def LaidA.len(h:LaidA n r c w H cs as):cs.length=as.length:=by
 induction h with
 |nil=>rfl
 |snoc _ _ _ _ _ _ _ b=>rw[ai,b];rfl
def LaidA.cut(h:LaidA n r c w H cs as)(b:UM cs outs):GQ (λj=>outs (j:Nat)) as:=by
 induction h with
 |nil=>trivial
 |@snoc cs as ch x l q s u d v z g =>
  refine{g λk c e=>b k c (by rw[bg (ζ.mp e).1];exact e),λo=>?_}
  have nd:=b _ ch (by rw[cg (ο _),wb];rfl) (by rw[l.len];exact o);exact{λy i=>nd _<|(d _).mpr (.inl ⟨y,i,rfl⟩),λj p=>nd _<|(d _).mpr (.inr ⟨j,p,rfl⟩)}
def LaidA.far(h:LaidA n r c w H cs as){C i:vD}(p:∀ (j:Nat) (ch:Ch),cs[j]? =some ch->ch.blk≠b->i j=C j)(s:BH n r c w kind k≠b):sh M (λj=>i (j:Nat)) as kind k=sh M (λj=>C (j:Nat)) as kind k:=by
 induction h with
 |nil=>rfl
 |@snoc cs as ch x l u v y z A B d =>
  have d:=d λj c q=>p j c (by rw[bg (ζ.mp q).1];exact q);by_cases e:kind=x.kind/\k=x.k
  have g:=p _ ch (by rw[cg (ο _),wb];rfl) (by rw[u,<-e.1,<-e.2];exact s);rw[l.len]at g;by_cases o:C as.length=true;rw[C2 (C:=λj=>C j) o,C2  (g.trans o),e.1,e.2,CZ,CZ];rw[EN (C:=λj=>C j) o,EN  (by rw[g];exact o)];exact d
  have far:∀ D:Nat->Bool,sh M D _ _ k=sh M D as _ k:=λD=>by
   by_cases o:D as.length=true;rw[C2 o];exact if_neg e;rw[EN o]
  rw[far,far];exact d
def LaidA.laid(h:LaidA n r c w H cs as)(A:∀ kind k v,kind<5->k<BR n r c w kind->BH n r c w kind k=b->row[k % w]? =some v->RepC H (S kind k) v):∀ kind k v,kind<5->k<BR n r c w kind->BH n r c w kind k=b->(EZ cs O b row)[k % w]? =some v->RepC H (sh S (λj=>O (j:Nat)) as kind k) v:=by
 induction h with
 |nil=>exact A
 |@snoc cs as ch x l p q B J D I g =>
  intro kind k v h1 s i d;rw[zyi]at d
  have g:=g _ k v h1 s i;by_cases e:kind=x.kind/\k=x.k;let[rfl,rfl]:=e;rw[p,i]at d;by_cases o:O as.length=true;rw[C2  o,CZ];rw[if_pos {rfl,by rw[l.len];exact o},q]at d
  have u:=(ζ.mp d).1;rw[kj]at u;rw[gq u]at d;obtain rfl:=ι d;exact B;rw[EN  o];rw[if_neg λz=>o (by rw[<-l.len];exact z.2)]at d;exact g d
  have far:sh S (λj=>O j) (x::as) kind k=sh S (λj=>O j) as kind k:=by
   by_cases o:O as.length=true;rw[C2  o];exact if_neg e;rw[EN  o]
  rw[far];refine g ?_;split at d;rename_i z
  have:ch.cell≠k%w:=λy=>e ((cT     h1 D s I (by rw[i,<-p];exact z.1.symm) (by rw[<-y,q])));rw[ik this]at d;exact d;exact d
end
def RowsAre.keep(h:RowsAre H n r c w rows S)(k:EA H b):RowsAre b n r c w rows S:=λkind i v h1 h2 h3=>(h _ i v h1 h2 h3).keep k
def RowsAre.write{rows:wC}{outs:vD}(h:RowsAre H n r c w rows (sh B (λj=>outs (j:Nat)) as))(l:LaidA n r c w H cs as)(q:rows[b]? =some row) :
  RowsAre H n r c w (rows.set b<|EZ cs (DS cs outs b) b row) (sh B (λj=>DS cs outs b (j:Nat)) as):=λkind k v h1 o d=>by
 by_cases e:BH n r c w kind k=b;rw[e,gq<|(ζ.mp q).1]at d
 have:=l.laid     (λkind k v h1 o e d=>h _ k v h1 o (by rw[e,q];exact d)) _ k v h1 o e d;rw[zyh   (λj e=>by unfold DS;rw[e];rfl)]at this;exact this;rw[ik (λz=>e z.symm)]at d;rw[l.far    (λj ch s u=>?_) e];exact h _ k v h1 o d;unfold DS
 have:(outcome cs outs (λy=>false) b).out.any (λi=>j ==(i:Int))=false:=by
  rw[Bool.eq_false_iff];intro z;let[i,x,p]:=du.mp z
  have p:=ce (beq_iff_eq.mp p).symm;subst p;let[D,g,A]:=UH.mp<|(UJ.2.1 i x).2;rw[s]at g;obtain rfl:=ι g;exact u A
 rw[this,n_]
def zyj(l:D5 cs (b:Nat) (j:Nat)=none):(EZ cs O b row)[j]? =row[j]? :=by
 rw[zkc,tI];cases n:JJ cs _ j with
 |none=>simp
 |some c =>
  let[k,o,i,d,z]:=tJ n;let[q,e,p]:=UH.mp (c_.mp o).1;rw[i]at e;obtain rfl:=ι e;refine u2 ?_<|zkd i;intro r s [g,z];rw[p,d,l]at g;cases g
def zyk(h:v∈EZ cs O b row):v∈row\/∃ c∈cs,v=c.val:=by
 unfold EZ at h;revert h;generalize DF cs b=l
 induction l generalizing row with
 |nil=>exact .inl
 |cons k l d =>
  intro h;let h||h:=d h
  unfold HQ at h;split at h;split at h;rename_i c e;let h||h:=rn h
  exact .inl h;exact .inr {c,η e,h};exact .inl h;exact .inl h;exact .inr h
def cW{α b :Type}{F: α -> b ->Prop}{x: α}:∀ {l:List α} {m:List b} {i:Nat},Paired F l m->l[i]? =some x->∃ y,m[i]? =some y/\F x y:=λh e=>WM h e
example:(zyl,ZV,Ek,4):=by
 apply u5;intro X cs tks M z [rfl,T4,I,q,qE];let[dx,ho]:=I.ob
 have g:=T4;let[T,TP,TL,TS]:=T4;refine y2 {ho,CB (by decide),x5 X cs _ M z {rfl,g,I,λcell c e BN hm H1 s1=>?_,qE}};let[hr,m,ps,e3,hps,SB,q]:=q _ _ e BN hm
 have N:=I.same s1;let[d1,B]:=N.ob;let[dl1,el1]:=N.ly.ob;erw[Ek1_];refine G9 TS B el1 (BZ (by decide)) (y2 {B,CB (by decide),x5 X cs _ M z {rfl,g,N,λH2 s2=>?_}});rw[e]
 have I2:=N.same s2;refine Jw  TL I2.ly λO D=>?_
 have I3:=I2.same<|AL (o:=.tup [.int (0+cell/X.w),.int<|cell%X.w]) D;let[d3,ho3]:=I3.ob;let[dl3,el3]:=I3.ly.ob
 have b1:∀ k:Nat,[V.int _,V.int _]=U5 X (0,k):=λk=>by
  rfl
 have b3:∀ k:Nat,[V.int _,V.int _]=U5 X (3,k):=λk=>rfl;refine G9 TS ho3 el3 (BZ (by decide)) (OG  TL I3.ly λU ht2=>{by decide,λl1 DN=>?_})
 have j:=AL (o:=.lst [.ref O,.ref U]) DN
 have J:=AL (o:=.tup [.int (X.n+c/X.w),.int<|c%X.w]) ht2
 have n:=j _ _<|J _ _<|AE   
 have r:=j _ _<|AE  
 have Y:=s1.trans<|s2.trans<|(AL  D).trans (J.trans j)
 have b:upd (upd (upd H2 O<|.tup [.int (0+cell/X.w),.int<|cell%X.w]) U (.tup [.int (X.n+c/X.w),.int<|c%X.w])) l1 _ l1=some (.lst [.ref O,.ref U]):=AE;erw[Ek2_];revert n r Y b;intro n r Y b
 have I4:=I.same Y;let[d4,ho4]:=I4.ob;refine y2 {ho4,CB (by decide),x5 X cs _ M _ {rfl,g,I4,hr,λv H5 rv s5=>?_}};rw[e3]at rv;revert rv;apply u2;intro t u [rfl,et,eu];refine BT et  rfl rfl (.inr {{_,SqT.of eu},VQ  (BQ _ (by simp[AQ];exact oA hps rfl)) (λi ys L=>Same H5 L/\∃ d:List _,ys=d.map V.ref/\Paired (λt p=>L t=some (.tup<|U5 X p)) d ((ps.take i).map λp=>(4,p))) {Same.refl _,[],rfl,.nil} (λi ys L y ⟨s,_⟩=>SqT.of<|s _ _ eu) (λi x ys L hx hyl w=>?_) (λys L hyl w lc hlc=>?_)});let[s,d,ey,P]:=w;unfold AQ at hx;rw[υ,af]at hx
 have I6:=(I4.same s5).same s;let[p,hp,rfl]:=hx;let[d6,ho6]:=I6.ob;let[dl6,el6]:=I6.ly.ob;erw[C0];refine G9 TS ho6 el6 (BZ (by decide)) (Jx  TL I6.ly λt ht=>{s.trans<|AL ht,d++[t],by rw[ey,av];rfl,?_});rw[cw,hp,av];exact Paired.snoc (Paired.mapP P λt p h=>AL ht _ _ h) AE;let[s,d,ey,P]:=w;rw[ey]
 have s6:=AL (o:=.lst<|d.map V.ref) hlc
 have hts:d.length<=100:=by
  have:=P.length;rw[ε,df]at this
  lia
 refine .inl (x4 l1 lc _ _ {rfl,rfl,s6 _ _<|s _ _<|s5 _ _ b,AE,by rw[d_];simp;lia,λl hl=>?_})
 have s7:=s6.trans<|AL (o:=.lst<|[V.ref O,V.ref U]++d.map V.ref) hl
 have A:=s5.trans<|s.trans s7;refine q l _ _ (Y.trans A) AE (.cons ?_<|.cons ?_ ?_);exact A _ _ n;exact A _ _ r
 have P':=Paired.mapP P λt p h=>s7 _ _ h;rw[de (by simp[AQ])]at P';exact P'
example:(zym,N7,Ey,4):=by
 apply u5;intro X cs tks M z [rfl,U,I,q,qE];let[dx,w]:=I.ob
 have y:=U;let[T,TP,TL,TS]:=U;refine y2 {w,CB (by decide),y5 {rfl,TS,w,?_}};erw[Ey1_];refine y2 {w,CB (by decide),x5 X cs _ M z {rfl,y,I,λcell b e Y hm=>?_,qE}};let[hr,m,ps,e3,A,SB,q]:=q _ _ e Y hm;refine{hr,x2 m ps {e3,A,SB,λl ts H1 B el P=>(.inl {{_,SqL.of el},?_})}}
 have I1:=I.same B
 have j:ts.length<=102:=by
  have:=P.length;unfold JM at this;simp at this
  lia
 have on:∀ p∈JM cell b ps,p.1<5/\p.2<BR _ _ _ _ p.1:=λp g=>by
  let rfl||g:=aj.mp g
  exact{by show 0<5;decide,Y};let rfl||g:=aj.mp g
  exact{by show 3<5;decide,hr};let[k,hk,rfl]:=ay.mp g;exact{by show 4<5;decide,SB k hk}
 refine XO  (BQ _ (by rw[ε];exact oA j rfl)) (λi ys n=>Same H1 n/\ys=((JM cell b ps).take i).map λp=>UQ<|D5 cs (BH X.n X.r X.c X.w p.1 p.2) (p.2%X.w:Nat)) {Same.refl _,rfl} (λi ys n _ ⟨d,_⟩=>SqL.of<|d _ _ el) (λi x ys n s D c=>?_) (λys n D c lc J=>?_);let[d,u]:=c;rw[υ,af]at s
 have N:=I1.same d;let[t,ht,rfl]:=s;let[p,g,e1]:=cW P ht;let[o1,o2]:=on p<|η g;let[db,eb]:=N.bk.bk.ob;refine y2 {eb,C8 (by decide),x9 _ _ _ _ cs _ t _ _ {rfl,T,TP,N.bk,d _ _ e1,λ_=>{d,?_},λz=>absurd (N.onPl o1 o2) z}};rw[cw,g,av,u]
 rfl;let[d,u]:=c
 have e6:upd n lc _ lc=some (.lst ys):=AE;erw[Ey2_];refine .inl {{_,SqL.of e6},XZ (λv=>match v with|.non=>false|_=>true) (BQ _ (by simp at *;lia)) (SqL.of e6) (λv hv QB r=>?_) λl2 DC=>?_};rw[u]at hv;let[p,_,rfl]:=ay.mp hv;revert r;cases D5 cs _ _ with
 |none=>intro r;exact r
 |some k=>intro r;exact r
 have ef:ys.filter (λv=>match v with|.non=>false|_=>true)=(N6 X cs<|JM cell b ps).map V.int:=by
  rw[u,de (by rw[ε];exact ba P.length.symm)];unfold N6;generalize JM _ _ ps=L
  induction L with
  |nil=>rfl
  |cons p L ih =>
   rw[ci,rq];cases D5 cs _ _ with
   |none=>exact ih
   |some k=>exact congrArg _ ih
 have O:=(AL  J).trans (AL (o:=.lst<|(N6 X cs<|JM cell b ps).map V.int) DC);rw[ef]
 have ln:(N6 X cs<|JM cell b ps).length<=200:=by
  refine ψ (fq _ _) ?_;exact oA (ψ (ba P.length.symm) j) rfl
 refine x8 _ _ _ _ cs _ l2 _ {rfl,T,(I1.same<|d.trans O).bk,SqL.of AE,by omega,λ_ l' row R H8 c1 c2 c3 c4 s8 e8=>q l' _ R H8 c1 c2 c3 ((B.trans<|d.trans O).free c4) (B.trans<|(d.trans O).trans s8) e8,λc=>?_};let[x,s,nx]:=c;exfalso;let[p,_,ex]:=mw.mp s;let[k,ek,rfl]:=af.mp ex;exact nx {i0,dn.mpr<|QL ek}
def E6{c A B:Prop}[Decidable c](h:c)(x:A):if c then A else B:=by rw[if_pos h];exact x
def ED{c A B:Prop}[Decidable c](h:¬ c)(x:B):if c then A else B:=by rw[if_neg h];exact x
def zyn{α :Type}{l:List (Option α)}{k:Nat}{c: α}(h:AY l k=some c):some c∈l:=by
 unfold AY at h;cases e:l[k]? with
 |none=>rw[e]at h;cases h
 |some y =>
  rw[e]at h;exact h ▸ η e
def FindsL.on{b:Hp}{l:Addr}{fs:wC}(h:FindsL H l fs)(c:∀ o,H l=some o->b l=some o)(tk:EA H b):FindsL b l fs:=by
 let[ps,e,P]:=h;exact{ps,c _ e,Paired.mapP P λp f e=>tk _ _ e}
def NmV.keep(k:EA H b)(h:NmV H v c):NmV b v c:=by
 cases c with
 |none=>exact h
 |some c=>let[p,e,h1]:=h;exact{p,e,k _ _ h1}
def RcV.keep(k:EA H b)(h:RcV H v c):RcV b v c:=by
 cases c with
 |none=>exact h
 |some c=>revert h;apply u2;intro p q [e,h1,h2];exact x2 p q {e,k _ _ h1,k _ _ h2}
def PcV.keep(_:EA H b)(h:PcV H v c):PcV b v c:=by
 cases c<;>exact h
def MkV.keep(_:EA H b)(h:MkV H v c):MkV b v c:=by
 cases c<;>exact h
def LstAt.keep{α :Type}{R:Hp->V-> α ->Prop}{b:Hp}{p:Addr}{cs:List α}(h:LstAt R H p cs)(d:∀ v c,R H v c->R b v c)(g:∀ o,H p=some o->b p=some o):LstAt R b p cs:=by
 let[vs,e,P]:=h;exact{vs,g _ e,Paired.mapP P λv c=>d v c}
def FindsL.same(h:FindsL H l fs)(s:Same H b):FindsL b l fs:=by
 let[ps,e,P]:=h;exact{ps,s _ _ e,Paired.mapP P λp f e=>s _ _ e}
def ViewAt.same{b:Hp}{x:Addr}{A:VA}{d:Vw}(h:ViewAt a H x A d)(s:Same H b):ViewAt a b x A d:=by
 let[[g,e],h1,h2,h3,h4,h5,h6,h7,h8,ok]:=h;exact{{g,s _ _ e},h1.keep (λv c=>NmV.keep s.tk) (λo=>s _ _),h2.keep (λv c=>RcV.keep s.tk) (λo=>s _ _),h3.keep (λv c=>PcV.keep s.tk) (λo=>s _ _),h4.keep (λv c=>MkV.keep s.tk) (λo=>s _ _),h5.keep (λv c=>MkV.keep s.tk) (λo=>s _ _),s _ _ h6,s _ _ h7,s _ _ h8,ok}
def LstAt.at{α :Type}{R:Hp->V->Option α ->Prop}{p:Addr}{cs:List (Option α)}{k:Nat}(h:LstAt R H p cs)(b:k<cs.length):∃ vs v,H p=some (.lst vs)/\vs.length=cs.length/\vs[k]? =some v/\R H v (AY cs k):=by
 let[vs,e,P]:=h;let[v,c,d]:=JB P<|θ b;refine x2 vs v {e,P.length,c,?_};unfold AY;rw[θ b];exact d
def VR{l:xE}{k:Nat}{m:Nat}(h:l[k]? =some m):(AQ l)[k]? =some (.int m):=by
 unfold AQ;rw[υ,h]
 rfl
def OJ{n k:Nat}{f:Nat->Nat}(h:k<n):((ρ n).map f)[k]? =some (f k):=by
 rw[υ,vz h]
 rfl
def RQ{p:Addr}{n k:Nat}{f:Nat->Nat}{Q:VK}(h:H p=some (.lst<|AQ<|(ρ n).map f))(b:k<n)(q:Q (.int<|f k) H):B7 K (.ref p) (.int k) H Q :=
 CH (SqL.of h)  rfl (VR<|OJ b) q
def zyo:(vf A).lookup ("name_values":Str)=some (V.ref A.n):=by simp[vf]
def VS:(vf A).lookup ("record_values":Str)=some (V.ref A.r):=by
 simp[vf,au,BC (a:="record_values") (b:="name_values") (by decide)]
def zyp:(vf A).lookup ("piece_values":Str)=some (V.ref A.p):=by
 simp[vf,au,BC (a:="piece_values") (b:="name_values") (by decide),BC (a:="piece_values") (b:="record_values") (by decide)]
def Kc{A:VA}:(vf A).lookup ("record_marks":Str)=some (V.ref A.rm):=by
 simp[vf,au,BC (a:="record_marks") (b:="name_values") (by decide),BC (a:="record_marks") (b:="record_values") (by decide),BC (a:="record_marks") (b:="piece_values") (by decide)]
def Kd{A:VA}:(vf A).lookup ("piece_marks":Str)=some (V.ref A.pm):=by
 simp[vf,au,BC (a:="piece_marks") (b:="name_values") (by decide),BC (a:="piece_marks") (b:="record_values") (by decide),BC (a:="piece_marks") (b:="piece_values") (by decide),BC (a:="piece_marks") (b:="record_marks") (by decide)]
def cX{A:VA}:(vf A).lookup ("leads":Str)=some (V.ref A.ld):=by
 simp[vf,au,BC (a:="leads") (b:="name_values") (by decide),BC (a:="leads") (b:="record_values") (by decide),BC (a:="leads") (b:="piece_values") (by decide),BC (a:="leads") (b:="record_marks") (by decide),BC (a:="leads") (b:="piece_marks") (by decide)]
def Kg{A:VA}:(vf A).lookup ("namings":Str)=some (V.ref A.ng):=by
 simp[vf,au,BC (a:="namings") (b:="name_values") (by decide),BC (a:="namings") (b:="record_values") (by decide),BC (a:="namings") (b:="piece_values") (by decide),BC (a:="namings") (b:="record_marks") (by decide),BC (a:="namings") (b:="piece_marks") (by decide),BC (a:="namings") (b:="leads") (by decide)]
def zyq:(vf A).lookup ("reached":Str)=some (V.ref A.rh):=by
 simp[vf,au,BC (a:="reached") (b:="name_values") (by decide),BC (a:="reached") (b:="record_values") (by decide),BC (a:="reached") (b:="piece_values") (by decide),BC (a:="reached") (b:="record_marks") (by decide),BC (a:="reached") (b:="piece_marks") (by decide),BC (a:="reached") (b:="leads") (by decide),BC (a:="reached") (b:="namings") (by decide)]
def M6{A:VA}{x:Str}(h:(D0 x "name_values" || D0 x "record_values" || D0 x "piece_values" || D0 x "record_marks" || D0 x "piece_marks" || D0 x "leads" || D0 x "namings" || D0 x "reached")=false):(vf A).lookup x=none:=by
 simp only[fj]at h;let[[[[[[[h1,h2],h3],h4],h5],h6],h7],h8]:=h;simp[vf,au,BC h1,BC h2,BC h3,BC h4,BC h5,BC h6,BC h7,BC h8]
section
variable{tt:TT}{te:TE}{A6:xE}{σ:St}
def HW{c b:Hp}{l:Addr}{o:HO}(s:Same c b)(h:b l=none):Same c (upd b l o):=s.trans<|AL h
def FnW(H:Hp)(is:xE)(p:yD)(f:xC)(i:Nat)(ys:cF)(b:Hp):Prop:=Same H b/\∃ ps:wD,ys=ps.map V.ref/\Paired (λq g=>b q=some (.tup g)) ps (((is.take i).filter p).map f)
def JQ{α :Type}{l:List α}{i:Nat}{x: α}(h:l[i]? =some x):l.take (i+1)=l.take i++[x]:=by
 let[g1,g2]:=ζ.mp h;rw[<-g2,lu]
def FnW.yes{p:yD}{f:xC}(h:FnW H is p f i ys b)(d:is[i]? =some k)(j:p k=true)(c:b t=none):FnW H is p f (i+1) (ys++[.ref t]) (upd b t<|.tup<|f k):=by
 let[s,ps,e,P]:=h;refine{HW s c,ps++[t],by rw[e,av];rfl,?_};rw[JQ d,na,av]
 have:([k].filter p).map f=[f k]:=by simp[j]
 rw[this];exact Paired.snoc (Paired.mapP P λq g e=>AL c _ _ e) AE
def FnW.no{is:xE}{p:yD}{f:xC}{i k:Nat}{ys:cF}{b:Hp}(h:FnW H is p f i ys b)(c:is[i]? =some k)(d:p k=false):FnW H is p f (i+1) ys b:=by
 let[s,ps,e,P]:=h;refine{s,ps,e,?_}
 have:([k].filter p).map f=[]:=by simp[d]
 rw[JQ c,na,av,this,ja];exact P
def FnW.len{is:xE}{p:yD}{f:xC}{i:Nat}{ys:cF}{b:Hp}(h:FnW H is p f i ys b):ys.length<=i:=by
 let[s,ps,e,P]:=h;rw[e,ε,P.length,ε];exact ψ (cz ..) (by rw[df];lia)
def FnW.fin{is:xE}{p:yD}{f:xC}{ys:cF}{b:Hp}{l:Addr}(h:FnW H is p f is.length ys b)(c:b l=none):H l=none/\Same H (upd b l<|.lst ys)/\FindsL (upd b l<|.lst ys) l ((is.filter p).map f):=by
 let[s,ps,rfl,P]:=h;rw[ca]at P;exact{s.free c,HW s c,ps,AE,Paired.mapP P λq g e=>AL c _ _ e}
def M7{b:Addr}{is:xE}(p:yD)(f:xC)(v:H b=some (.lst<|AQ is))(w:is.length<=1000)
  (y:∀ k∈is,∀ c,Same H c->∀ n:Bool->Hp->Prop,n (p k) c->tt (some (.int (k:Int))::C0 A6 σ) c n)
  (he:∀ k∈is,p k=true->∀ c (r:VK),Same H c->(∀ t,c t=none->r (.ref t) (upd c t<|.tup<|f k))->te (some (.int (k:Int))::C0 A6 σ) c r) (hd:newF ((is.filter p).map f) H Q):EI (GG K b) (AG 0) tt te 1 A6 σ H Q:=by
 have g:∀ {i:Nat} {x:V},(AQ is)[i]? =some x->∃ k,is[i]? =some k/\x=.int k:=λe=>by
  unfold AQ at e;rw[υ,af]at e;let[k,h1,h2]:=e;exact⟨k,h1,h2.symm⟩
 have s:(AQ is).length=is.length:=by simp[AQ]
 refine YC  (λi=>match is[i]? with
  |some k=>p k
  |none=>false) (BQ _<|oA (ψ (ba s) w) rfl) (FnW H is p f) {Same.refl _,[],rfl,.nil} (λi ys c _ h=>{SqL.of<|h.1 _ _ v,h.len}) (λi x ys c l h n u=>?_) (λi x ys c l j h=>?_) (λi x ys c l j h=>?_) (λys c h q z=>?_)
 let[k,d,rfl]:=g l;simp only[d]at u;exact y k (η d) c h.1 n u;let[k,d,rfl]:=g l;simp only[d]at j;exact he k (η d) j c _ h.1 λt o=>h.yes d j o;let[k,d,rfl]:=g l;simp only[d]at j;exact h.no d j;rw[s]at h;let[h1,h2,h3]:=h.fin z;exact hd q _ h1 h2 h3
def RR{b:Addr}{xs:cF}(p:yD)(r:H b=some (.lst xs))(u:xs.length<=1000)
  (v:∀ i x,xs[i]? =some x->∀ c,Same H c->∀ d:Bool->Hp->Prop,d (p i) c->tt (some (.int (i:Int))::some x::C0 A6 σ) c d) (hd:newL (AQ<|(ρ xs.length).filter p) H Q):EI (LD K b) (FL K 2<|DP (AG 0) (DP (AG 1) FJ)) tt (EJ 0) 2 A6 σ H Q:=by
 refine YD  p (BQ _<|oA u rfl) (λi ys c=>Same H c/\ys=AQ ((ρ i).filter p)) {Same.refl _,rfl} (λi ys c z ⟨s,e⟩=>{SqL.of<|s _ _ r,?_}) (λi ys c t o ⟨s,e⟩ h=>{HW s h,e}) (λi x ys c g ⟨s,e⟩ d w=>v i x g c s d w) (λi x ys c g j ⟨s,e⟩=>{s,by rw[e];unfold AQ;rw[bz];simp[j]}) (λi x ys c g j ⟨s,e⟩=>{s,?_}) (λys c l q n=>?_);rw[e];unfold AQ;rw[ε];exact ψ (cz ..) (by rw[cr];exact ο _);rw[e];rw[bz];simp[j];let[s,rfl]:=l;exact hd q _ (s.free n) (HW s n) AE
end
def ViewAt.rl{x:Addr}{A:VA}{b:Vw}(h:ViewAt a H x A b):∃ vs,H A.r=some (.lst vs)/\vs.length=b.rc.length:=by
 let[vs,e,P]:=h.r;exact⟨vs,e,P.length⟩
def cY(h:RcV H v c):decide (v=.non)=c.isNone:=by
 cases c with
 |none=>rw[h];rfl
 |some c=>revert h;apply u2;intro p q [rfl,z];rfl
def zyr{v:V}{c:N8}(h:NmV H v c):decide (v=.non)=c.isNone:=by
 cases c with
 |none=>rw[h];rfl
 |some c=>let[p,rfl,z]:=h;rfl
def zys(h:PcV H v c):decide (v=.non)=c.isNone:=by
 cases c with
 |none=>rw[h];rfl
 |some c=>rw[h];rfl
example:(zyt,U8,tV,2):=by
 apply u5;intro x A d r c [rfl,T,I,b,q];let[o,e]:=I.ob
 have j:r<d.rc.length:=by
  unfold AY at b;cases g:d.rc[r]? with
  |none=>rw[g]at b;cases b
  |some _=>exact(ζ.mp g).1
 refine u2 ?_<|I.r.at j;intro us v [l,s,n,i];rw[b]at i;revert i;apply u2;intro p u [rfl,h1,h2];exact y3 {e,T.cl,T.n2,_,VS,CH (SqL.of l)  rfl n (BT h1  rfl rfl q)}
example:(zyu,U7,tT,1):=by
 apply u3;intro x A l [rfl,T,I,q];let[u,e]:=I.ob;let[us,c,P]:=I.r
 have d:=P.length;refine y3 {e,T.cl,T.n2,_,VS,{_,SqL.of c},RR (λr=>(AY l.rc r).isSome) c (oA (ψ (ba d) I.ok.br) rfl) (λi v g w s y n=>?_) ?_};refine u2 ?_<|I.r.at  (d ▸ ((ζ.mp g).1));intro o B [b,z,j,p];rw[c]at b;cases b;rw[g]at j;obtain rfl:=ι j;erw[];rw[cY p];simpa using n;rw[d];exact q
def cZ(n:Nat):decide ((0:Int)<(n:Int))=decide (0<n):=by simp
def zyv(n:Nat):decide ((1:Int)<(n:Int))=decide (1<n):=by
 lia
def zyw(n:Nat):decide ((n:Int)=(0:Int))=decide (n=0):=by simp
def HX(l:xE):(AQ l).length=l.length:=by simp[AQ]
def M8(n:Nat)(f:Nat->Nat):((ρ n).map f).length=n:=by simp
example:(zyx,RD,tU,1):=by
 apply u3;intro x A g [rfl,T,I,q];let[l,e]:=I.ob
 have c:=I.ng;refine y3 {e,T.cl,T.n7,_,Kg,{_,SqL.of c},RR (λp=>decide<|0<E4 g p) c (by rw[HX,M8];exact oA I.ok.bp rfl) (λi v b n s o j=>?_) ?_}
 have d:=(ζ.mp b).1;rw[HX,M8]at d;rw[VR (OJ d)]at b;obtain rfl:=ι b;erw[];rw[cZ];exact j;rw[HX,M8];exact q
example:(zyy,ZW,tS,1):=by
 apply u4;intro x ar al g [rfl,T,[dx,fs,e,M],[N,O,I,l2],J,y,U,q];rw[e]at I
 have A:=J;cases I;let[us,B,P]:=J
 have w:=P.length;refine y3 {e,T.cl,T.n2,_,M,{_,SqL.of B},(YD  (λr=>decide<|0<led g r) (BQ _<|oA (ψ (ba w) U) rfl) (λi ys j=>Same H j/\Paired (RcV j) ys (((ρ i).filter λr=>decide<|0<led g r).map (AY g.rc))) {Same.refl _,.nil} (λi ys j z ⟨s,e⟩=>{SqL.of<|s _ _ B,?_}) (λi ys j t o ⟨s,d⟩ h=>{HW s h,Paired.mapP d λv c=>RcV.keep (AL h).tk}) (λi v ys j n b QB Y=>?_) (λi v ys j n l b=>?_) (λi v ys j n l ⟨s,d⟩=>{s,?_}) (λys j b p l=>?_))};rw[e.length,ε];exact ψ (cz ..) (by rw[cr];exact ο _);let[s,d]:=b;refine y3 {s _ _ e,T.cl,T.n6,_,l2,RQ (s _ _ y) (w ▸ ((ζ.mp n).1)) ?_};erw[];rw[cZ];exact Y;let[s,d]:=b;refine u2 ?_<|A.at  (w ▸ ((ζ.mp n).1));intro us' v' [u,z,L,D];rw[B]at u;cases u;rw[n]at L;obtain rfl:=ι L;refine{s,?_};rw[bz,na,av]
 have:(([i].filter λr=>decide<|0<led g r).map (AY g.rc))=[AY g.rc i]:=by simp[l]
 rw[this];exact Paired.snoc d<|RcV.keep s.tk D;rw[bz,na,av]
 have:(([i].filter λr=>decide<|0<led g r).map (AY g.rc))=[]:=by simp[l]
 rw[this,ja];exact d;let[s,d]:=b;rw[w]at d;exact q p _ (s.free l) (HW s l) {ys,AE,Paired.mapP d λv c=>RcV.keep (AL l).tk}
def Kh(h:MkV b v c)(q:Q (.bl<|decide<|c=some 1) H):CK K v (.int 1) H Q:=by
 cases c with
 |none=>rw[h];exact q
 |some j=>rw[h];show Q _ _;simpa using q
def Kj{b:Hp}{v:V}{c:Option Int}{Q:VK}(h:MkV b v c)(q:Q (.bl<|!decide (c=some 1)) H):DI K v (.int 1) H Q:=by
 cases c with
 |none=>rw[h];exact q
 |some j=>rw[h];show Q _ _;simpa using q
def KQ{n:Nat}{p q r:yD}{f:xC}(h:∀ k,k<n->(p k&&q k)=r k):(((ρ n).filter p).filter q).map f=DJ n r f:=by
 rw[Di]
 congr 1
 refine uk λk b=>?_;rw[Bool.and_comm];exact h k<|ao.mp b
def L4{n:Nat}{p:yD}(h:n<=100):((ρ n).filter p).length<=1000:=ψ (cz ..) (by rw[cr];exact oA h rfl)
def L5{n k:Nat}{p:yD}(h:k∈(ρ n).filter p):k<n/\p k=true:=by
 let[h1,h2]:=c_.mp h;exact{ao.mp h1,h2}
def newF.of{fs:wC}{b:Hp}(q:newF fs H Q)(s:Same H b):newF fs b Q:=λl c d e F=>q l c (s.free d) (s.trans e) F
def newL.of{xs:cF}{b:Hp}(q:newL xs H Q)(s:Same H b):newL xs b Q:=λl c d e F=>q l c (s.free d) (s.trans e) F
example:(zyz,Z1,aN,2):=by
 apply u3;intro x A n [rfl,T,I,q];let[O,e]:=I.ob
 have D:=I.ok.bp;let[us,d,P]:=I.pm
 have l2:=I.ok.l2
 have o:=P.length;erw[aN,aN0_];refine y3 {e,T.cl,T.n5,_,Kd,{_,SqL.of d},RR (λp=>decide<|AY n.pm p=some 1) d (by lia) (λi v r u s J g=>?_) λl U Y w j=>?_};refine u2 ?_<|I.pm.at  (o ▸ ((ζ.mp r).1));intro L v' [b,z,y,M];rw[d]at b;cases b;rw[r]at y;obtain rfl:=ι y;erw[];exact Kh M g;rw[o,l2]at j;refine .inl {{_,SqL.of j},M7 (λp=>decide<|GT n p=0) (λp=>[.str "left",.str "piece",.int p]) j (L4 D) (λk c u s J g=>?_) (λk c hp u Q' s N=>?_) ?_};let[c,z]:=L5 c
 have B:=w.trans s;refine y3 {B _ _ e,T.cl,T.n8,_,zyq,RQ (B _ _ I.rh) c ?_};erw[];rw[zyw];exact g;erw[];exact{by decide,N};rw[KQ λk z=>rfl];exact q.of w
example:(zy0,Z2,aO,2):=by
 apply u3;intro x A w [rfl,T,I,q];let[Y,e]:=I.ob
 have M:=I.ok.br;let[us,g,P]:=I.rm
 have l2:=I.ok.l1
 have y:=P.length;erw[aO,aO0_];refine y3 {e,T.cl,T.n4,_,Kc,{_,SqL.of g},RR (λp=>decide<|AY w.rm p=some 1) g (by lia) (λi v B D s N j=>?_) λl H1 DN J n=>?_};refine u2 ?_<|I.rm.at  (y ▸ ((ζ.mp B).1));intro o O [b,z,c,u];rw[g]at b;cases b;rw[B]at c;obtain rfl:=ι c;erw[];exact Kh u j;rw[y,l2]at n;refine .inl {{_,SqL.of n},M7 (λr=>(AY w.rc r).isNone) (λr=>[.str "marked",.int r]) n (L4 M) (λk d D s N j=>?_) (λk d hp D Q' s U=>?_) ?_};let[d,z]:=L5 d
 have L:=J.trans s;refine u2 ?_<|(I.same L).r.at d;intro o O [b,z,c,u];refine y3 {L _ _ e,T.cl,T.n2,_,VS,CH (SqL.of b)  rfl c ?_};erw[];rw[cY u];exact j;erw[];exact{by decide,U};rw[KQ λk z=>rfl];exact q.of J
def OK{α b :Type}{F: α -> b ->Prop}:∀ {l c:List α} {m d:List b},Paired F l m->Paired F c d->Paired F (l++c) (m++d):=λh h'=>by
 induction h with
 |nil=>exact h'
 |cons x r e=>exact .cons x e
def DX{n:Nat}{p:yD}{f:xC}(h:n<=100):(DJ n p f).length<=100:=by
 unfold DJ;rw[ε];exact ψ (cz ..) (by rw[cr];exact h)
def JR{b l2:Addr}{f1 f2:wC}{Q:VK}(h1:FindsL H b f1)(h2:FindsL H l2 f2)(i:f1.length+f2.length<=10000)(q:newF (f1++f2) H Q):BF K (.ref b) (.ref l2) H Q:=by
 let[n,j,d]:=h2;let[o,l,g]:=h1;exact .inl (x4 b l2 _ _ {rfl,rfl,l,j,BQ _ (by rw[ε,ε,g.length,d.length];exact oA i rfl),λp c=>(q p _ c (AL c) {_,by rw[AE,av],Paired.mapP (OK g d) λx f e=>AL c _ _ e})})
def VT(ok:EK b):(Q9 b).length<=200/\(RA b).length<=300/\(RB b).length<=200/\(MW b).length<=200/\(MX b).length<=100/\(MY b).length<=100:=by
 unfold Q9 RA RB MW MX MY;simp only[ai];exact{ul (DX ok.bn) (DX ok.bn),ul (ul (DX ok.bp) (DX ok.bp)) (DX ok.br),ul (DX ok.br) (DX ok.bp),ul (DX ok.br) (DX ok.br),DX ok.bp,DX ok.br}
example:(zy1,U9,zA,1):=by
 apply u3;intro x A b [rfl,T,I,q];let[o,p,r,z]:=VT I.ok;exact x3 x A b {rfl,T,I,λs u h1 c i=>x3 x A b {rfl,T,I.same c,λl2 v h2 d j=>JR (i.same d) j (by lia) λw y h3 e l=>x3 x A b {rfl,T,I.same<|(c.trans d).trans e,λB D h4 g n=>JR (l.same g) n (by simp only[ai];lia) (q.of<|((c.trans d).trans e).trans g)}}}
example:(zy2,Z3,zB,1):=by
 apply u3;intro x A b [rfl,T,I,q];let[z,z,z,o,p,r]:=VT I.ok;exact x3 x A b {rfl,T,I,λs u h1 c i=>x3 x A b {rfl,T,I.same c,λl2 v h2 d j=>JR (i.same d) j (by lia) λw y h3 e l=>x3 x A b {rfl,T,I.same<|(c.trans d).trans e,λB D h4 g n=>JR (l.same g) n (by simp only[ai];lia) (q.of<|((c.trans d).trans e).trans g)}}}
example:(zy3,ZZ,bD,4):=by
 apply u3;intro x A c [rfl,T,I,q];let[dx,e]:=I.ob
 have o:=I.ok.br
 have O:=I.ok.bp;erw[bD,bD0_];refine y3 {e,T.cl,T.n6,_,cX,{_,SqL.of I.ld},RR (λp=>decide<|0<led c p) I.ld (by rw[HX,M8];exact oA o rfl) (λi v u n s U g=>?_) λl H1 DN w y=>?_}
 have Y:=(ζ.mp u).1;rw[HX,M8]at Y;rw[VR (OJ Y)]at u;obtain rfl:=ι u;erw[];rw[cZ];exact g;rw[HX,M8]at y;erw[bD1_];refine .inl {{_,SqL.of y},M7 (λr=> !decide (AY c.rm r=some 1)) (λr=>[.str "free",.str "record",.int r]) y (L4 o) (λk b n s U g=>?_) (λk b hp n Q' s B=>?_) ?_};let[b,z]:=L5 b
 have s':=w.trans s;refine u2 ?_ ((I.same s').rm.at  (by rw[I.ok.l1];exact b));intro D v' [d,z,J,L];erw[C0];exact y3 {s' _ _ e,T.cl,T.n4,_,Kc,CH (SqL.of d)  rfl J (Kj L g)};erw[];exact{by decide,B};rw[KQ λk z=>rfl];intro l2 H2 DC s2 F2
 have M:=I.same<|w.trans s2;let[dx2,e2]:=M.ob;erw[bD2_];refine y2 {e2,M6 (by decide),x3 x A c {rfl,T,M,λl3 H3 hl3 N j=>(.inl {{_,SqL.of j},M7 (λp=> !decide (AY c.pm p=some 1)) (λp=>[.str "free",.str "piece",.int p]) j (L4 O) (λk b n s U g=>?_) (λk b hp n Q' s B=>?_) ?_})}};let[b,z]:=L5 b
 have I':=(M.same N).same s;let[dx',e']:=I'.ob;refine u2 ?_ (I'.pm.at  (by rw[I.ok.l2];exact b));intro D v' [d,z,J,L];erw[C0];exact y3 {e',T.cl,T.n5,_,Kd,CH (SqL.of d)  rfl J (Kj L g)};erw[];exact{by decide,B};rw[KQ λk z=>rfl];intro l4 H4 hl4 s4 F4
 have n2:=DX (p:=λp=>decide (0<E4 c p) && !decide (AY c.pm p=some 1)) (f:=λp=>[.str "free",.str "piece",.int p]) O
 have n1:=DX (p:=λr=>decide (0<led c r) && !decide (AY c.rm r=some 1)) (f:=λr=>[.str "free",.str "record",.int r]) o;exact JR (F2.same<|N.trans s4) F4 (by omega) (q.of<|((w.trans s2).trans N).trans s4)
example:(zy4,ZY,bC,4):=by
 apply u3;intro x A b [rfl,T,I,q];let[dx,e]:=I.ob
 have U:=I.ok.br
 have B:=I.ok.bp;erw[bC,bC0_];refine y2 {e,M6 (by decide),x3 x A b {rfl,T,I,λl1 H1 DN J l=>(.inl {{_,SqL.of l},M7 (λp=>decide<|1<E4 b p) (λp=>[.str "shared",.int p]) l (L4 B) (λk d n s Y i=>?_) (λk d hp n Q' s o=>?_) ?_})}};let[d,z]:=L5 d
 have g:=(I.same J).same s;let[u,j]:=g.ob;refine y3 {j,T.cl,T.n7,_,Kg,RQ g.ng d ?_};erw[];rw[zyv];exact i;erw[];exact{by decide,o};rw[KQ (r:=λp=>decide<|1<E4 b p) λk z=>by
  by_cases h:1<E4 b k;simp[h];exact ψ (by decide) h
  ·simp[h]]
 intro l2 H2 DC s2 F2
 have D:=I.same<|J.trans s2;let[dx2,e2]:=D.ob;erw[bC1_];refine y2 {e2,M6 (by decide),x3 x A b {rfl,T,D,λl3 H3 hl3 L v=>(.inl {{_,SqL.of v},M7 (λp=>(AY b.pc p).isNone) (λp=>[.str "empty",.int p]) v (L4 B) (λk d n s Y i=>?_) (λk d hp n Q' s o=>?_) ?_})}};let[d,z]:=L5 d
 have g:=(D.same L).same s;let[u,j]:=g.ob;refine u2 ?_<|g.p.at d;intro us' v' [M,z,ev,hr];refine y3 {j,T.cl,T.n3,_,zyp,CH (SqL.of M)  rfl ev ?_};erw[];rw[zys hr];exact i;erw[];exact{by decide,o};rw[KQ λk z=>rfl];intro l4 H4 hl4 s4 F4
 have N:=(D.same L).same s4;let[dx4,e4]:=N.ob;erw[bC2_];refine y2 {e4,M6 (by decide),x3 x A b {rfl,T,N,λl5 H5 hl5 O w=>(.inl {{_,SqL.of w},M7 (JO b) (λr=>[.str "few",.int r]) w (L4 U) (λk d n s Y i=>?_) (λk d hp n Q' s o=>?_) ?_})}};let[d,hs]:=L5 d
 have g:=(N.same O).same s;let[u,j]:=g.ob;let[c,hc]:=dt.mp hs;refine y2 {j,M6 (by decide),x5 x A b k c {rfl,T,g,hc,x3 _ _ _ {j,T.cl,T.n6,_,cX,RQ g.ld d ?_}}};unfold JO at i;rw[hc]at i;exact i;erw[];exact{by decide,o};rw[KQ (r:=JO b) λk z=>by
  unfold JO;cases AY _ k<;>simp]
 intro l6 H6 hl6 s6 F6
 have n2:=DX (p:=λp=>decide (0<E4 b p)&&(AY b.pc p).isNone) (f:=λp=>[.str "empty",.int p]) B
 have n1:=DX (p:=λp=>decide<|1<E4 b p) (f:=λp=>[.str "shared",.int p]) B
 have n3:=DX (p:=JO b) (f:=λr=>[.str "few",.int r]) U
 have y:=((L.trans s4).trans O).trans s6;exact JR (F2.same y) (F4.same<|O.trans s6) (by lia) λl7 H7 hl7 s7 F7=>JR F7 (F6.same s7) (by simp only[ai];lia) (q.of<|((J.trans s2).trans y).trans s7)
def TwoL(H:Hp)(b l2:Addr)(f1 f2:wC)(c:Hp):Prop:=SameBut (λy=>y=b\/y=l2) H c/\FindsL c b f1/\FindsL c l2 f2/\b≠l2
def TwoL.same(h:TwoL H b l2 f1 f2 c)(s:Same c d):TwoL H b l2 f1 f2 d:={h.1.trans s.sb,h.2.1.same s,h.2.2.1.same s,h.2.2.2}
def zy5(h:TwoL H c l2 f1 f2 b)(j:b t=some (.tup f)):TwoL H c l2 (f1++[f]) f2 (upd b c<|.lst<|((h.2.1).choose++[t]).map V.ref):=by
 let[s,d,[l,p,r],n]:=h
 have k:∀ {y:Addr} {g:cF},b y=some (.tup g)->upd b c (.lst<|(d.choose++[t]).map V.ref) y=some _:=λe=>by rw[AI (BI e d.choose_spec.1 (by intro z;cases z))];exact e
 exact{λy o e i=>by rw[AI λz=>i<|.inl z];exact s _ _ e i,{_,AE,Paired.snoc (Paired.mapP d.choose_spec.2 λq g e=>k e) (k j)},{l,by rw[AI n.symm];exact p,Paired.mapP r λq g e=>k e},n}
def TwoL.flip{b l2:Addr}{f1 f2:wC}{c:Hp}(h:TwoL H b l2 f1 f2 c):TwoL H l2 b f2 f1 c:={h.1.wide λz=>Or.symm,h.2.2.1,h.2.1,h.2.2.2.symm}
def VU{b l2 t:Addr}{f1 f2:wC}{f:cF}{c:Hp}{Q:VK}(h:TwoL H b l2 f1 f2 c)(e:f1.length<=1000)(g:c t=some (.tup f))(q:∀ d,TwoL H b l2 (f1++[f]) f2 d->Q .non d):FR (.ref b) [.ref t] c Q:=by
 have:=q _<|zy5 h g;refine{_,h.2.1.choose_spec.1,ω (show(h.2.1.choose.map _).length<10000 by rw[ε,h.2.1.choose_spec.2.length];exact oC e rfl) (by decide),?_};rw[av]at this;exact this
def Kk:DJ (n+1) p f=if p n=true then DJ n p f++[f n]else DJ n p f:=by
 unfold DJ;rw[bz];split;rename_i h;simp[h];rename_i h;simp[h]
def HY(is:xE)(p:yD)(f:xC)(i:Nat):wC:=((is.take i).filter p).map f
def Kl{is:xE}{p:yD}{f:xC}{i k:Nat}(h:is[i]? =some k):HY is p f (i+1)=if p k=true then HY is p f i++[f k]else HY is p f i:=by
 unfold HY;rw[JQ h];split;rename_i h;simp[h];rename_i h;simp[h]
def Km{is:xE}{p:yD}{f:xC}{i:Nat}(h:is.length<=1000):(HY is p f i).length<=1000:=by
 unfold HY;rw[ε];exact ψ (cz ..) (by rw[df];lia)
def ViewAt.two(I:ViewAt a b x A c)(d:Same b H)(g:b i=none)(j:b l2=none)(W:TwoL H i l2 f1 f2 l):ViewAt a l x A c :=
 I.same λy o e=>W.1 _ _ (d _ _ e) λz=>by
  let z||z:=z
  rw[z,g]at e;cases e;rw[z,j]at e;cases e
example:(zy6,Z0,wI,5):=by
 apply u3;intro x A b [rfl,T,I,q]
 have O:=I.ok.br;refine{by decide,λn J=>{by decide,λl2 U=>?_}}
 have L:Same H (upd _ l2<|.lst []):=(AL J).trans (AL U)
 have s:=BJ AE U
 have k1:FindsL (upd (upd H n<|.lst []) l2 (.lst [])) n []:={[],by rw[AI s,AE];rfl,.nil}
 have k2:FindsL (upd (upd H n<|.lst []) l2 (.lst [])) l2 []:={[],AE,.nil}
 have f2:=(AL J).free U;revert L k1 k2;generalize upd _ l2 _=H2;intro L k1 k2
 have I2:=I.same L;let[dx2,e2]:=I2.ob;refine y2 {e2,M6 (by decide),x3 x A b {rfl,T,I2,λl3 H3 w Y B=>(.inl {{_,SqL.of B},?_})}}
 have m1:n≠l3:=λz=>by
  let[ps,e,u]:=k1;rw[z,w]at e;cases e
 have m2:l2≠l3:=λz=>by
  let[ps,e,u]:=k2;rw[z,w]at e;cases e
 have GB:=L.trans Y
 let is:=(ρ b.rc.length).filter λr=>(AY b.rc r).isSome
 have D:is.length<=1000:=L4 O;refine GZ  (λi M N=>TwoL H3 n l2 (HY is (GA b) (λr=>[.str "many",.int r,.int<|led b r]) i) (HY is (λr=>decide<|led b r=0) (λr=>[.str "left",.str "record",.int r]) i) N/\∃ y3 y4,M=[some _,some _,some _,y3,y4]) {{SameBut.refl _,k1.same Y,k2.same Y,s},x2 _ _ rfl} (by intro i M N u [W,u];exact SqL.of<|W.1 _ _ B λz=>z.elim (λz=>m1 z.symm) λz=>m2 z.symm) (λi v M N hx d=>?_) (λM N d=>?_);let[W,y3,y4,g]:=d;subst g;unfold AQ at hx;rw[υ,af]at hx;let[k,j,rfl]:=hx;let[hk,hsm]:=L5<|η j
 have I':=I.two GB J f2 W;let[dx',e']:=I'.ob;let[c,hc]:=dt.mp hsm;refine x3 _ _ _ {e',T.cl,T.n6,_,cX,RQ I'.ld hk ?_}
 have im:GA b k=(decide (0<led b k)&&decide ((led b k)<c.1)):=by unfold GA;rw[hc]
 erw[wI6_];rw[Kl j,Kl j,im];by_cases h0:led b k=0;refine E6 (congrArg _ h0) ?_;erw[wI3_];let[ps2,l,u]:=W.2.2.1;refine{.inl {rfl,_,SqL.of l},by decide,λt ht=>VU (W.same<|AL ht).flip (Km D) AE λH4 W4=>?_};rw[decide_eq_false (h0.symm ▸ by decide),if_pos h0];exact W4.flip;refine ED (λz=>h0<|ce z) (y2 {e',M6 (by decide +kernel),x5 x A b k c {rfl,T,I',hc,?_}});erw[];by_cases h1:(led b k)<c.1;refine E6 h1 ?_;erw[wI4_];let[ps2,l,u]:=W.2.1;refine{.inl {rfl,_,SqL.of l},by decide,λt ht=>VU (W.same<|AL ht) (Km D) AE λH4 W4=>?_};rw[decide_eq_true (show 0<led b k by exact m_ h0),decide_eq_true h1,if_neg h0];exact W4;refine ED h1 ?_;rw[decide_eq_false h1,wx,if_neg h0];exact W;let[W,y3,y4,g]:=d;subst g;rw[HX]at W
 have g1:HY is (GA b) (λr=>[.str "many",.int r,.int<|led b r]) is.length=DJ b.rc.length (GA b) (λr=>[.str "many",.int r,.int<|led b r]):=by
  unfold HY;rw[ca];exact KQ λk u=>by
   unfold GA;cases AY _ k<;>simp
 have g2:HY is (λr=>decide<|led b r=0) (λr=>[.str "left",.str "record",.int r]) is.length=DJ b.rc.length (λr=>(AY b.rc r).isSome&&decide (led b r=0)) (λr=>[.str "left",.str "record",.int r]):=by
  unfold HY;rw[ca];exact KQ λk u=>rfl
 rw[g1,g2]at W
 have n1:=DX (p:=GA b) (f:=λr=>[.str "many",.int r,.int<|led b r]) O
 have n2:=DX (p:=λr=>(AY b.rc r).isSome&&decide (led b r=0)) (f:=λr=>[.str "left",.str "record",.int r]) O;exact JR W.2.1 W.2.2.1 (by lia) (q.of λy o e=>W.1 _ _ (GB _ _ e) λz=>by
  let z||z:=z
  rw[z,J]at e;cases e;rw[z,f2]at e;cases e)
def OL(b:Vw)(i:Nat)(s:Str):Bool:=(ρ i).any λj=>match AY b.nm j with
  |none=>false
  |some d=>decide<|d.1=s
structure NmW(H3:Hp)(vw:Vw)(l1 l2 sn:Addr)(i:Nat)(lo tw:wC)(j:Nat)(H':Hp):Prop where
 s:SameBut (λy=>y=l1\/y=l2\/y=sn) H3 H'
 f1:FindsL H' l1 lo
 f2:FindsL H' l2 tw
 d:∃ kvs:vC,H' sn=some (.dK kvs)/\(∀ s:Str,(BE kvs<|.inr s).isSome=OL vw j s)/\kvs.length<=j
def NmW.two{g:Hp}{l:Vw}{d l2 sn:Addr}{i j:Nat}{lo p b c:wC}{n o:Hp}(h:NmW g l d l2 sn i lo p j n)(q:sn≠d)(u:sn≠l2)(W:TwoL n d l2 b c o):NmW g l d l2 sn i b c j o:=by
 let[kvs,e,r]:=h.d;exact{h.s.trans<|W.1.wide λy z=>z.elim .inl λz=>.inr<|.inl z,W.2.1,W.2.2.1,{_,W.1 _ _ e λz=>z.elim q u,r}}
def NmW.same{b:Hp}{c:Vw}{d l2 sn:Addr}{i j:Nat}{lo g:wC}{l n:Hp}(h:NmW b c d l2 sn i lo g j l)(s:Same l n):NmW b c d l2 sn i lo g j n:=by
 let[kvs,e,r]:=h.d;exact{h.s.trans s.sb,h.f1.same s,h.f2.same s,{_,s _ _ e,r}}
example:(zy7,ZX,t3,6):=by
  apply u3;intro x A b [rfl,T,I,q]
  have bn:=I.ok.bn;refine{by decide,λl DN=>{by decide,λl2 DC sn M=>?_}}
  have n12:=BJ AE DC
  have s2:Same H (upd _ l2<|.lst []):=(AL DN).trans (AL DC)
  have k1:FindsL (upd (upd H l<|.lst []) l2 (.lst [])) l []:={[],by rw[AI n12,AE];rfl,.nil}
  have k2:FindsL (upd (upd H l<|.lst []) l2 (.lst [])) l2 []:={[],AE,.nil}
  have f2:=(AL DN).free DC;revert M s2 k1 k2;generalize upd _ l2 _=H2;intro M s2 k1 k2
  have fsn:=s2.free M;let[H3,zz0,s3,e3]:=D3  M;rw[zz0]
  have GB:=s2.trans s3
  have I3:=I.same GB;let[dx3,ob3]:=I3.ob;let[us,en,P]:=I3.n
  have hl:=P.length;refine y3 {ob3,T.cl,T.n1,_,zyo,{_,SqL.of en},?_}
  have m1:sn≠l:=λz=>by
    let[ps,e,_]:=k1;rw[<-z,M]at e;cases e
  have m2:sn≠l2:=λz=>by
    let[ps,e,_]:=k2;rw[<-z,M]at e;cases e
  have vi:∀ {w:Hp} {i j:Nat} {lo tw:List _},NmW H3 b l l2 sn i lo tw j w->ViewAt a w x A b:=λh=>I.same λy o e=>h.s _ _ (GB _ _ e) λz=>by
    let z||z||z:=z
    rw[z,DN]at e;cases e;rw[z,f2]at e;cases e;rw[z,fsn]at e;cases e
  have nA:A.n≠l/\A.n≠l2/\A.n≠sn:=by
    let[us',e0,_]:=I.n;exact{λz=>(by rw[z,DN]at e0;cases e0),λz=>(by rw[z,f2]at e0;cases e0),λz=>(by rw[z,fsn]at e0;cases e0)}
  let B:=λi=>DJ i (HS b) (λk=>[.str "lost",.int k])
  let D:=λi=>DJ i (IN b) (λk=>[.str "twice",.int k])
  refine X6  (λi N w=>NmW H3 b l l2 sn i (B i) (D i) i w/\∃ y4 y5,N=[some (.ref x),some<|.ref l,some<|.ref l2,some<|.ref sn,y4,y5]) {{SameBut.refl _,k1.same s3,k2.same s3,[],e3,λ_=>rfl,ο _},x2 _ _ rfl} (λi N w _ ⟨W,_⟩=>SqL.of<|W.s _ _ en λz=>z.elim nA.1 λz=>z.elim nA.2.1 nA.2.2) (λi v N w t hx hzz ht=>?_) (λN w hzz=>?_);let[W0,y4,y5,eσ]:=hzz;subst eσ
  have hi:=(ζ.mp hx).1;erw[];refine{_,SqT.of AE,rfl,?_}
  have W:=W0.same<|AL (o:=.tup [.int (i:Int),v]) ht;revert W;generalize upd w t (.tup [.int (i:Int),v])=H4;intro W
  have I4:=vi W;let[dx4,ob4]:=I4.ob;refine u2 ?_<|I4.n.at (k:=i) (hl ▸ hi);intro us' v' [e1',_,ev,hr];rw[W.s _ _ en (λz=>z.elim nA.1 λz=>z.elim nA.2.1 nA.2.2)]at e1';cases e1';rw[hx]at ev;have bi:i<=100:=by lia
  obtain rfl:=ι ev
  have hLO:B (i+1)=if HS b i=true then B i++[[.str "lost",.int i]]else B i:=Kk
  have hTW:D (i+1)=if IN b i=true then D i++[[.str "twice",.int i]]else D i:=Kk
  have n1:(B i).length<=100:=DX bi
  have n2:(D i).length<=100:=DX bi
  have sS:∀ s:Str,OL b (i+1) s=(OL b i s||match AY b.nm i with
    |none=>false
    |some d=>decide<|d.1=s):=λs=>by
    unfold OL;rw[bz,Iw];simp
  erw[t38_];cases J:AY b.nm i with
  |none =>
    rw[J]at hr;refine ED (λz=>z hr) ?_
    have z1:HS b i=false:=by unfold HS;rw[J]
    have z2:IN b i=false:=by unfold IN;rw[J]
    rw[hLO,hTW,z1,z2,if_neg ax,if_neg ax];let[kvs,ek,hv,GU]:=W.d;exact{W.s,W.f1,W.f2,kvs,ek,λs=>by rw[hv,sS,J,n_],ck GU}
  | some c =>
    rw[J]at hr;let[p,rfl,hp]:=hr;refine E6 (by simp) ?_
    have hm:some c∈b.nm:=by
      unfold AY at J;cases e2:b.nm[i]? with
      |none=>rw[e2]at J;cases J
      |some y =>
        rw[e2]at J
        have J:y=some c:=J;exact J ▸ η e2
    have hcr:=(I.ok.n1 c hm).1
    have z1:HS b i=(AY b.rc c.2).isNone:=by unfold HS;rw[J]
    have z2:IN b i=OL b i c.1:=by unfold IN OL;simp only[J]<;>rfl
    have tail:∀ {H5:Hp},NmW H3 b l l2 sn i (B<|i+1) (D i) i H5->H5 p=some (.tup [.str c.1,.int c.2])->AH (t36 K a (λ_=>E) (λ_=>E)) (t37 K a (λ_=>E) (λ_=>E)) { nx:=λN w=>NmW H3 b l l2 sn (i+1) (B<|i+1) (D<|i+1) (i+1) w/\∃ y4 y5,N=[some (V.ref x),some<|V.ref l,some<|V.ref l2,some<|V.ref sn,y4,y5],rt:=Q,bk:=t310 K a (λx=>E) (λx=>E) (AX Q),ct:=λN w=>NmW H3 b l l2 sn (i+1) (B<|i+1) (D<|i+1) (i+1) w/\∃ y4 y5,N=[some (V.ref x),some<|V.ref l,some<|V.ref l2,some<|V.ref sn,y4,y5] } [some (V.ref x),some<|V.ref l,some<|V.ref l2,some<|V.ref sn,some<|V.int ↑i,some<|V.ref p] H5:=λ{H5} W5 O=>by
      have last:∀ {Y:Hp},NmW H3 b l l2 sn i (B<|i+1) (D<|i+1) i Y->Y p=some (.tup [.str c.1,.int c.2])->t37 K a (λ_=>E) (λ_=>E) { nx:=λN w=>NmW H3 b l l2 sn (i+1) (B<|i+1) (D<|i+1) (i+1) w/\∃ y4 y5,N=[some (V.ref x),some<|V.ref l,some<|V.ref l2,some<|V.ref sn,y4,y5],rt:=Q,bk:=t310 K a (λx=>E) (λx=>E) (AX Q),ct:=λN w=>NmW H3 b l l2 sn (i+1) (B<|i+1) (D<|i+1) (i+1) w/\∃ y4 y5,N=[some (V.ref x),some<|V.ref l,some<|V.ref l2,some<|V.ref sn,y4,y5] } [some (V.ref x),some<|V.ref l,some<|V.ref l2,some<|V.ref sn,some<|V.int ↑i,some<|V.ref p] Y:=λ{Y} W6 hp6=>by
        let[kvs,ek,hv,GU]:=W6.d;erw[t37_];refine BT hp6 (n:=0) rfl rfl {_,pS ek (by lia),?_}
        have s7:SameBut (· =sn) Y (upd Y sn<|.dK<|CD kvs (.inr c.1) (.bl true)):=λy o e ny=>by rw[AI ny];exact e
        let[q1,g1,P1]:=W6.f1;let[q2,g2,P2]:=W6.f2
        have kt:∀ {y:Addr} {g:cF},Y y=some (.tup g)->upd Y sn (.dK<|CD kvs (.inr c.1) (.bl true)) y=some (.tup g):=λe=>s7 _ _ e (BI e ek (by intro z;cases z));refine{W6.s.trans<|s7.wide λy z=>.inr<|.inr z,{q1,s7 _ _ g1 m1.symm,Paired.mapP P1 λq g e=>kt e},{q2,s7 _ _ g2 m2.symm,Paired.mapP P2 λq g e=>kt e},_,AE,λs=>?_,?_}
        · rw[HJ,sS,J,<-hv]
          by_cases z:s=c.1
          ·subst z;simp
          · rw[if_neg (by simpa using z)]
            have:decide (c.1=s)=false:=by simpa using λu=>z<|Bi u
            simp only[this,n_]
        · have:=HK kvs (.inr c.1) (.bl true)
          lia
      let[kvs,ek,hv,GU]:=W5.d;erw[t36_];refine BT O (n:=0) rfl rfl {_,dS ek,?_};rw[hv,<-z2];cases hz:IN b i with
      | true =>
        refine E6 rfl ?_;erw[t35_];let[ps2,ep2,_]:=W5.f2;refine{.inl {rfl,_,SqL.of ep2},by decide,λt2 U=>?_}
        have L:=W5.same<|AL (o:=.tup [V.str (μ "twice"),V.int ↑i]) U;refine VU (H:=upd H5 t2<|.tup [V.str (μ "twice"),V.int ↑i]) (l2:=l) (f2:=B<|i+1) {SameBut.refl _,L.f2,L.f1,n12.symm} (by lia) AE λY W6=>?_
        have W7:=L.two m1 m2 W6.flip;rw[show D i++[[V.str (μ "twice"),V.int ↑i]]=D (i+1) by rw[hTW,hz,if_pos rfl]]at W7;exact last W7 (W6.1 _ _ (AL U _ _ O) λz=>by
          let z||z:=z
          · let[ps,e,_]:=W5.f2
            rw[<-z,O]at e;cases e
          · let[ps,e,_]:=W5.f1
            rw[<-z,O]at e;cases e)
      |false =>
        refine ED ax ?_;rw[show D i=D (i+1) by rw[hTW,hz,if_neg ax]]at W5;exact last W5 O
    refine u2 ?_<|I4.r.at hcr;intro us2 v2 [e2,_,ev2,R8];erw[t34_];refine y3 {ob4,T.cl,T.n2,_,VS,BT hp (n:=1) rfl rfl (CH (SqL.of e2) (n:=c.2) rfl ev2 ?_)};erw[]
    have HC:=cY R8;by_cases hz:v2=.non
    · refine E6 hz ?_
      have hz':HS b i=true:=by rw[z1,<-HC];simpa using hz
      erw[t33_];let[ps2,ep2,_]:=W.f1;refine{.inl {rfl,_,SqL.of ep2},by decide,λt2 U=>?_}
      have L:=W.same<|AL (o:=.tup [V.str (μ "lost"),V.int ↑i]) U;refine VU (H:=upd H4 t2<|.tup [V.str (μ "lost"),V.int ↑i]) (l2:=l2) (f2:=D i) {SameBut.refl _,L.f1,L.f2,n12} (by lia) AE λY W6=>?_
      have W7:=L.two m1 m2 W6;rw[show B i++[[V.str (μ "lost"),V.int ↑i]]=B (i+1) by rw[hLO,hz',if_pos rfl]]at W7;exact tail W7 (W6.1 _ _ (AL U _ _ hp) λz=>by
          let z||z:=z
          · let[ps,e,_]:=W.f1
            rw[<-z,hp]at e;cases e
          · let[ps,e,_]:=W.f2
            rw[<-z,hp]at e;cases e)
    · refine ED hz ?_
      have hz':HS b i=false:=by rw[z1,<-HC];simpa using hz
      rw[show B i=B (i+1) by rw[hLO,hz',if_neg ax]]at W;exact tail W hp
  let[W,y4,y5,eσ]:=hzz;subst eσ;rw[hl]at W;exact JR W.f1 W.f2 (by have:=DX (p:=HS b) (f:=λk=>[.str "lost",.int k]) bn;have:=DX (p:=IN b) (f:=λk=>[.str "twice",.int k]) bn;show(DJ _ _ _).length+(DJ _ _ _).length<=_;lia) (q.of λy o e=>W.s _ _ (GB _ _ e) λz=>by
    let z||z||z:=z
    ·rw[z,DN]at e;cases e
    ·rw[z,f2]at e;cases e
    ·rw[z,fsn]at e;cases e)
def zy8{n b:Nat}(h:b<n):HG n (b:Int)=some b:=by
 unfold HG;rw[if_pos (i0),if_pos<|dn.mpr h,cj]
def KR{α b :Type}{F: α -> b ->Prop}:∀ {l:List α} {m:List b} {i:Nat} {x: α},Paired F l m->l[i]? =some x->∃ y,m[i]? =some y/\F x y:=λh e=>WM h e
example:(zy9,LV,zC,2):=by
 apply u8;intro T U pl w rows m ts ps [rfl,TP,P,o,r,l,Y,q]
 have u:=r.length;refine .inl {{_,SqL.of o},rM  (BQ _ (by rw[ε];exact oA (ψ (ba u) Y) rfl)) (λi b ys j=>Same H j/\ys=(ps.take i).map (λc=>LU rows c.1 c.2)/\∃ A B,b=[A,B,some _]) {Same.refl _,rfl,x2 _ _ rfl} (λi b ys j ⟨s,e,_⟩=>{SqL.of<|s _ _ o,by rw[e,ε,df];lia}) (λi x b ys j D I d=>?_) (λb ys j d p J=>?_)};let[s,e,A,B,n]:=d;subst n;rw[ε]at D;rw[υ,af]at I;let[t,ht,rfl]:=I;let[c,g,et]:=KR r ht
 have hb:=l c<|η g
 have L:=P.same s;let[dp,NB]:=L.ob;erw[];refine{_,SqT.of<|s _ _ et,rfl,y2 {rfl,y2 {rfl,rfl,({λy M=>Same H M/\y=LU rows c.1 c.2,λy M ⟨s4,ey⟩=>cnx (by rw[ε];exact D) {s4,?_},y2 {NB,OE _ _ _,x6 T U w _ m _ {rfl,TP,L,λb' row eb N l1 DN=>?_,λz=>by lia}}})}}};rw[ey,e,JQ g,av]
 rfl;obtain rfl:c.1=b':=ce eb
 have O:=θ   (ω hb.2<|ba (P.wd _<|η N).symm);refine CH (SqL.of AE)  rfl O {HW s DN,?_};unfold LU;rw[N]
 show _=(row[c.2]?).getD _;rw[O];rfl;let[s,e,v]:=d;rw[ε,u,ca]at e;subst e;exact q p _ (s.free J) (HW s J) AE
example:(zza,RC,aP,4):=by
 apply u3;intro many nl J [rfl,g,w,L,M,q];erw[aP,aP0_]
 have N:(ρ many).map (λx=>V.int 0)=AQ ((ρ many).map λk=>([]).count k):=by
  unfold AQ;rw[lb]
  rfl
 refine{i0,by lia,zcq (BQ _<|oA L rfl) (λx=>V.int 0) (λj d T O=>O) λl A=>?_};rw[N]
 have r:=AL (o:=.lst<|AQ<|(ρ many).map λk=>([]).count k) A
 have B:upd H l _ l=some (.lst<|AQ<|(ρ many).map λk=>([]).count k):=AE;revert r B;refine λr B=>.inl {{_,SqL.of<|r _ _ g},GZ  (λi u n=>(Same H n/\n l=some (.lst<|AQ<|(ρ _).map λk=>(J.take i).count k))/\∃ y,u=[some _,some _,some _,y]) {⟨r,B⟩,_,rfl} (by intro i u n x [[s,x],x];exact SqL.of<|s _ _ g) (λi v u n D b=>?_) (λu n b=>?_)};let[[s,e],y,c]:=b;subst c;unfold AQ at D;rw[υ,af]at D;let[k,p,rfl]:=D
 have I:=w k<|η p;erw[aP1_];refine x2 _ k {rfl,SqL.of e,_,VR<|OJ I,?_};erw[];refine x4 l _ _ k {rfl,rfl,e,zy8 (by rw[HX,M8];exact I),λy o e=>by rw[AI (BJ e A)];exact s _ _ e,?_};rw[AE]
 congr 2
 unfold AQ;refine xv λj=>?_;by_cases d:j<many;rw[υ,OJ d,JQ p,List.count_append];by_cases z:k=j;subst z;rw[gq (by simpa using d)];simp;rw[ik z,υ,OJ d]
 have:List.count j [k]=0:=by simp[z]
 rw[this]
 rfl;rw[bv (by simp;exact cv d),bv (by simp;exact cv d)];let[[s,e],y,c]:=b;subst c;rw[HX,ca]at e;exact q l _ A s e
example:(zzb,U6,uE,3):=by
 apply u2;intro rl cs [rfl,[us,w,P],L,A,q]
 have M:=P.length;refine{by decide,λl b=>?_}
 have n:=AL (o:=.lst []) b
 have u:upd H l _ l=some (.lst<|AQ<|E3 []):=AE;revert n u
 have N:∀ i,(E3<|cs.take i).length<=i * 20:=λi=>by
  induction i with
  |zero=>exact ο _
  | succ i B =>
   cases e:cs[i]? with
   |none =>
    rw[de (ck<|xi.mp e)];rw[de ((xi.mp e))]at B
    lia
   | some c =>
    rw[JQ e];unfold E3 at B ⊢;rw[List.flatMap_append,ai]
    have:(List.flatMap LS [c]).length<=20:=by
     cases c with
     |none=>simp[LS]
     |some c =>
      simp[LS];exact A c<|η e
    lia
 refine λn u=>.inl {{_,SqL.of<|n _ _ w},GZ  (λi r j=>(Same H j/\j l=some (.lst<|AQ<|E3<|cs.take i))/\∃ y,r=[some _,some _,y]) {⟨n,u⟩,_,rfl} (by intro i r j x [[s,x],x];exact SqL.of<|s _ _ w) (λi v r j D d=>?_) (λr j d=>?_)};let[[s,e],y,g]:=d;subst g;let[c,I,J]:=KR P D
 have O:=N i
 have T:E3 (cs.take<|i+1)=E3 (cs.take i)++LS c:=by
  rw[JQ I];unfold E3;simp
 have U:=(ζ.mp D).1;rw[T];erw[uE2_];cases c with
 |none =>
  refine ED (λz=>z J) ?_;rw[show LS _=[]from rfl,ja];exact⟨s,e⟩
 |some c =>
  revert J;apply u2;intro p t [rfl,h1,h2]
  have Y:=A c<|η I;erw[uE1_];refine{.inl {rfl,_,SqL.of e},BT (s _ _ h1)  rfl rfl (x4 l t _ _ {rfl,rfl,e,SqT.of<|s _ _ h2,BQ _ (by rw[HX,HX];lia),{λy o e=>by rw[AI (BJ e b)];exact s _ _ e,?_}})};rw[AE];unfold AQ;rw[av]
  rfl
 let[[s,e],y,g]:=d;subst g;rw[M,ca]at e;exact q l _ b s e
def HZ{α :Type}{l b:List α}{a k:Nat}(h:l.length=a):(l++b)[a+k]? =b[k]? :=by
 subst h;rw[cg (uy _ _),Nat.add_sub_cancel_left]
theorem VW:∀ {rows:wC} {b j:Nat},(∀ r∈rows,r.length=w)->b<rows.length->j<w->rows.flatten[b*w+j]? =(rows[b]?).bind (·[j]?)
 | [],b,j,_,c,_=>by simp at c
 |r::e,0,j,h,_,d=>by
  rw[wc,lg,ir,bg<|ω d<|ba (h r χ).symm]
  rfl
 |r::e,b+1,j,h,c,d=>by
  rw[uf,ug<|b*w,fg,ir,HZ<|h r χ,VW (λr g=>h r<|τ _ g) (by simpa using c) d]
  rfl
def Kp(h:∀ r∈rows,r.length=w)(c:1<=w)(d:k<n*w)(i:b+n<=rows.length):(rows.flatten[b*w+k]?)=some (LU rows (b+k/w) (k%w))/\b+k/w<rows.length/\k%w<w:=by
 have h2:k%w<w:=t_ _<|c
 have h1:=lh (by rw[dq];exact d)
 have e:b*w+k=(b+k/w)*w+k%w:=by
  rw[eq,fg,Ie]
 refine{?_,by lia,h2};rw[e,VW h (by lia) h2];unfold LU
 have g:b+k/w<rows.length:=by lia
 rw[θ _]
 show(rows[b+k/w])[k%w]? =some (((rows[b+k/w])[k%w]?).getD _);rw[θ (ω h2<|ba (h _<|uz _).symm)]
 rfl
def zzc(h:∀ r∈rows,r.length=w)(g:1<=w)(i:b+n<=rows.length)(e:rows.flatten=pre++vs++post)(j:pre.length=b*w)(d:vs.length=n*w):(ρ<|n*w).map (λk=>LU rows (b+k/w) (k%w))=vs:=by
 refine xv λk=>?_;by_cases c:k<n*w
 ·rw[υ,vz c]
  show some _=_;rw[<-((Kp h g c i).1),e,dw,HZ j,bg<|d ▸ c]
 ·rw[bv (by simp;exact cv c),bv<|d ▸ cv c]
def zzd(r:N<=1000)
  (he:∀ k,k<N->∀ c (o:VK),Same H c->(∀ t,c t=none->o (.ref t) (upd c t<|.tup [.int ((b+k/w:Nat):Int),.int ((k%w:Nat):Int)]))->u (some (.int (k:Int))::C0 v x) c o)
  (hd:∀ (l:Addr) (d:wD) (c:Hp),H l=none->Same H c->c l=some (.lst<|d.map V.ref)->Paired (λt (g:Nat × Nat)=>c t=some (.tup [.int g.1,.int g.2])) d ((ρ N).map λk=>(b+k/w,k%w))->Q (.ref l) c):EI (FM 0 N) (AG 0) CQ u 1 v x H Q:=by
 refine MK (BQ _<|oA r rfl) (λi ys c=>Same H c/\∃ d:List _,ys=d.map V.ref/\Paired (λt (g:Nat × Nat)=>c t=some (.tup [.int g.1,.int g.2])) d ((ρ i).map λk=>(b+k/w,k%w))) {Same.refl _,[],rfl,.nil} (λi ys c y z j=>?_) (λys c z j p n=>?_);let[s,d,e,P]:=j;rw[rf];refine he i y c _ s λt q=>{HW s q,d++[t],by rw[e,av];rfl,?_}
 rw[bz,av];exact Paired.snoc (Paired.mapP P λt g e=>AL q _ _ e) AE;let[s,d,rfl,P]:=j;exact hd p d _ (s.free n) (HW s n) AE (Paired.mapP P λt g e=>AL n _ _ e)
def RS{n b w m:Nat}{g o:Addr}{rows:wC}{p:TE}{r:xE}{u:St}{x:VK}{pre us post:cF}(TP:DM K a)(P:PlankAt a H g o w rows m)(y:1<=w)(c:n*w<=1000)(z:b+n<=rows.length)(e:rows.flatten=pre++us++post)(B:pre.length=b*w)(D:us.length=n*w)
  (he:∀ k,k<n*w->∀ d (A:VK),Same H d->(∀ t,d t=none->A (.ref t) (upd d t<|.tup [.int ((b+k/w:Nat):Int),.int ((k%w:Nat):Int)]))->p (some (.int (k:Int))::C0 r u) d A)
  (q:newL us H x):EI (FM 0<|n*w) (AG 0) CQ p 1 r u H (λv I=>LV K a [.ref g,v] I x E):=by
 refine zzd c he λJ L d O s i M=>(x8 g o J w _ m L _ {rfl,TP,P.same s,i,M,λj l=>?_,by rw[ε,cr];exact c,?_})
 let[k,N,rfl]:=ay.mp l;exact(Kp P.wd y (ao.mp N) z).2;rw[lb,show((ρ _).map ((λj:Nat × Nat=>LU _ j.1 j.2) ∘ λk=>(b+k/w,k%w)))=us from(zzc P.wd y z e B D)];exact q.of s
section
variable{u1 u2 u3 u4 u5 u6:V}{rest:xB}
def zze:(("name_values",u1)::rest:xB).lookup ("name_values":Str)=some u1:=rfl
def Kq:(("name_values",u1)::("record_values",u2)::rest:xB).lookup ("record_values":Str)=some u2:=by
 simp[au,BC (a:="record_values") (b:="name_values") (by decide)]
def zzf:(("name_values",u1)::("record_values",u2)::("piece_values",u3)::("record_marks",u4)::("piece_marks",u5)::("leads",u6)::rest:xB).lookup ("leads":Str)=some u6:=by
 simp[au,BC (a:="leads") (b:="name_values") (by decide),BC (a:="leads") (b:="record_values") (by decide),BC (a:="leads") (b:="piece_values") (by decide),BC (a:="leads") (b:="record_marks") (by decide),BC (a:="leads") (b:="piece_marks") (by decide)]
end
def OM(b:zD)(as:wD):xB:=List.zipWith (λk l=>(k,V.ref l)) b as
theorem Kv:∀ {c:zD} {as:wD},c.length=as.length->c.all (λg=> !D0 g f)=true->BS f (.ref l) (OM c as)=OM (c++[f]) (as++[l])
 | [],[],_,_=>rfl
 |k::c,b::as,h,e=>by
  simp only[ve,bx,xw]at e
  show BS f _ ((k,V.ref b)::OM c as)=_;rw[Y3 e.1,Kv (Ga h) e.2]
  rfl
structure VI(C:Addr)(H H':Hp)(x dx:Addr)(ks:zD)(as:wD)(ls:List (Addr × HO)):Prop where
 ob:H' x=some (.ins C dx<|OM ks as)
 s:SameBut (· =x) H H'
 al:∀ p∈ls,H' p.1=some p.2/\p.1≠x
section
variable{C x dx l:Addr}{ks:zD}{as:wD}{ls:List (Addr × HO)}{H1 H2:Hp}{o:HO}
def VI.same(I:VI C H H1 x dx ks as ls)(s:Same H1 H2):VI C H H2 x dx ks as ls:={s _ _ I.ob,I.s.trans s.sb,λp b=>{s _ _ (I.al p b).1,(I.al p b).2}}
def VI.add(I:VI C H H1 x dx ks as ls)(e:H1 l=some o)(no:∀ D d f,o≠.ins D d f:=by intro y y y z;cases z):VI C H H1 x dx ks as ((l,o)::ls):=⟨I.ob,I.s,λp b=>by
 let rfl||b:=aj.mp b
 exact{e,λz=>by rw[show l=x from z,I.ob]at e;exact no _ _ _ (ι e).symm};exact I.al p b⟩
def VI.new(I:VI C H H1 x dx ks as ls)(h:H1 l=none)(no:∀ D d f,o≠.ins D d f:=by intro y y y z;cases z):VI C H (upd H1 l o) x dx ks as ((l,o)::ls):=(I.same<|AL h).add AE no
def VI.put{f:Str}{P:Hp->Prop}(I:VI C H H1 x dx ks as ls)(T:Cls K C)(j:NoAttr K C f)(q:∀ i,VI C H i x dx (ks++[f]) (as++[l]) ls->P i)(n:ks.length=as.length:=by rfl)(hf:ks.all (λg=> !D0 g f)=true:=by decide +kernel)(h9:ks.length<1000:=by decide) :
  ∃ D d b,H1 x=some (.ins D d b)/\Cls K D/\NoAttr K D f/\b.length<1000/\P (upd H1 x<|.ins D d<|BS f (.ref l) b) :=
 {_,_,_,I.ob,T,j,cf (by unfold OM;rw[List.length_zipWith];exact Nat.min_le_left _ _) h9,q _ {by rw[AE,Kv n hf],I.s.trans λy o e r=>by rw[AI r];exact e,λp c=>{by rw[AI (I.al p c).2];exact(I.al p c).1,(I.al p c).2}}}
end
def RU{b k w:Nat}{z:Int}{Q:VK}(hz:z=b)(q:∀ t,H t=none->Q (.ref t) (upd H t<|.tup [.int ((b+k/w:Nat):Int),.int ((k%w:Nat):Int)])):G4 (z+(k:Int)/(w:Int)) ((k:Int)%(w:Int)) Q H:=by
 have c:z+k/w=((b+k/w:Nat)):=by rw[hz];simp
 rw[c];exact q
def PlankAt.off{c:Hp}{b d x j C:Addr}{w m:Nat}{rows:wC}{fs:xB}(P:PlankAt a H b d w rows m)(g:H x=some (.ins C j fs))(l:b≠x)(s:SameBut (· =x) H c):PlankAt a c b d w rows m:=by
 let[[n,o],[p,i,q],u,v,y]:=P;exact{{n,s _ _ o l},{p,s _ _ i (BI i g (by intro z;cases z)),Paired.mapP q λt r e=>s _ _ e (BI e g (by intro z;cases z))},u,v,y}
example:(zzg,RE,Aq,6):=by
 apply OW;intro x dx ly gp cl n r c w rows m B [rfl,T,TL,TP,hx,L,P,KU,[[v1,J,v3,v4,v5,ef,P1,P2,P3,P4,P5],ln,lr,O,ok],q];let[dl,IU]:=L.ob;let[u,b1,b2,b3,b4,b5]:=id L
 have q1:=P1.length
 have q3:=P3.length
 have q2:=P2.length
 have q4:=P4.length
 have ok1:=ok.l1
 have q5:=P5.length
 have ok2:=ok.l2
 have br:=ok.br
 have bp:=ok.bp
 have bn:=ok.bn;refine y2 {IU,BZ (by decide +kernel),x5 ly n r c w {rfl,TL,L,λt ht=>?_}};let[H1,zz0,s1,et]:=D3 (o:=.tup [.int ((n:Int)*w),.int<|(r:Int)*w,.int<|(c:Int)*w]) ht;rw[zz0];refine BT et (n:=1) rfl rfl (BT et (n:=2) rfl rfl ?_);erw[Aq3_];refine BT et (n:=0) rfl rfl ?_
 have cn:∀ k:Nat,((k:Int)*w)=((k*w:Nat):Int):=λk=>by simp
 have ngx:gp≠x:=λz=>by
  let[dp,e]:=P.ob;rw[z,hx]at e
  have e:=(HO.ins.inj<|ι e).2.2;simp[pf]at e
 have nlx:ly≠x:=λz=>by
  rw[z,hx]at IU
  have IU:=(HO.ins.inj<|ι IU).2.2;simp[lf]at IU
 have L':∀ {j:Hp},SameBut (· =x) H j->LayAt a j ly n r c w:=λs=>L.sb s nlx
 have V1:VI (a "View") H H1 x dx [] [] []:={s1 _ _ hx,s1.sb,λp M=>by cases M}
 have P':∀ {j:Hp},SameBut (· =x) H j->PlankAt a j gp cl w rows m:=λs=>P.off hx ngx s;rw[cn n,cn r,cn c];refine{i0,by lia,?_};refine RS (n:=n) (b:=0) (us:=v1) (pre:=[]) (post:=J++v3++v4++v5) TP (P' V1.s) b4 (oA (ψ (ba ln.symm) bn) rfl) (by lia) (by rw[ef];simp) (by simp) (ln ▸ q1) (λk A j Q' s U=>?_) λan H2 han s2 ean=>((V1.same s2).add ean).put T.cl T.n1 λH3 V2=>?_
 have D:=L'<|V1.s.trans s.sb;let[Y,g]:=D.ob;exact y2 {g,BZ (by decide +kernel),x6 ly n r c w k {rfl,TL,D,RU (by simp) U}};erw[Aq4_];refine{i0,by lia,RS (n:=r) (b:=n) (us:=J) (pre:=v1) (post:=v3++v4++v5) TP (P' V2.s) b4 (by lia) (by lia) (by simp[ef]) (by first|(simp only[ai,eq];lia)|exact ln ▸ q1) (lr ▸ q2) (λk A j Q' s U=>?_) λar H4 h4 s4 e4=>((V2.same s4).add e4).put T.cl T.n2 λH5 V3=>?_}
 have D:=L'<|V2.s.trans s.sb;let[Y,g]:=D.ob;exact y2 {g,BZ (by decide +kernel),x6 ly n r c w k {rfl,TL,D,RU (by simp) U}};erw[Aq5_];refine{i0,by lia,RS (n:=c) (b:=n+r) (us:=v3) (pre:=v1++J) (post:=v4++v5) TP (P' V3.s) b4 (oA (ψ (ba O.symm) bp) rfl) (by lia) (by simp[ef]) (by first|(simp only[ai,eq];lia)|lia) (O ▸ q3) (λk A j Q' s U=>?_) λap H4 h4 s4 e4=>((V3.same s4).add e4).put T.cl T.n3 λH5 V4=>?_}
 have D:=L'<|V3.s.trans s.sb;let[Y,g]:=D.ob;exact y2 {g,BZ (by decide +kernel),x6 ly n r c w k {rfl,TL,D,RU (by simp) U}};erw[Aq6_];refine{i0,by lia,RS (n:=r) (b:=n+r+c) (us:=v4) (pre:=v1++J++v3) (post:=v5) TP (P' V4.s) b4 (by lia) (by lia) (by simp[ef]) (by first|(simp only[ai,eq];lia)|lia) (by lia) (λk A j Q' s U=>?_) λam H4 h4 s4 e4=>((V4.same s4).add e4).put T.cl T.n4 λH5 V5=>?_}
 have D:=L'<|V4.s.trans s.sb;let[Y,g]:=D.ob;exact y2 {g,BZ (by decide +kernel),x6 ly n r c w k {rfl,TL,D,RU (by simp) U}};erw[Aq7_];refine{i0,by lia,RS (n:=c) (b:=n+r+c+r) (us:=v5) (pre:=v1++J++v3++v4) (post:=[]) TP (P' V5.s) b4 (oA (ψ (ba O.symm) bp) rfl) (ba KU.symm) (by simp[ef]) (by first|(simp only[ai,eq];lia)|lia) (by lia) (λk A j Q' s U=>?_) λaq H4 h4 s4 e4=>((V5.same s4).add e4).put T.cl T.n5 λH5 V6=>?_}
 have D:=L'<|V5.s.trans s.sb;let[Y,g]:=D.ob;exact y2 {g,BZ (by decide +kernel),x6 ly n r c w k {rfl,TL,D,RU (by simp) U}};erw[Aq8_]
 have P1':=Paired.mapP P1 λv c=>NmV.keep λy xs e=>V6.s _ _ e (BI e hx (by intro z;cases z))
 have ean2:=(V6.al (an,.lst v1) (by simp)).1;refine y3 {V6.ob,T.cl,T.n1,_,zze,.inl {{_,SqL.of ean2},(YC (xs:=v1) (λi=>(AY B.nm i).isSome) (BQ _<|oA (ψ (ba q1) bn) rfl) (λi ys j=>j=H5/\ys=AQ (MV<|B.nm.take i)) ⟨rfl,rfl⟩ (λi ys j u ⟨e,e'⟩=>{e ▸ SqL.of ean2,?_}) (λi v ys j hv hzz QB qb=>?_) (λi v ys j hv M hzz=>?_) (λi v ys j hv M ⟨e,e'⟩=>{e,?_}) (λys j hzz p M=>?_))}};rw[e',HX];exact ψ (fq ..) (by rw[df];lia);let[c',ec,hr]:=KR P1' hv;erw[];rw[zyr hr];unfold AY at qb;rw[ec]at qb;simpa using qb;let[rfl,e']:=hzz;let[c',ec,hr]:=KR P1' hv
 have:c'.isSome=true:=by
  unfold AY at M;rw[ec]at M;exact M
 let[d,rfl]:=dt.mp this;let[p,rfl,hp']:=hr;refine BT hp' (n:=1) rfl rfl {rfl,?_};rw[e',JQ ec];unfold MV AQ;rw[List.filterMap_append,av]
 rfl;let[c',ec,hr]:=KR P1' hv
 have:c'=none:=by
  unfold AY at M;rw[ec]at M;cases c' with
  |none=>rfl
  |some _=>cases M
 subst this;rw[e',JQ ec];unfold MV AQ;simp;let[rfl,e']:=hzz;rw[q1,ca]at e';let[H12,zz0,DB,e12]:=D3 (o:=.lst<|AQ<|MV B.nm) M;subst e';rw[zz0];refine x3 (r*w) p (MV B.nm) {rfl,e12,λk A=>?_,by lia,oA (ψ (fq ..) bn) rfl,λal H13 hal s13 eal=>((V6.same<|DB.trans s13).add eal).put T.cl T.n6 λH14 V7=>?_};let[d,h1,h2]:=mw.mp A;rw[af]at h2;let[c2,rfl,rfl]:=h2;rw[<-lr];exact(ok.n1 c2 h1).1
 have tkx:∀ {j:Hp} {ks as ls},VI (a "View") H j x dx ks as ls->EA H j:=λI y xs e=>I.s _ _ e (BI e hx (by intro z;cases z))
 have rcs:∀ {j:Hp} {ks as ls},VI (a "View") H j x dx ks as ls->j ar=some (.lst J)->LstAt RcV j ar B.rc:=λI e=>{J,e,Paired.mapP P2 λv c=>RcV.keep<|tkx I}
 have n10:∀ d,some d∈B.rc->d.2.length<=20:=λd h=>(ok.n2 d h).2
 have pb:∀ (l:List JN),l.length<=100->(∀ d,some d∈l->d.2.length<=20)->(E3 l).length<=2000:=λl hl h=>by
  have:(E3 l).length<=l.length * 20:=by
   clear hl
   induction l with
   |nil=>simp[E3]
   |cons y l ih =>
    have ih:=ih λd hc=>h d<|τ _ hc;unfold E3 at ih ⊢;rw[List.flatMap_cons,ai,b_]
    have:(LS y).length<=20:=by
     cases y with
     |none=>simp[LS]
     |some c=>exact h c χ
    lia
  lia
 erw[Aq9_];refine y3 {V7.ob,T.cl,T.n2,_,Kq,x2 ar B.rc {rfl,rcs V7 ((V7.al (ar,.lst J) (by simp)).1),br,n10,λpl H15 B9 s15 epl=>x3 (c*w) pl (E3 B.rc) {rfl,epl,λk A=>?_,oA (ψ (ba O.symm) bp) rfl,by have:=pb _ br n10;lia,λag H16 hag s16 eag=>((V7.same<|s15.trans s16).add eag).put T.cl T.n7 λH17 V8=>?_}}}
 ·unfold E3 at A;let[d,h1,h2]:=mn.mp A;cases d with
  |none=>cases h2
  |some d =>
   rw[<-O];exact(ok.n2 d h1).1 k h2
 have hal':H17 al=some (.lst<|AQ<|(ρ B.rc.length).map (led B)):=by rw[lr];exact(V8.al _<|.tail _<|.head _).1
 have ltm:∀ d,some d∈LT B->some d∈B.rc:=λd h=>by
  unfold LT at h;let[k,u,A]:=ay.mp h;unfold AY at A;cases e:B.rc[k]? with
  |none=>rw[e]at A;cases A
  |some y =>
   rw[e]at A
   have A:y=some d:=A;exact A ▸ η e
 have ltl:(LT B).length<=100:=by
  unfold LT;rw[ε];exact ψ (cz ..) (by rw[cr];exact br)
 erw[Aq10_];refine y2 {V8.ob,?_,x4 x ar al B {rfl,T,y2 ⟨V8.ob,Kq⟩,y2 ⟨V8.ob,zzf⟩,rcs V8 ((V8.al (ar,.lst J) (by simp)).1),hal',br,λlt H18 A0 s18 EW=>x2 lt (LT B) {rfl,EW,ltl,λd h=>n10 d<|ltm d h,λpl2 H19 hpl2 s19 epl2=>x3 (c*w) pl2 (E3<|LT B) {rfl,epl2,λk A=>?_,oA (ψ (ba O.symm) bp) rfl,by have:=pb _ ltl<|λd h=>n10 d<|ltm d h;lia,λah H20 hah s20 eah=>((V8.same<|(s18.trans s19).trans s20).add eah).put T.cl T.n8 λH21 N=>?_}}}}
 ·simp[OM,au,BC (a:="records_led_to") (b:="name_values") (by decide +kernel),BC (a:="records_led_to") (b:="record_values") (by decide +kernel),BC (a:="records_led_to") (b:="piece_values") (by decide +kernel),BC (a:="records_led_to") (b:="record_marks") (by decide +kernel),BC (a:="records_led_to") (b:="piece_marks") (by decide +kernel),BC (a:="records_led_to") (b:="leads") (by decide +kernel),BC (a:="records_led_to") (b:="namings") (by decide +kernel)]
 ·unfold E3 at A;let[d,h1,h2]:=mn.mp A;cases d with
  |none=>cases h2
  |some d =>
   rw[<-O];exact(ok.n2 d<|ltm d h1).1 k h2
 have tk:=tkx N;refine q ⟨an,ar,ap,am,aq,al,ag,ah⟩ _ {⟨dx,N.ob⟩,{v1,(N.al (an,.lst v1) (by simp)).1,Paired.mapP P1 λv c=>NmV.keep tk},{J,(N.al (ar,.lst J) (by simp)).1,Paired.mapP P2 λv c=>RcV.keep tk},{v3,(N.al (ap,.lst v3) (by simp)).1,Paired.mapP P3 λv c=>PcV.keep tk},{v4,(N.al (am,.lst v4) (by simp)).1,Paired.mapP P4 λv c=>MkV.keep tk},{v5,(N.al (aq,.lst v5) (by simp)).1,Paired.mapP P5 λv c=>MkV.keep tk},by rw[lr];exact(N.al _<|.tail _<|.tail _<|.head _).1,by rw[O];exact(N.al _<|.tail _<|.head _).1,by rw[O];exact(N.al _<|.head _).1,ok} N.s
def PlV.same(h:PlV H rows n r c w b)(tk:EA H d):PlV d rows n r c w b:=by
 let[[v1,e,g,v4,i,j,l,o,P3,p,q],s,x2,x3,x4]:=h;exact{x5 v1 e g v4 i {j,Paired.mapP l λv c=>NmV.keep tk,Paired.mapP o λv c=>RcV.keep tk,Paired.mapP P3 λv c=>PcV.keep tk,Paired.mapP p λv c=>MkV.keep tk,Paired.mapP q λv c=>MkV.keep tk},s,x2,x3,x4}
def Ground.same(g:Ground K a H b d e)(s:Same H i):Ground K a i b d e:=by
 revert g;apply u7;intro j n r c w rows m [T,l,TP,L,P,o,pv];exact x7 j n r c w _ m {T,l,TP,L.same s,P.same s,o,pv.same s.tk}
def Ground.ok{d e:Addr}{b:Vw}(g:Ground K a H d e b):EK b:=by
 revert g;apply u7;intro i n r c w rows m [T,j,TP,L,P,l,pv];exact pv.ok
def Kw{j l:Addr}{p:Vw}{Q:Addr->Hp->Prop}(g:Ground K a H j l p)(q:TV K a->∀ x A d,ViewAt a d x A p->Same H d->Q x d) :
  ∀ x b,H x=none->H b=none->b≠x->RE K a [.ref x,.ref j,.ref l] (upd (upd H b<|.own x) x (.ins (a "View") b [])) (λv d=>v=.non/\Q x d) E:=λx b u z nd=>by
 have i:Same H (upd (upd H b<|.own x) x (.ins (a "View") b [])):=(AL z).trans (AL (by rw[AI nd.symm];exact u));revert g;apply u7;intro B n r c w rows m [T,D,TP,L,P,J,pv];exact OV x b j l B n r c w _ m p {rfl,T,D,TP,AE,L.same i,P.same i,J,pv.same i.tk,λA M I s=>{rfl,q T x A M I λy o e=>s _ _ (i _ _ e) (BJ e u)}}
example:(zzh,N9,Bq,3):=by
 apply u3;intro l n b [rfl,g,q];let[o,p,r,s,u,v]:=VT g.ok;refine Kw g λT x A w I e=>(x3 x A b {rfl,T,I,λy z h2 c i=>x3 x A b {rfl,T,I.same c,λl2 B h3 d j=>JR (i.same d) j ?_ (q.of<|(e.trans c).trans d)}})
 unfold faults FC;simp only[ai]
 lia
example:(zzi,Z4,bU,2):=by
 apply u3;intro n o b [rfl,g,q];erw[bU,bU0_];refine Kw g λT x A p I c=>x3 x A b {rfl,T,I,λr d h2 i j=>?_};let[ps,e,P]:=j;refine{_,.inl {_,SqL.of e,by rw[ε,P.length]},?_}
 have l:decide (((faults b).length:Int)=0)=decide (faults b=[]):=by
  rw[decide_eq_decide];constructor;intro h;exact cu.mp (by lia);intro h;rw[h];rfl
 rw[l];exact(q d<|c.trans i)
def Kx(b:Vw):FC b=(FD b).map (tP b):=by
 unfold FC MW MX MY FD DJ;simp only[av,lb]
 rfl
def L6{α :Type}{f:Nat->Option α}{n k:Nat}:AY ((ρ n).map f) k=if k<n then f k else none:=by
 unfold AY;by_cases h:k<n;rw[if_pos h,υ,vz h]
 rfl;rw[if_neg h,bv (by simp;exact cv h)]
 rfl
def VX{α :Type}{l:List (Option α)}{k:Nat}(h:¬ k<l.length):AY l k=none:=by
 unfold AY;rw[bv (cv h)]
 rfl
section
variable{vw:Vw}
def c7(r:Nat):AY (mended vw).rc r=FU vw r:=by
 show AY ((ρ _).map _) r=_;rw[L6];split
 rfl;rename_i h;unfold FU;rw[VX h]
def c8(ok:EK vw)(r:Nat):AY (mended vw).rm r=KM vw r:=by
 show AY ((ρ _).map _) r=_;rw[L6];split
 rfl;rename_i h;unfold KM;rw[VX h,(VX (by rw[ok.l1];exact h))];simp
def Ky(ok:EK vw)(p:Nat):AY (mended vw).pm p=MZ vw p:=by
 show AY ((ρ _).map _) p=_;rw[L6];split
 rfl;rename_i h;unfold MZ;rw[(VX (by rw[ok.l2];exact h))];simp
def zzj{r:Nat}{d:Int × xE}(h:FU vw r=some d):∃ c,AY vw.rc r=some c/\0<led vw r/\d=((led vw r:Int),c.2):=by
 unfold FU at h;cases e:AY _ r with
 |none=>rw[e]at h;cases h
 |some c =>
  rw[e]at h;by_cases h0:led vw r=0;simp only[h0]at h;cases h;simp only[h0,if_false,xq]at h;exact{c,rfl,m_ h0,h.symm}
def Kz{r:Nat}{c:Int × xE}(h:AY vw.rc r=some c)(b:0<led vw r):FU vw r=some ((led vw r:Int),c.2):=by
 unfold FU;rw[h];simp only;rw[if_neg (gr b)]
def VY(ok:EK vw):EK (mended vw):=by
 refine{λc h=>?_,λc h=>?_,ok.n3,?_,?_,ok.bn,?_,ok.bp}
 show c.2<((ρ _).map _).length/\_;simp only[ε,cr];exact ok.n1 c h;let[r,z,b]:=ay.mp h;let[d,hd,z,rfl]:=zzj b;exact ok.n2 d<|zyn hd
 show((ρ _).map _).length=((ρ _).map _).length;simp
 show((ρ _).map _).length=vw.pc.length;simp
 show((ρ _).map _).length<=100;simp only[ε,cr];exact ok.br
end
theorem ON{α b c :Type}{F: α -> b ->Prop}{G: α -> c ->Prop}{f: b -> c}(k:∀ x y,G x (f y)->F x y):∀ {l:List α} {m:List b},Paired G l (m.map f)->Paired F l m
 |_,[],h=>by cases h;exact .nil
 |_,y::m,h=>by
  cases h with
  |cons h t=>exact .cons (k _ _ h) (ON k t)
theorem RV{α d :Type}{F: α -> d ->Prop}:∀ {bs:List d} {l:List α} {c:List d},Paired F l (bs++c)->∃ x y,l=x++y/\Paired F x bs/\Paired F y c
 | [],l,c,h=>x2 [] l {rfl,.nil,h}
 |b::bs,l,c,h=>by
  cases h with
  |cons h t =>
   refine u2 ?_<|RV t;intro x y [rfl,e,g];exact x2 _ y {rfl,.cons h e,g}
def PlV.asC{rows:wC}{n r c w:Nat}{b:Vw}(h:PlV H rows n r c w b):Paired (CelV H) rows.flatten (D2 b):=by
 refine u5 ?_ h.vs;intro v1 l o v4 p [d,e,g,P3,i,j];rw[d];exact OK (OK (OK (OK (OH e λz z h=>h) (OH g λz z h=>h)) (OH P3 λz z h=>h)) (OH i λz z h=>h)) (OH j λz z h=>h)
def PlV.of{rows:wC}{n r c w:Nat}{b:Vw}(P:Paired (CelV H) rows.flatten (D2 b))(d:b.nm.length=n*w)(e:b.rc.length=r*w)(g:b.pc.length=c*w)(ok:EK b):PlV H rows n r c w b:=by
 refine u2 ?_<|RV P;intro x4 i [j,P,l];refine u2 ?_<|RV P;intro x3 v4 [o,P,p];refine u2 ?_<|RV P;intro x2 q [s,P,P3];refine u2 ?_<|RV P;intro v1 u [v,x,y];exact{x5 v1 u q v4 i {by rw[j,o,s,v],ON  (f:=Cel.nm) (λz z h=>h) x,ON  (f:=Cel.rc) (λz z h=>h) y,ON  (f:=Cel.pc) (λz z h=>h) P3,ON  (f:=Cel.mk) (λz z h=>h) p,ON  (f:=Cel.mk) (λz z h=>h) l},d,e,g,ok}
theorem CelV.keep{b:Hp}(tk:EA H b){v:V}:∀ {c:Cel},CelV H v c->CelV b v c
 |.nm _,h=>NmV.keep tk h
 |.rc _,h=>RcV.keep tk h
 |.pc _,h=>PcV.keep tk h
 |.mk _,h=>MkV.keep tk h
def zzk{α :Type}{l:List (Option α)}{k:Nat}(h:k<l.length):l[k]? =some (AY l k):=by
 unfold AY;rw[θ h]
 rfl
def Lc(b:Vw)(ok:EK b):(D2 b).length=b.nm.length+b.rc.length+b.pc.length+b.rc.length+b.pc.length:=by
 unfold D2;simp only[ai,ε,ok.l1,ok.l2]
def RW{α b :Type}{f:Option α -> b}{l:List (Option α)}{c:List b}{k:Nat}(h:k<l.length):(l.map f++c)[k]? =some (f<|AY l k):=by
 rw[bg (by rwa [ε]),υ,zzk h]
 rfl
section
variable{vw:Vw}{N R P k:Nat}
def RX(vw:Vw):D2 vw=vw.nm.map .nm++(vw.rc.map .rc++(vw.pc.map .pc++(vw.rm.map .mk++(vw.pm.map .mk++[])))):=by simp[D2]
def c9(h1:vw.nm.length=N)(h:k<N):(D2 vw)[k]? =some (.nm<|AY vw.nm k):=by
 subst h1;rw[RX,RW h]
def OO(h1:vw.nm.length=N)(h2:vw.rc.length=R)(h:k<R):(D2 vw)[N+k]? =some (.rc<|AY vw.rc k):=by
 subst h1 h2;rw[RX,HZ<|ε _,RW h]
def dA(h1:vw.nm.length=N)(h2:vw.rc.length=R)(h3:vw.pc.length=P)(h:k<P):(D2 vw)[N+R+k]? =some (.pc<|AY vw.pc k):=by
 subst h1 h2 h3;rw[RX,fg,HZ<|ε _,HZ<|ε _,RW h]
def RY(ok:EK vw)(h1:vw.nm.length=N)(h2:vw.rc.length=R)(h3:vw.pc.length=P)(h:k<R):(D2 vw)[N+R+P+k]? =some (.mk<|AY vw.rm k):=by
 subst h1 h2 h3;rw[RX,fg,fg,HZ<|ε _,HZ<|ε _,HZ<|ε _,RW<|ok.l1 ▸ h]
def VZ(ok:EK vw)(h1:vw.nm.length=N)(h2:vw.rc.length=R)(h3:vw.pc.length=P)(h:k<P):(D2 vw)[N+R+P+R+k]? =some (.mk<|AY vw.pm k):=by
 subst h1 h2 h3;rw[RX,fg,fg,fg,HZ<|ε _,HZ<|ε _,HZ<|ε _,HZ<|(ε _).trans ok.l1,RW<|ok.l2 ▸ h]
def Ld{f:Nat}{A:Nat->Prop}(h0:f<N->A f)(h3:∀ k,k<R->A (N+k))(h4:∀ k,k<P->A (N+R+k))(h1:∀ k,k<R->A (N+R+P+k))(h2:∀ k,k<P->A (N+R+P+R+k))(hf:f<N+R+P+R+P):A f:=by
 let h||h:=ff f N
 exact h0 h;let[f,rfl]:=io h;let h||h:=ff f R
 exact h3 f h;let[f,rfl]:=io h;rw[<-fg]at hf ⊢;let h||h:=ff f P
 exact h4 f h;let[f,rfl]:=io h;rw[<-fg]at hf ⊢;let h||h:=ff f R
 exact h1 f h;let[f,rfl]:=io h;rw[<-fg]at hf ⊢;exact h2 f<|Nat.lt_of_add_lt_add_left hf
end
def zzl(h:DJ n p f=[])(b:k<n):p k=false:=by
 simpa using (za.mp (Bt.mp h) k (ao.mpr b))
def zzm(h:faults b=[])(c:r<b.rc.length):JO b r=false:=zzl (um.mp<|(um.mp (um.mp h).1).2).2 c
def Lg{b:Vw}{c:Lv}(h:c∈FD b):(∃ r,c=.many r/\r<b.rc.length/\GA b r=true)\/(∃ r,c=.leftR r/\r<b.rc.length/\(AY b.rc r).isSome=true/\led b r=0)\/(∃ p,c=.leftP p/\p<b.pc.length/\AY b.pm p=some 1/\GT b p=0)\/∃ r,c=.marked r/\r<b.rc.length/\AY b.rm r=some 1/\AY b.rc r=none:=by
 unfold FD at h;simp only[bc,ay,c_,ao,bx,decide_eq_true_eq]at h;rcases h with((⟨r,h,rfl⟩|⟨r,h,rfl⟩)|⟨p,h,rfl⟩)|⟨r,h,rfl⟩
 exact .inl ⟨r,rfl,h.1,h.2⟩;exact .inr<|.inl ⟨r,rfl,h.1,h.2.1,h.2.2⟩;exact .inr<|.inr<|.inl ⟨p,rfl,h.1,h.2.1,h.2.2⟩;exact .inr<|.inr<|.inr {r,rfl,h.1,h.2.1,xg.mp h.2.2}
section
variable{vw:Vw}{n r c w:Nat}
def zzn(ok:EK vw)(p:vw.nm.length=n*w)(i:vw.rc.length=r*w)(j:vw.pc.length=c*w)(h:q∈FD vw)(b:l∈E5 vw n r c w q):(D2<|mended vw)[l.1]? =some l.2:=by
 have g2:(mended vw).rc.length=r*w:=by
  show((ρ vw.rc.length).map (FU vw)).length=_;simp[i]
 have g:=VY ok
 have g1:(mended vw).nm.length=n*w:=p
 have g3:(mended vw).pc.length=c*w:=j;let[k,rfl,e,s]||[k,rfl,e,hs,o]||[k,rfl,e,h1,h2]||[k,rfl,e,h1,h2]:=Lg h
 ·simp only[E5,aa]at b;subst b;rw[OO g1 g2 (i ▸ e),c7]
 ·let[d,hd]:=dt.mp hs;simp only[E5,aj,bt,or_false]at b;let rfl||rfl:=b
  ·rw[OO g1 g2 (i ▸ e),c7];unfold FU;rw[hd];simp[o]
  ·simp only[eq];rw[RY g g1 g2 g3 (i ▸ e),c8 ok];unfold KM;rw[hd];simp[o]
 ·simp only[E5,aa]at b;subst b;simp only[eq];rw[VZ g g1 g2 g3 (j ▸ e),Ky ok];unfold MZ;rw[if_pos ⟨h1,h2⟩]
 ·simp only[E5,aa]at b;subst b;simp only[eq];rw[RY g g1 g2 g3 (i ▸ e),c8 ok];unfold KM;rw[h2];simp[h1]
def zzo(ok:EK vw)(l:vw.nm.length=n * w)(j:vw.rc.length=r * w)(o:vw.pc.length=c * w)(q:faults vw=[])(hf:f<n * w+r * w+c * w+r * w+c * w):(∀ s∈FD vw,∀ u∈E5 vw n r c w s,u.1≠f)->(D2<|mended vw)[f]? =(D2 vw)[f]? :=by
 have g2:(mended vw).rc.length=r*w:=by
  show((ρ vw.rc.length).map (FU vw)).length=_;simp[j]
 have p:=VY ok
 have g1:(mended vw).nm.length=n*w:=l
 have g3:(mended vw).pc.length=c*w:=o;refine Ld (A:=λf=>(∀ s∈FD vw,∀ u∈E5 vw n r c w s,u.1≠f)->(D2<|mended vw)[f]? =(D2 vw)[f]?) (λh b=>?_) (λk g b=>?_) (λk g b=>?_) (λk g b=>?_) (λk g b=>?_) hf
 ·rw[c9 g1 h,c9 l h];rfl
 ·rw[OO g1 g2 g,OO l j g,c7]
  have i:k<vw.rc.length:=j.symm ▸ g
  congr 2
  cases e:AY vw.rc k with
  |none=>unfold FU;rw[e]
  |some d =>
   have h0:0<led vw k:=by
    rcases ni (led vw k)with z|z
    ·refine absurd rfl (b (.leftR k) ?_ (n*w+k,.rc none) (by simp[E5]));unfold FD;simp only[bc,ay,c_,ao,bx,decide_eq_true_eq];exact .inl (.inl (.inr {k,{i,by rw[e];rfl,z},rfl}))
    ·exact z
   have h1:¬ ((led vw k:Int)<d.1):=λz=>by
    refine absurd rfl (b (.many k) ?_ (n*w+k,.rc<|FU vw k) (by simp[E5]));unfold FD;simp only[bc,ay,c_,ao,bx,decide_eq_true_eq];refine .inl<|.inl<|.inl {k,{i,?_},rfl};unfold GA;rw[e];simp[h0,z]
   have h2:=zzm q i;unfold JO at h2;rw[e]at h2;rw[Kz e h0]
   have:d.1=(led vw k:Int):=by lia
   rw[<-this]
 ·rw[dA g1 g2 g3 g,dA l j o g];rfl
 ·rw[RY p g1 g2 g3 g,RY ok l j o g,c8 ok]
  have i:k<vw.rc.length:=j.symm ▸ g
  congr 2
  cases e:AY vw.rc k with
  |none =>
   unfold KM;rw[e];simp only;rw[if_neg];intro z;refine absurd (by simp only[eq]) (b (.marked k) ?_ ((n+r+c)*w+k,.mk<|some 0) (by simp[E5]));unfold FD;simp only[bc,ay,c_,ao,bx,decide_eq_true_eq];exact .inr {k,{i,z,by rw[e];rfl},rfl}
  |some d =>
   unfold KM;rw[e];simp only;rw[if_neg];intro z;refine absurd (by simp only[eq]) (b (.leftR k) ?_ ((n+r+c)*w+k,.mk<|some 0) (by simp[E5]));unfold FD;simp only[bc,ay,c_,ao,bx,decide_eq_true_eq];exact .inl (.inl (.inr {k,{i,by rw[e];rfl,z},rfl}))
 ·rw[VZ p g1 g2 g3 g,VZ ok l j o g,Ky ok]
  congr 2
  unfold MZ;rw[if_neg];intro[v,x];refine absurd (by simp only[eq]) (b (.leftP k) ?_ ((n+r+c+r)*w+k,.mk<|some 0) (by simp[E5]));unfold FD;simp only[bc,ay,c_,ao,bx,decide_eq_true_eq];exact .inl<|.inr {k,{o.symm ▸ g,v,x},rfl}
end
def E7:Cel->yd
 |.nm none=>.none
 |.nm (some c)=>.tuple [.str c.1,.int c.2]
 |.rc none=>.none
 |.rc (some c)=>.tuple [.int c.1,.tuple<|c.2.map λ(k:Nat)=>Do k]
 |.pc none=>.none
 |.pc (some s)=>.str s
 |.mk none=>.none
 |.mk (some i)=>.int i
def zzp(l:xE):∀ {n:Nat},Paired (Dat K H n) (AQ l) (l.map λ(k:Nat)=>Do k):=by
 induction l with
 |nil=>exact .nil
 |cons x r b=>exact .cons (.int _) b
def CelV.dat:∀ {c:Cel},CelV H v c->c.ok->Dat K H 2 v (E7 c)
 |.nm none,h,_=>by cases (h);exact Dat.non
 |.nm (some c),h,o=>by
  let[p,rfl,e]:=(h)
  exact Dat.tup  (SqT.of e) (.cons {.str _,o,bh _} (.cons (Dat.int _) .nil))
 |.rc none,h,_=>by cases (h);exact Dat.non
 |.rc (some c),h,_=>by
  refine u2 ?_<|h;intro p q [rfl,e,b];exact Dat.tup  (SqT.of e) (.cons (Dat.int _) (.cons (Dat.tup  (SqT.of b) (zzp _)) .nil))
 |.pc none,h,_=>by cases (h);exact Dat.non
 |.pc (some s),h,o=>by
  cases (h);exact{.str s,o,bh _}
 |.mk none,h,_=>by cases (h);exact Dat.non
 |.mk (some i),h,_=>by cases (h);exact Dat.int i
theorem Lh:∀ (l m:xE),sx (l.map λ(k:Nat)=>Do k) (m.map λ(k:Nat)=>Do k)=decide (l=m)
 | [],[]=>rfl
 | [],_::_=>rfl
 |_::_,[]=>rfl
 |x::l,y::m=>by
  show((x ==(y:Int))&&sx _ _)=_;rw[Lh l m];simp
  lia
def zzq:∀ {c b:Cel},c.kind=b.kind->ii (E7 c) (E7 b)=decide (c=b)
 | .nm c,.nm b,_=>by
  cases c with
  |none=>cases b<;>simp[E7,ii]
  |some c =>
   cases b with
   |none=>simp[E7,ii]
   |some d =>
    let[s,k]:=c;let[e,g]:=d;simp[E7,ii,sx]
    lia
 | .rc c,.rc b,_=>by
  cases c with
  |none=>cases b<;>simp[E7,ii]
  |some c =>
   cases b with
   |none=>simp[E7,ii]
   |some d =>
    let[s,k]:=c;let[e,g]:=d;rw[ku];simp[E7,ii,sx,Lh]
 | .pc c,.pc b,_=>by
  cases c with
  |none=>cases b<;>simp[E7,ii]
  |some c =>
   cases b with
   |none=>simp[E7,ii]
   |some d =>
    rw[ku];simp[E7,ii]
 | .mk c,.mk b,_=>by
  cases c with
  |none=>cases b<;>simp[E7,ii]
  |some c =>
   cases b with
   |none=>simp[E7,ii]
   |some d =>
    rw[ku];simp[E7,ii]
 |.nm _,.rc _,h=>by cases h
 |.nm _,.pc _,h=>by cases h
 |.nm _,.mk _,h=>by cases h
 |.rc _,.nm _,h=>by cases h
 |.rc _,.pc _,h=>by cases h
 |.rc _,.mk _,h=>by cases h
 |.pc _,.nm _,h=>by cases h
 |.pc _,.rc _,h=>by cases h
 |.pc _,.mk _,h=>by cases h
 |.mk _,.nm _,h=>by cases h
 |.mk _,.rc _,h=>by cases h
 |.mk _,.pc _,h=>by cases h
theorem Lj:∀ {cs b:yE},cs.map Cel.kind=b.map Cel.kind->sx (cs.map E7) (b.map E7)=decide (cs=b)
 | [],[],_=>rfl
 | [],_::_,h=>by cases h
 |_::_,[],h=>by cases h
 |x::l,y::m,h=>by
  injection h with h1 h2
  show(ii _ _&&sx _ _)=_;rw[zzq h1,Lj h2];simp
def Ll(h:Paired (CelV H) xs cs)(ok:∀ c∈cs,c.ok):Paired (Dat K H 2) xs (cs.map E7):=by
 induction h with
 |nil=>exact .nil
 |cons h t b=>exact .cons (h.dat<|ok _ χ) (b λc d=>ok c<|τ _ d)
def zzr{p q:Addr}{xs ys:cF}{cs b:yE}(h1:H p=some (.lst xs))(h2:H q=some (.lst ys))(g:Paired (CelV H) xs cs)(i:Paired (CelV H) ys b)(j:∀ c∈cs,c.ok)(l:∀ c∈b,c.ok)(n:cs.map Cel.kind=b.map Cel.kind)(o:Q (.bl<|!decide (cs=b)) H):LA K (.ref p) (.ref q) H Q:=by
 have d:Dat K H 3 _ _:=Dat.lst (SqL.of h1) (Ll g j)
 have e:Dat K H 3 _ _:=Dat.lst (SqL.of h2) (Ll i l);refine y2 {d.1,e.1,d.shp (by decide),e.shp (by decide),?_}
 show Q (.bl<|!PyData.eqvAll _ _) H;rw[Lj n];exact o
def Lm{w f g:Nat}(h:pk w f=pk w g):f=g:=by
 injection h with h1 h
 injection h with h2 _
 injection h1 with h1
 injection h2 with h2
 have b:=tq f w;rw[show f/w=g/w by exact ce h1,show f%w=g%w by exact ce h2]at b;exact b ▸ (tq g w)
def dB(b j:Nat):Int:=reduceHash<|Kt [hashInt b,hashInt j]
def zzs:∀ j,j<6->∀ b,b<31->∀ c,c<31->dB b j=dB c j->b=c:=by decide +kernel
def zzt{k:List AM}{v:V}:TX [(k,v)]:=λP w=>by simp
def zzu{w f g:Nat}{v u:V}(b:w<=6)(c:1<=w)(hf:f/w<31)(d:g/w<31)(he:f%w=g%w)(ne:f/w≠g/w):TX [(pk w f,v),(pk w g,u)]:=λP W=>by
 have e:∀ h:Nat,(py<|DL P W).hash (pk w h)=dB (h/w) (h%w):=λh=>rfl;simp only[ci,yx,ic,aa,bt,not_false_eq_true,jz,and_true];rw[e,he];exact λz=>ne<|zzs (g%w) (ω (t_ _ c) b) _ hf _ d z
def RZ{w b k:Nat}{x:Int}(c:1<=w)(d:x=b):([.int (x+(k:Int)/(w:Int)),.int<|(k:Int)%(w:Int)]:cF)=(pk w<|b*w+k).map kV:=by
 unfold pk
 have h2:(b*w+k)%w=k%w:=by rw[dq,nv]
 have h1:(b*w+k)/w=b+k/w:=by rw[dq,nw<|c]
 rw[h1,h2,d];simp only[ci,yx,kV];rw[Iy,Ig,Ih]
def zzv{c d:Addr}{w m f:Nat}{rows:wC}{cs:yE}{x:Cel}(P:PlankAt a H c d w rows m)(g:1<=w)(i:Paired (CelV H) rows.flatten cs)(l:cs[f]? =some x)(n:f/w<rows.length):∃ row v,rows[f/w]? =some row/\row[f%w]? =some v/\CelV H v x:=by
 let[v,o,p]:=JB i l
 have e:=VW  (j:=f%w) P.wd n (t_ _ g);rw[dq,tq,o]at e;cases b:rows[f/w]? with
 |none=>rw[b]at e;cases e
 |some row =>
  rw[b]at e;exact x2 _ v ⟨rfl,e.symm,p⟩
example:(zzw,Z5,bO,4):=by
 apply OW;intro ly gp cl fd n r c w rows m N lv [rfl,S,hlv,u,q]
 have J:=S.w1;let[dl,IU]:=S.la.ob
 have z2:=S.pv.lr
 have n6:=S.n6
 have r6:=S.r6
 have c6:=S.c6
 have q1:∀ {p t:Addr} {f:Nat} {x:Cel} {v:V} {A:Hp},H p=none->Same H A->A p=some (.dT [])->A t=some (.tup<|(pk w f).map kV)->CelV A v x->E5 N n r c w lv=[(f,x)]->A p=some (.dT [])/\∃ kvs:vA,TY A [(.ref t,v)] kvs/\kvs.length<=15/\Q (.ref p) (upd A p<|.dT<|EQ [] kvs):=λ{p t f x v A} B s e et hv ef=>by
  refine{e,[(pk w f,v)],.cons {⟨t,rfl,et⟩,rfl} .nil,by simp,?_};refine q p [(pk w f,v)] _ B (λy o M=>by rw[AI (BJ M B)];exact s _ _ M) AE ?_ zzt;rw[ef];exact .cons {rfl,CelV.keep (λy ys M=>by rw[AI (BI M e (λz=>nomatch z))];exact M) hv} .nil
 let[k,rfl,Y,O]||[k,rfl,Y,hsm,hl]||[k,rfl,Y,h1,h2]||[k,rfl,Y,h1,h2]:=Lg hlv
 obtain⟨d,hd⟩:∃ d,AY N.rc k=some d:=by
  unfold GA at O;cases e:AY N.rc k with
  |none=>rw[e]at O;cases O
  |some d=>exact⟨d,rfl⟩
 have hl:0<led N k:=by
  unfold GA at O;rw[hd]at O;simp at O;exact O.1
 refine BT u (n:=0) rfl rfl (y2 {IU,BZ (by decide +kernel),BT u (n:=1) rfl rfl (x6 ly n r c w k {rfl,S.tl,S.la,λt T=>?_})});let[H1,g,s1,e1]:=D3 (o:=.tup [.int ((n:Int)+(k:Int)/(w:Int)),.int<|(k:Int)%(w:Int)]) T;rw[g];erw[bO1_];intro p B;let[A,g,j,U]:=D3 (o:=.dT []) B;rw[g]
 have IA:=s1.trans j
 have P2:=S.pl.same IA
 have f1:(n*w+k)/w=n+k/w:=by rw[dq,nw (by exact J)]
 have f2:(n*w+k)%w=k%w:=by rw[dq,nv]
 let[dp,NB]:=P2.ob
 have hkw:k/w<r:=by
  rw[ut (by exact J)];exact z2 ▸ Y
 refine u2 ?_ (zzv (f:=n*w+k) (x:=.rc<|AY N.rc k) P2 J (S.pv.same IA.tk).asC (OO S.pv.ln z2<|z2 ▸ Y) (by rw[S.rl];lia));intro row v [er,ev,hv];rw[f1]at er;rw[f2]at ev;rw[hd]at hv;revert hv;apply u2;intro pv tv [rfl,hpv,htv];refine BT ((s1.trans j) _ _ u) (n:=2) rfl rfl (y2 {NB,OE _ _ _,BT (j _ _ e1) (n:=0) rfl rfl (x6 gp cl w rows m _ {rfl,S.tp,P2,λi row' eb er' l hnl=>?_,λz=>?_})})
 have ei:i=n+k/w:=by
  have:((n+k/w:Nat):Int)=(n:Int)+(k:Int)/(w:Int):=by rw[Iy,Ig]
  exact ce eb.symm
 subst ei;rw[er]at er';let[H3,g,I,L]:=D3 (o:=.lst row) hnl;obtain rfl:=ι er';rw[g];refine BT (I _ _<|j _ _ e1) (n:=1) rfl rfl (CH (SqL.of L) (n:=k%w) (by rw[Ih]) ev (BT (I _ _ hpv) (n:=1) rfl rfl {by decide,λp1 OQ=>?_}))
 have s4:=AL (o:=.tup [V.int ↑(led N k),V.ref tv]) OQ
 have D:=I.trans s4;refine q1 (f:=n*w+k) (x:=.rc<|FU N k) (s1.free B) (IA.trans D) (D _ _ U) ?_ ?_ rfl;rw[<-RZ (x:=(n:Int)) J rfl];exact D _ _<|j _ _ e1;rw[Kz hd hl];exact x2 p1 tv {rfl,AE,D _ _ htv}
 have rl:=S.rl;let z||z:=z
 exact absurd z<|wo.mpr<|jx _
 ·have z:rows.length<=n+k/w:=kx.mp z
  lia
 refine BT u (n:=0) rfl rfl ?_;refine BT u (n:=0) rfl rfl ?_;refine BT u (n:=1) rfl rfl ?_;intro p B;let[A,g,j,U]:=D3 (o:=.dT []) B;rw[g];refine y2 {j _ _ IU,BZ (by decide +kernel),BT (j _ _ u) (n:=2) rfl rfl (x6 ly n r c w k {rfl,S.tl,S.la.same j,λt T=>?_})}
 have I:=AL (o:=.tup [.int ((n:Int)+(k:Int)/(w:Int)),.int<|(k:Int)%(w:Int)]) T
 have L:upd A t (.tup [.int ((n:Int)+(k:Int)/(w:Int)),.int<|(k:Int)%(w:Int)]) t=some (.tup<|(pk w<|n*w+k).map kV):=by rw[AE,RZ (x:=(n:Int)) J rfl]
 revert I L;generalize upd A t (.tup [.int ((n:Int)+(k:Int)/(w:Int)),.int<|(k:Int)%(w:Int)])=H3;intro I L
 have GB:=j.trans I;refine y2 {GB _ _ IU,BZ (by decide +kernel),BT (GB _ _ u) (n:=2) rfl rfl (x6 ly n r c w k {rfl,S.tl,S.la.same GB,λt2 ht2=>?_})}
 have s4:=AL (o:=.tup [.int ((n:Int)+r+c+(k:Int)/(w:Int)),.int<|(k:Int)%(w:Int)]) ht2
 have e4:upd H3 t2 (.tup [.int ((n:Int)+r+c+(k:Int)/(w:Int)),.int<|(k:Int)%(w:Int)]) t2=some (.tup<|(pk w<|(n+r+c)*w+k).map kV):=by rw[AE,RZ (x:=(n:Int)+r+c) (b:=n+r+c) J (by exact rfl)]
 revert s4 e4;intro s4 e4
 have D:=I.trans s4
 have f1:(n*w+k)/w=n+k/w:=by rw[dq,nw (by exact J)]
 have f2:(n*w+k)%w=k%w:=by rw[dq,nv]
 have g1:((n+r+c)*w+k)/w=n+r+c+k/w:=by rw[dq,nw (by exact J)]
 have g2:((n+r+c)*w+k)%w=k%w:=by rw[dq,nv]
 have hkw:k/w<r:=by
  rw[ut (by exact J)];exact z2 ▸ Y
 have mg:EQ [] [(pk w<|n*w+k,V.non),(pk w<|(n+r+c)*w+k,.int 0)]=[(pk w<|n*w+k,V.non),(pk w<|(n+r+c)*w+k,.int 0)]:=YG _ [] (by
  simp only[ko,ci,yx,ic,aa,bt,not_false_eq_true,jz,and_true];intro z
  have:=Lm z
  have e9:(n*w+k)/w=((n+r+c)*w+k)/w:=by rw[this]
  rw[f1,g1]at e9
  lia)
 refine{(D _ _ U),[(pk w<|n*w+k,V.non),(pk w<|(n+r+c)*w+k,.int 0)],.cons {{t,rfl,s4 _ _ L},rfl} (.cons {⟨t2,rfl,e4⟩,rfl} .nil),by simp,?_};rw[mg];refine q p _ _ B (λy o M=>by rw[AI (BJ M B)];exact(j.trans D) _ _ M) AE (.cons ⟨rfl,rfl⟩ (.cons ⟨rfl,rfl⟩ .nil)) (zzu S.w6 J (by rw[f1];lia) (by rw[g1];lia) (by rw[f2,g2]) (by rw[f1,g1];lia));refine BT u (n:=0) rfl rfl ?_;erw[];refine BT u (n:=0) rfl rfl ?_;erw[];erw[bO6_];refine BT u (n:=1) rfl rfl ?_;erw[];refine ED (by decide +kernel) ?_;erw[bO7_];intro p B;let[A,g,j,U]:=D3 (o:=.dT []) B;rw[g];refine y2 {j _ _ IU,BZ (by decide +kernel),BT (j _ _ u) (n:=2) rfl rfl (x6 ly n r c w k {rfl,S.tl,S.la.same j,λt T=>?_})}
 have I:=AL (o:=.tup [.int ((n:Int)+r+c+r+(k:Int)/(w:Int)),.int<|(k:Int)%(w:Int)]) T
 have L:upd A t (.tup [.int ((n:Int)+r+c+r+(k:Int)/(w:Int)),.int<|(k:Int)%(w:Int)]) t=some (.tup<|(pk w<|(n+r+c+r)*w+k).map kV):=by rw[AE,RZ (x:=(n:Int)+r+c+r) (b:=n+r+c+r) J (by exact rfl)]
 exact q1 (f:=(n+r+c+r)*w+k) (x:=.mk<|some 0) B (j.trans I) (I _ _ U) L rfl rfl
 ·have u:H fd=some (.tup [.str (μ "marked"),.int k]):=u;erw[bO,bO2_];refine BT u (n:=0) rfl rfl ?_;erw[];refine ED (by decide +kernel) ?_;erw[bO4_];refine BT u (n:=0) rfl rfl ?_;erw[];erw[bO3_];intro p B;let[A,g,j,U]:=D3 (o:=.dT []) B;rw[g];refine y2 {j _ _ IU,BZ (by decide +kernel),BT (j _ _ u) (n:=1) rfl rfl (x6 ly n r c w k {rfl,S.tl,S.la.same j,λt T=>?_})}
  have I:=AL (o:=.tup [.int ((n:Int)+r+c+(k:Int)/(w:Int)),.int<|(k:Int)%(w:Int)]) T
  have L:upd A t (.tup [.int ((n:Int)+r+c+(k:Int)/(w:Int)),.int<|(k:Int)%(w:Int)]) t=some (.tup<|(pk w<|(n+r+c)*w+k).map kV):=by rw[AE,RZ (x:=(n:Int)+r+c) (b:=n+r+c) J (by exact rfl)]
  exact q1 (f:=(n+r+c)*w+k) (x:=.mk<|some 0) B (j.trans I) (I _ _ U) L rfl rfl
theorem Lp{α b :Type}{F: α -> b ->Prop}:∀ {l:List α} {m:List b} (k:Nat),Paired F l m->Paired F (l.take k) (m.take k)
 |_,_,0,_=>.nil
 |_,_,_+1,.nil=>.nil
 |_,_,k+1,.cons h t=>.cons h<|Lp k t
theorem Lq{α b :Type}{F: α -> b ->Prop}:∀ {l:List α} {m:List b} (k:Nat),Paired F l m->Paired F (l.drop k) (m.drop k)
 |_,_,0,h=>h
 |_,_,_+1,.nil=>.nil
 |_,_,k+1,.cons h t=>Lq k t
def Lw{w b:Nat}{cs:yE}:DU w cs (b+1)=DU w (cs.drop w) b:=by
 unfold DU;rw[List.drop_drop,uf,ug]
theorem Lx{w:Nat}:∀ {rows:wC} {cs:yE},(∀ r∈rows,r.length=w)->Paired (CelV H) rows.flatten cs->∀ {b:Nat} {row:cF},rows[b]? =some row->Paired (CelV H) row (DU w cs b)
 | [],_,_,_,_,_,e=>by simp at e
 |d::g,cs,c,P,0,row,e=>by
  obtain rfl:=ι e
  have h0:=c d χ
  have:=Lp w P;rw[ir,<-h0,List.take_left]at this;unfold DU;rw[wc,<-h0];exact this
 |d::g,cs,c,P,b+1,row,e=>by
  have h0:=c d χ
  have:=Lq w P;rw[ir,<-h0,List.drop_left,h0]at this;rw[Lw];exact Lx (λr i=>c r<|τ _ i) this e
theorem Ly{w:Nat}:∀ {rows:wC} {cs:yE},cs.length=rows.length * w->(∀ {b:Nat} {row:cF},rows[b]? =some row->Paired (CelV H) row (DU w cs b))->Paired (CelV H) rows.flatten cs
 | [],cs,c,_=>by
  rw[nu,wc]at c;rw[cu.mp c];exact .nil
 |i::d,cs,c,h=>by
  rw[b_]at c
  have h0:=h (b:=0) rfl;unfold DU at h0;rw[wc,Kr]at h0
  have g:=Ly (w:=w) (rows:=d) (cs:=cs.drop w) (by rw[il,c,uf,Nat.add_sub_cancel]) λ{b row} e=>by
   rw[<-Lw];exact h  e
  have:=OK h0 g;rw[kh]at this;exact this
theorem V0{w:Nat}:∀ {rows:wC},(∀ r∈rows,r.length=w)->rows.flatten.length=rows.length*w
 | [],_=>by simp
 |r::c,h=>by
  rw[ir,ai,V0 λx b=>h x<|τ _ b,h r χ,b_,uf];exact ug _ _
def zzx(b:Addr)(w n:Int):(pf b w n).lookup ("blocks":Str)=none:=IK _ _ _ (by decide) (by decide) (by decide)
def Lz{w b j:Nat}{cs:yE}(c:j<w):(DU w cs b)[j]? =cs[b*w+j]? :=by
 unfold DU;rw[List.getElem?_take,if_pos c,Df]
def zzy{w b:Nat}{cs c:yE}(h:c.map Cel.kind=cs.map Cel.kind):(DU w c b).map Cel.kind=(DU w cs b).map Cel.kind:=by
 unfold DU;rw[Ci,Cn,Ci,Cn,h]
def Mb{w b:Nat}{cs:yE}{c:Cel}(h:c∈DU w cs b):c∈cs:=A_<|Ba h
def Mc{w i:Nat}{cs b:yE}:OA w (i+1) cs b=OA w i cs b+if DU w cs i=DU w b i then 0 else 1:=by
 unfold OA;rw[bz];by_cases h:DU w cs i=DU w b i;simp[h];simp[h]
def zzz{w b j:Nat}(c:j<w):([.int (b:Int),.int (j:Int)]:cF)=(pk w<|b*w+j).map kV:=by
 unfold pk
 have h1:(b*w+j)/w=b:=by rw[dq,nw (by lia),Nat.div_eq_of_lt c,Nat.add_zero]
 have h2:(b*w+j)%w=j:=by rw[dq,nv,Nat.mod_eq_of_lt c]
 rw[h1,h2]
 rfl
structure Mg(a:Ad)(gp cl:Addr)(w m M:Nat)(cs cs':yE)(H:Hp)(i:Nat)(rs:wC)(H':Hp):Prop where
 p:PlankAt a H' gp cl w rs (m+OA w i cs cs')
 l:rs.length=M
 c:∀ {b:Nat} {row:cF},rs[b]? =some row->Paired (CelV H') row (if b<i then DU w cs' b else DU w cs b)
 s:SameBut (λx=>x=gp\/x=cl) H H'
example:(zz1,Z6,bP,5):=by
 apply u9;intro Y cl dl w rows m kvs cs d [rfl,TP,P,hM,w1,w6,M,PC,hk,o1,o2,hc,q];let[dp,NB]:=P.ob;let[tc,BN,_]:=P.ls
 have n:cs.length=rows.length*w:=by
  rw[<-PC.length];exact V0 P.wd
 have HD:d.length=cs.length:=by
  simpa using (congrArg g_ hk)
 have ndl:dl≠Y/\dl≠cl:={BI M NB (λz=>nomatch z),BI M BN (λz=>nomatch z)}
 erw[bP,bP4_];refine y2 {NB,zzx _ _ _,x5 Y cl w _ m {rfl,TP,P,?_}};erw[];refine{i0,by lia,NO (λi σ u=>(∃ r,Mg a Y cl w m _ cs d H i r u)/\∃ y2 y3 y4,σ=[some _,some _,y2,y3,y4]) {{_,{P,rfl,λe=>Lx P.wd PC e,SameBut.refl _}},x3 _ _ _ rfl} (λi σ H1 hi g=>?_) (λσ H1 g=>?_)};let[[r,J],y2,y3,y4,eσ]:=g;subst eσ;let[dp1,hob1]:=J.p.ob
 have er:=θ   (by rw[J.l];exact hi)
 have tk1:EA H H1:=λy ys e=>J.s _ _ e λz=>by
  let z||z:=z
  rw[z,NB]at e;cases e;rw[z,BN]at e;cases e
 revert er;generalize r[i]'(by rw[J.l];exact hi)=row;intro er
 have Pr:=J.c er;rw[if_neg (ju _)]at Pr
 have N:=J.p.wd _<|η er;erw[rf];refine x2 _ _ {hob1,OE _ _ _,x6 Y cl w r _ i {rfl,TP,J.p,λi' row' eb er' l hl=>?_,λz=>by rw[J.l]at z;lia}};obtain rfl:i=i':=ce eb;rw[er]at er';obtain rfl:=ι er';let[H2,O,s2,e2]:=D3  hl;rw[O];erw[bP1_];refine{{_,SqL.of e2},YD  (λ_=>true) (BQ _<|oA (ψ (ba N) w6) rfl) (λj ys u=>Same H2 u/\Paired (CelV u) ys ((DU w d i).take j)) {Same.refl _,.nil} (λj ys u hj ⟨s,P⟩=>{SqL.of<|s _ _ e2,?_}) (λj ys u t o ⟨s,P⟩ h=>{HW s h,Paired.mapP P λv c=>CelV.keep (AL h).tk}) (λj x ys u hx _ QB qb=>qb) (λj x ys u hx _ g=>?_) (λj x ys u hx hp=>by cases hp) (λys H3 g l2 DC=>?_)};rw[P.length,df];lia
 have hj:j<w:=by rw[<-N];exact(ζ.mp hx).1
 let[s,P]:=g
 have hd':=s _ _<|s2 _ _<|J.s _ _ M λz=>z.elim ndl.1 ndl.2;erw[C0]
 have A0:i*w+j<cs.length:=by
  rw[n]
  have:=vn w<|hi
  lia
 refine{.inr {_,.inl hd'},by decide,λp hp=>{BE kvs<|pk w<|i*w+j,?_,HW s hp,?_}}
 have sp:=AL (o:=.tup [V.int i,V.int j]) hp;exact DGet.t (sp _ _ hd') (by rw[AE,zzz hj])
 have sp:=AL (o:=.tup [V.int i,V.int j]) hp
 have A:=θ (l:=d)  (by rw[HD];exact A0);revert A;generalize d[i*w+j]'(by rw[HD];exact A0)=c';intro A;let[c,ec,hv]:=KR Pr hx;rw[Lz hj]at ec;rw[JQ  (by rw[Lz hj];exact A)]
 have s1p:=(s2.trans s).trans sp;refine Paired.snoc (Paired.mapP P λv c=>CelV.keep sp.tk) ?_;let[e1,T]||[v,e1,T]:=hc _ c c' ec A
 rw[e1,T];exact CelV.keep s1p.tk hv;rw[e1];exact CelV.keep s1p.tk<|CelV.keep tk1 T
 have I:(DU w d i).length=w:=by
  unfold DU;rw[df,il,HD,n]
  have:=vn w<|hi
  lia
 let[s,P]:=g;rw[N,de<|ba I]at P;let[H4,O,s4,e4]:=D3  DC
 have B:=(s2.trans s).trans s4
 have P4:=Paired.mapP P λv c=>CelV.keep s4.tk
 have hys:ys.length=w:=by rw[P4.length,I]
 have D:Mg a Y cl w m _ cs _ H i r H4:={J.p.same B,J.l,λe=>Paired.mapP (J.c e) λv c=>CelV.keep B.tk,J.s.trans B.sb}
 rw[O];erw[bP3_];refine zzr e4 ((s.trans s4) _ _ e2) P4 (Paired.mapP Pr λv c=>CelV.keep B.tk) (λc hc=>o2 c<|Mb hc) (λc hc=>o1 c<|Mb hc) (zzy hk) ?_;by_cases he:DU w d i=DU w cs i;refine ED (by simp[he]) ({r,{by rw[Mc,if_pos he.symm];exact D.p,D.l,λ{b row} e=>?_,D.s}})
 have:=D.c e;by_cases U:b=i;rw[U,if_neg<|ju _]at this;rw[U,if_pos<|fe _,he];exact this;simp only[propext {λh=>j_ (dv h) U,λh=>ck h}];exact this;let[dp4,L]:=D.p.ob;let[tc4,hcl4,_]:=D.p.ls;refine E6 (by simp[he]) ?_;erw[bP2_];refine x2 _ _ {L,Jj _ _ _,x8 Y cl w r _ _ l2 ys {rfl,TP,D.p,SqL.of e4,by lia,λi' eb hb' hyl H5 P5 JY=>?_,λz=>by rw[J.l]at z;lia}};obtain rfl:i=i':=ce eb
 have tk5:EA H4 H5:=λy ys e=>JY _ _ e λz=>by
  let z||z:=z
  rw[z,L]at e;cases e;rw[z,hcl4]at e;cases e
 refine{r.set i ys,{?_,by rw[kj];exact J.l,λ{b row} e=>?_,D.s.trans JY}};rw[Mc,if_neg<|λz=>he z.symm];exact P5;by_cases U:b=i;subst U;rw[gq (by rw[J.l];exact hi)]at e;obtain rfl:=ι e;rw[if_pos (fe _)];exact Paired.mapP P4 λv c=>CelV.keep tk5;rw[ik (λz=>U z.symm)]at e
 have:=D.c e;simp only[show(b<i+1)=(b<i)from propext {λh=>by exact j_ (dv h) U,λh=>by exact ck h}];exact Paired.mapP this λv c=>CelV.keep tk5;let[[r,J],y2,y3,y4,eσ]:=g;refine q r H1 J.p J.l (Ly (w:=w) (by rw[J.l,HD,n]) λ{b row} e=>?_) J.s
 have:=J.c e;rw[if_pos (by rw[<-J.l];exact(ζ.mp e).1)]at this;exact this
def dC{g:Vw}(ok:EK g):∀ c∈D2 g,c.ok:=λc e=>by
 unfold D2 at e;simp only[bc,ay]at e;rcases e with(((⟨x,b,rfl⟩|⟨x,b,rfl⟩)|⟨x,b,rfl⟩)|⟨x,b,rfl⟩)|⟨x,b,rfl⟩
 cases x with
 |none=>exact trivial
 |some d=>exact(ok.n1 d b).2
 cases x<;>exact trivial;cases x with
 |none=>exact trivial
 |some d=>exact ok.n3 d b
 cases x<;>exact trivial;cases x<;>exact trivial
def JS{α :Type}{f: α ->Cel}(h:∀ x,(f x).kind=k)(l:List α):(l.map f).map Cel.kind=bd l.length k:=by
 rw[lb]
 induction l with
 |nil=>rfl
 |cons x r b=>rw[ci,b];exact congrArg (· ::_) (h x)
def zz2{b:Vw}(ok:EK b):(D2<|mended b).map Cel.kind=(D2 b).map Cel.kind:=by
 have c:=VY ok
 have d:(mended b).rc.length=b.rc.length:=by
  show((ρ _).map _).length=_;simp
 unfold D2;simp only[av];rw[JS  (f:=Cel.nm) λz=>rfl,JS  (f:=Cel.rc) λz=>rfl,JS  (f:=Cel.pc) λz=>rfl,JS  (f:=Cel.mk) λz=>rfl,JS  (f:=Cel.mk) λz=>rfl,
  JS  (f:=Cel.nm) λz=>rfl,JS  (f:=Cel.rc) λz=>rfl,JS  (f:=Cel.pc) λz=>rfl,JS  (f:=Cel.mk) λz=>rfl,JS  (f:=Cel.mk) λz=>rfl,c.l1,c.l2,ok.l1,ok.l2,d]
 rfl
theorem Mh{P:List AM->V->Prop}:∀ {more kvs:vA},(∀ k v,BE kvs k=some v->P k v)->(∀ b∈more,P b.1 b.2)->∀ k v,BE (EQ kvs more) k=some v->P k v
 | [],kvs,h,_=>h
 |p::r,kvs,h,d=>Mh  (kvs:=CD _ _ _) (λk v e=>by
   rw[HJ]at e;by_cases z:k=p.1;rw[if_pos z]at e;obtain rfl:=ι e;rw[z];exact d p χ;rw[if_neg z]at e;exact h k v e) λb c=>d b<|τ _ c
theorem dD:∀ {more kvs:vA} {k:List AM},(BE kvs k).isSome=true->(BE (EQ kvs more) k).isSome=true
 | [],_,_,h=>h
 |p::r,kvs,k,h=>dD  (kvs:=CD _ _ _) (by
   rw[HJ];split
   rfl;exact h)
theorem Mj:∀ {more kvs:vA} {b:List AM × V},b∈more->(BE (EQ kvs more) b.1).isSome=true
 | [],_,_,h=>by cases h
 |p::r,kvs,b,h=>by
  let rfl||h:=aj.mp h
  exact dD  (kvs:=CD _ _ _) (by rw[HJ,if_pos rfl];rfl);exact Mj (more:=r) h
def zz3(b:Lv):(E5 d n r c w b).length<=2:=by
 cases b<;>simp[E5]
structure DuI(vw:Vw)(n r c w:Nat)(dl:Addr)(H2:Hp)(i:Nat)(kvs:vA)(H':Hp):Prop where
 s:Same H2 H'
 e:H' dl=some (.dT kvs)
 A:∀ k v,BE kvs k=some v->∃ lv∈FD vw,∃ fx∈E5 vw n r c w lv,k=pk w fx.1/\CelV H' v fx.2
 B:∀ j lv,j<i->(FD vw)[j]? =some lv->∀ fx∈E5 vw n r c w lv,(BE kvs<|pk w fx.1).isSome=true
 l:kvs.length<=2*i
def zz5(ok:EK b):(FD b).length<=400:=by
 let[z,z,z,c,d,e]:=VT ok
 have:=congrArg g_<|Kx b;unfold FC at this;simp only[ai,ε]at this
 lia
def Site.ground(S:Site K a H b d e n r c w rows m g):Ground K a H b d g:=x7 e n r c w _ m ⟨S.tv,S.tl,S.tp,S.la,S.pl,S.rl,S.pv⟩
def Site.same{b d e:Addr}{n r c w:Nat}{rows:wC}{m:Nat}{g:Vw}{i:Hp}(S:Site K a H b d e n r c w rows m g)(s:Same H i):Site K a i b d e n r c w rows m g:={S.tv,S.tl,S.tp,S.la.same s,S.pl.same s,S.rl,S.pv.same s.tk,S.w1,S.w6,S.n6,S.r6,S.c6}
example:(zz6,tQ,b0,5):=by
 apply WL;intro ly L cl n r c w rows m p [rfl,S,hf,q]
 have z1:=S.pv.ln
 have z2:=S.pv.lr
 have z3:=S.pv.lp
 have ok:=S.pv.ok
 have n6:=S.n6
 have r6:=S.r6
 have c6:=S.c6
 have rl:=S.rl;refine x3 ly L p {rfl,S.ground,λH1 M=>?_};rw[decide_eq_true hf];refine x3 ly L p {rfl,S.ground.same M,λfo H2 s s2 F2=>?_};rw[hf,ko]at F2
 have F0:=F2;rw[Kx]at F2
 have IA:=M.trans s2;let[ps,N,PF]:=F2;intro dl O;let[H3,zz0,s3,e3]:=D3  O
 have ln:=zz5 ok
 have pl:ps.length=(FD p).length:=by rw[PF.length,ε]
 rw[zz0];refine .inl {{_,SqL.of<|s3 _ _ N},GZ  (λi σ H'=>(∃ kvs,DuI p n r c w dl H2 i kvs H')/\∃ y,σ=[some _,some _,some _,some _,y]) {{[],{s3,e3,λk v h=>(by cases h),λj u h=>absurd h<|i_ _,ο _}},_,rfl} (by intro i σ H' _ [[_,J],_];exact SqL.of<|J.s _ _ N) (λi x σ H4 hx A=>?_) (λσ H4 A=>?_)};let[[kvs,J],y,B]:=A;subst B;rw[υ,af]at hx;let[fd,efd,rfl]:=hx;let[g,eg,EY]:=KR PF efd;rw[υ,af]at eg;let[u,D,rfl]:=eg
 have b:=η D
 have hi:=(ζ.mp D).1;erw[b04_];refine{.inr<|.inr<|.inl {rfl,.inr ⟨_,J.e⟩},OV ly L cl fd n r c w _ m p u {rfl,(S.same IA).same J.s,b,J.s _ _ EY,λdm more T hdm s5 e5 PM ap=>?_}}
 have ml:more.length<=2:=by rw[PM.length];exact zz3 u
 have U:EA T (upd T dl<|.dT<|EQ kvs more):=λy ys Y=>by rw[AI (BI Y (s5 _ _ J.e) (λz=>nomatch z))];exact Y
 have jl:=J.l;refine x4 dl dm _ _ {rfl,rfl,BJ J.e hdm,s5 _ _ J.e,e5,λ_=>ap,BQ _ (by lia),_,{λy o Y=>?_,AE,?_,λj lv' hj I l d=>?_,?_}};rw[AI (BJ Y O)];exact s5 _ _<|J.s _ _ Y;refine Mh (λk v e=>?_) λkv hkv=>?_;let[lv',h1,l,h2,h3,h4]:=J.A k v e;exact{_,h1,l,h2,h3,CelV.keep U<|CelV.keep s5.tk h4};let[k,ek]:=QQ hkv;let[l,efx,h1,h2]:=KR PM ek;exact{u,b,l,η efx,h1,CelV.keep U h2};by_cases hji:j<i;exact dD<|J.B j _ hji I l d;obtain rfl:j=i:=kq (dv hj) (cv hji);rw[D]at I;obtain rfl:=ι I;let[k,ek]:=QQ d;let[kv,ekv,h1,_]:=JB PM ek;rw[<-h1];exact Mj<|η ekv
 have:=YF more kvs
 lia
 let[[kvs,J],y,B]:=A
 have S4:=(S.same IA).same J.s;subst B;let[dp,mR]:=S4.pl.ob;let[dp1,hgp1]:=(S.same M).pl.ob;let[tc1,hcl1,_]:=(S.same M).pl.ls;let[tc,BN,_]:=S4.pl.ls
 have nfo:fo≠L/\fo≠cl:={(BJ hgp1 s).symm,(BJ hcl1 s).symm}
 have ok2:=VY ok
 have g2:(mended p).rc.length=r*w:=by
  show((ρ _).map _).length=_;simp[z2]
 erw[b06_];refine x9 L cl dl w _ m _ _ _ {rfl,S.tp,S4.pl,by lia,S.w1,S.w6,J.e,S4.pv.asC,zz2 ok,dC ok,dC ok2,λf x x' ex mS=>?_,λrows' T P5 hl5 PC5 JY=>?_}
 have A0:f<n*w+r*w+c*w+r*w+c*w:=by
  have:=(ζ.mp ex).1;rw[Lc p ok]at this
  lia
 cases ev:BE _ (pk w f)with
 |none =>
  refine .inl {rfl,?_}
  have:=zzo ok z1 z2 z3 hf A0 λu b l d e=>?_;rw[ex,mS]at this;exact ι this;let[j,I]:=QQ b
  have:=J.B j u (by rw[ε,pl];exact(ζ.mp I).1) I l d;rw[e,ev]at this;cases this
 |some v =>
  let[u,b,l,d,e1,e2]:=J.A _ v ev
  have h3:=zzn ok z1 z2 z3 b d;rw[<-(Lm e1),mS]at h3;obtain rfl:=ι h3;exact .inr ⟨v,rfl,e2⟩
 have tk5:EA H4 T:=λy ys e=>JY _ _ e λz=>by
  let z||z:=z
  rw[z,mR]at e;cases e;rw[z,BN]at e;cases e
 exact q fo _ T (M.free s) ((F0.same J.s).on (λo e=>JY _ _ e λz=>z.elim nfo.1 nfo.2) tk5) P5 (by rw[hl5,rl]) (PlV.of PC5 z1 g2 z3 ok2) ((IA.trans J.s).sb.trans JY)
theorem Ml:∀ {b:bF},(∀ j,as.length<=j->C j=false)->sh M C (b++as)=sh M C as
 | [],_=>rfl
 |e::b,h=>by
  rw[p_,EN (by rw[h _ (by simp)];exact ax)];exact Ml h
def dE{b:vC}{z:Str}{k:Nat}:LX (CD b (.inr z) (.int (k:Nat)))=ES (LX b) z k:=by
 funext y;unfold LX FT ES;rw[HJ];by_cases e:y=z;subst e;rw[if_pos rfl,if_pos rfl];rfl;rw[if_neg (λh=>e<|Mn h),if_neg e]
def dF{b:vC}{z:Str}{j:Nat}(h:LX b z=some j):j∈FT b z:=List.mem_of_mem_head? h
def LaidA.off{n r c w:Nat}{cs:zE}{as:bF}{B:Md}(h:LaidA n r c w H cs as)(b:∀ kind k,¬ k<BR n r c w kind->B kind k=.no){C:yD}{kind k:Nat}(d:¬ k<BR n r c w kind):sh B C as kind k=.no:=by
 induction h with
 |nil=>exact b _ _ d
 |@snoc cs as ch x l j o p q s i g =>
  by_cases c:C as.length=true;rw[C2 c];unfold Md.put;rw[if_neg (λe=>d (by rw[e.1,e.2];exact i))];exact g;rw[EN c];exact g
def zz7(b:∀ kind k,FB kind<|B kind k)(h:∀ x∈as,FB x.kind x.x)(kind k:Nat):FB kind (sh B C as kind k):=by
 induction as with
 |nil=>exact b _ _
 |cons x r d =>
  have d:=d λy e=>h y<|τ _ e;by_cases c:C r.length=true;rw[C2 c];unfold Md.put;split;rename_i z;rw[z.1];exact h x χ;exact d;rw[EN c];exact d
section
variable{X:SX}{cs:zE}{tks:vC}{M:Hs}
theorem SM.out(I:X.at a H cs tks M){j:Nat}(i:cs.length<=j):X.outs j=false:=by
 let[l,e,c,d]:=I.bk.bk.out;cases b:X.outs j with
 |false=>rfl
 |true =>
  rw[<-c,<-K2]at b;let[p,g,n]:=du.mp b
  have:=d.2 p g
  lia
def C6.more{g:Hp}{ex:zE}{b:vC}{d:Hs}(I:C6 a H X cs tks M)(r:X.at a g (cs++ex) b d)(sb:SameBut (λx=>X.S.A.F x\/x=X.S.tk) H g)(s:∃ o,Hist X.m0 d.b d.as (LX b) o)(n:d.b=M.b)(hs:∃ i,d.as=i++M.as/\∀ x∈i,FB x.kind x.x):C6 a g X (cs++ex) b d:=by
 let[i,he,u]:=hs
 have out:∀ j:Nat,cs.length<=j->X.outs j=false:=λj l=>I.st.out l;refine{r,s,n ▸ I.bo,λk c p o=>?_,?_,I.few,λx e=>?_,I.w1};by_cases q:k<cs.length;rw[bg q]at p;exact I.cut k c p o;rw[out k (cv q)]at o;cases o;rw[n,he,Ml λj l=>out j (by rw[I.st.la.len];exact l)];exact I.rows.keep (KO sb λx e=>e.elim (λh=>I.st.bk.loose h) λh=>by rw[h];exact QS I.st.tk);rw[he]at e;let h||h:=bc.mp e
 exact u x h;exact I.ok x h
def R0{m:Nat}{z:Str}(h:cellOf M m z=none):∀ j r,j<m->M 0 j≠.nm z r:=λj r b e=>by
 have:=kg.mp h j<|ao.mpr b;unfold D1 at this;rw[e]at this;simp at this
def dG{cell:Nat}(h:G7 0 (M 0 cell)=true):M 0 cell=.no:=by
 cases e:M 0 _ with
 |no=>rfl
 |_=>rw[e]at h;simp[G7]at h
def Mm{kind k:Nat}(h:G7 kind (M kind k)=true):M kind k≠.mk 1:=λe=>by
 rw[e]at h;simp[G7]at h
def C6.snd(I:C6 a H X cs tks M):Snd X.m0 (sh M.b X.C M.as):=by
 let[o,b]:=I.hi;exact b.sd _<|I.st.la.cut I.cut
def C6.now(I:C6 a H X cs tks M):Snd X.m0 M.f:=by
 let[o,b]:=I.hi;exact b.now
def C6.inl(I:C6 a H X cs tks M)(C:yD):InL X.n X.r X.c X.w (sh M.b C M.as):={λz z h=>I.st.la.off I.bo.no h,zz7 I.bo.ok I.ok}
end
def Snd.few{n r c w:Nat}{S:Md}(s:Snd (n*w) S)(b:InL n r c w S){q m:Nat}{ps:xE}(h:S 3 q=.rc m ps):(∀ p∈ps,p<c*w)/\ps.length<=c*w:=by
 have lt:∀ p∈ps,p<c*w:=λp d=>by
  have e:=(s.pm q m ps h p d).1;let z||z:=ff p _
  exact z;rw[b.no 2 p (λg=>nL g z)]at e;cases e
 have:=u_ (s.nd q m ps h)  λp d=>ao.mpr<|lt p d;rw[cr]at this;exact⟨lt,this⟩
def Snd.rl{n r c w:Nat}{S:Md}(s:Snd (n*w) S)(b:InL n r c w S){k q:Nat}{z:Str}(d:k<n*w)(e:S 0 k=.nm z q):∃ m ps,q<r*w/\S 3 q=.rc m ps:=by
 refine u2 ?_<|s.nl k z q d e;rintro m ps g;refine x2 m ps {?_,g};let h||h:=ff q _
 exact h;rw[b.no 3 q (λd=>nL d h)]at g;cases g
section
variable{X:SX}{cs:zE}{tks:vC}{M:Hs}
def C6.ps(I:C6 a H X cs tks M){r m:Nat}{ps:xE}(h:M 3 r=.rc m ps):(∀ p∈ps,p<X.c*X.w)/\ps.length<=18:=by
 have:=I.now.few (I.inl _) h;exact{this.1,ψ this.2 I.few}
def C6.rl(I:C6 a H X cs tks M){k b:Nat}{z:Str}(c:k<X.m0)(e:M 0 k=.nm z b):∃ m ps,b<X.r*X.w/\M 3 b=.rc m ps:=I.now.rl (I.inl _) c e
def SM.sbG{G:Addr->Prop}{e:Hp}(I:X.at a H cs tks M)(s:SameBut G H e)(g:∀ x,G x->ER (H x))(f:∀ x,G x->¬ X.S.A.F x/\x≠X.S.tk):X.at a e cs tks M:=by
 let[[l,i],j,n,o,p,q,r,u,w,b,c,d]:=I;let[dl,y]:=j.ob
 have tk:=KO s g;exact{{l,s _ _ i λz=>(g _ z).2 _ _ _ i},j.sb s λz=>(g _ z).2 _ _ _ y,n.sb s g λx B=>(f x B).1,s _ _ o λz=>(f _ z).2 rfl,p,q,r,u,w.keep tk,λkind k v h1 h2 D=>(b _ k v h1 h2 D).keep tk,c,d.keep tk}
def C6.sbG{G:Addr->Prop}{b:Hp}(I:C6 a H X cs tks M)(s:SameBut G H b)(g:∀ x,G x->ER (H x))(f:∀ x,G x->¬ X.S.A.F x/\x≠X.S.tk):C6 a b X cs tks M:={I.st.sbG s g f,I.hi,I.bo,I.cut,I.rows.keep<|KO s g,I.few,I.ok,I.w1}
def C6.same{b:Hp}(I:C6 a H X cs tks M)(s:Same H b):C6 a b X cs tks M:={I.st.same s,I.hi,I.bo,I.cut,I.rows.keep s.tk,I.few,I.ok,I.w1}
def C6.write(I:C6 a H X cs tks M)(d:X.rows[b]? =some row)(g:(X.wr cs b row).at a c cs tks M)(sb:SameBut (λx=>X.S.A.F x\/x=X.S.A.gp) H c):C6 a c (X.wr cs b row) cs tks M:=by
 let[j,i]:=I.st.bk.pk.ob;exact{g,I.hi,I.bo,zkf I.cut b,(I.rows.write I.st.la d).keep (λy ys e=>sb _ _ e λz=>z.elim (λz=>(I.st.bk.loose z).1 _ e) λz=>by rw[z,i]at e;cases e),I.few,I.ok,I.w1}
end
def Mp:Nat->CV->Cel
 |0,x=>.nm<|OB x
 |1,x=>.mk<|FE x
 |2,x=>.mk<|FE x
 |3,x=>.rc<|LY x
 |_,x=>.pc<|RF x
def HA(n r c kind:Nat):Nat:=if kind=0 then 0 else if kind=1 then n+r+c else if kind=2 then n+r+c+r else if kind=3 then n else n+r
def Mq(b:kind<5)(ok:FB kind x):RepC H x v↔CelV H v (Mp kind x):=by
 let _||_||_||_||_||k:=kind
 all_goals cases x<;>first|exact ok.elim|exact Nf
section
variable{n r c w:Nat}{S:Md}
def Mv(k:Nat):AY (BV n r c w S).nm k=if k<n*w then OB (S 0 k)else none:=L6
def Mw(k:Nat):AY (BV n r c w S).rc k=if k<r*w then LY (S 3 k)else none:=L6
def Mx(k:Nat):AY (BV n r c w S).pc k=if k<c*w then RF (S 4 k)else none:=L6
def My(k:Nat):AY (BV n r c w S).rm k=if k<r*w then FE (S 1 k)else none:=L6
def Mz(k:Nat):AY (BV n r c w S).pm k=if k<c*w then FE (S 2 k)else none:=L6
def JT:(BV n r c w S).nm.length=n*w:=by simp[BV]
def IR:(BV n r c w S).rc.length=r*w:=by simp[BV]
def L7:(BV n r c w S).pc.length=c*w:=by simp[BV]
def InL.rc(b:InL n r c w S)(k:Nat):AY (BV n r c w S).rc k=LY (S 3 k):=by
 rw[Mw];split
 rfl;rename_i h;rw[b.no 3 k (h)];rfl
def InL.nm(b:InL n r c w S)(k:Nat):AY (BV n r c w S).nm k=OB (S 0 k):=by
 rw[Mv];split
 rfl;rename_i h;rw[b.no 0 k (h)];rfl
def InL.pc(b:InL n r c w S)(k:Nat):AY (BV n r c w S).pc k=RF (S 4 k):=by
 rw[Mx];split
 rfl;rename_i h;rw[b.no 4 k (h)];rfl
def InL.rm(b:InL n r c w S)(k:Nat):AY (BV n r c w S).rm k=FE (S 1 k):=by
 rw[My];split
 rfl;rename_i h;rw[b.no 1 k (h)];rfl
def InL.pm(b:InL n r c w S)(k:Nat):AY (BV n r c w S).pm k=FE (S 2 k):=by
 rw[Mz];split
 rfl;rename_i h;rw[b.no 2 k (h)];rfl
def zz8(h:OB x=some (z,q)):x=.nm z q:=by
 cases x<;>simp[OB]at h;rw[h.1,h.2]
def zz9(h:LY x=some d):∃ m:Nat,x=.rc m d.2/\d.1=m:=by
 cases x with
 |rc m ps=>cases h;exact⟨m,rfl,rfl⟩
 |_=>cases h
def z0a(h:RF x=some z):x=.tx z:=by
 cases x with
 |tx y=>cases h;rfl
 |_=>cases h
def M9(q:Nat):led (BV n r c w S) q=ld (n * w) S q:=by
 unfold led ld MV BV;generalize ρ _=l
 induction l with
 |nil=>rfl
 |cons k l b =>
  rw[ci,va];cases e:S 0 k with
  |nm z d =>
   show List.count q (d::_)=_;rw[List.count_cons,b]
   rfl
  |_=>exact b
def Nb(h:0<ld (n*w) S q):∃ k z,k<n*w/\S 0 k=.nm z q:=by
 let[k,d,e]:=vy.mp h;cases b:S 0 k with
 |nm z g =>
  rw[b]at e
  have:g=q:=by simpa [GR]using e
  exact x2 k z {ao.mp d,by rw[<-this];exact b}
 |_=>rw[b]at e;cases e
def Nd(b:k<n*w)(e:S 0 k=.nm z q):0<ld (n*w) S q:=vy.mpr {k,ao.mpr b,by rw[e];simp[GR]}
def z0b(b:InL n r c w S)(h:0<E4 (BV n r c w S) p):∃ q m ps,S 3 q=.rc m ps/\p∈ps:=by
 let[d,hd,g]:=mn.mp<|ua.mp h;let[k,i,rfl]:=ay.mp hd;cases e:S 3 k with
 |rc m ps=>rw[e]at g;exact x3 k m ps ⟨e,g⟩
 |_=>rw[e]at g;cases g
def z0c(s:Snd (n * w) S)(p:Nat):E4 (BV n r c w S) p<=1:=by
 refine At.mp (List.pairwise_flatMap.mpr {λd hd=>?_,List.pairwise_map.mpr<|ix.imp λ{i j} l x b y g z=>?_}) p;let[k,v,rfl]:=ay.mp hd;cases e:S 3 k with
 |rc m ps=>exact s.nd k m ps e
 |_=>exact .nil
 cases e:S 3 i with
 |rc m ps =>
  cases o:S 3 j with
  |rc q u =>
   rw[e]at b;rw[o]at g;exact s.dj i j m q ps _ (a_ l) e o x b (z ▸ g)
  |_=>rw[o]at g;cases g
 |_=>rw[e]at b;cases b
def IS(h:∀ k,k<n->p k=false):DJ n p f=[]:=by
 unfold DJ;rw[za.mpr λk b=>by rw[h k (ao.mp b)];exact ax]
 rfl
def Snd.fault(s:Snd (n * w) S)(b:InL n r c w S):faults (BV n r c w S)=[]:=by
 have pm:∀ {p},0<E4 _ p->S 2 p=.mk 1/\∃ t,S 4 p=.tx t:=λ{p} h=>by
  refine u3 ?_<|z0b b h;intro q m ps [e,g];exact s.pm q m ps e p g
 have o:∀ k,k<(BV n r c w S).nm.length->HS _ k=false:=λk d=>by
  unfold HS;rw[b.nm];cases e:S 0 k with
  |nm z q =>
   refine u2 ?_ (s.nl k z q (by rw[JT]at d;exact d) e);rintro m ps i
   show(AY _ q).isNone=false;rw[b.rc,i];rfl
  |_=>rfl
 have u:∀ k,k<(BV n r c w S).nm.length->IN _ k=false:=λk d=>by
  unfold IN;rw[b.nm];cases e:S 0 k with
  |nm z q =>
   show List.any _ _=false;rw[xj];intro j l
   have l:=ao.mp l;rw[b.nm];cases v:S 0 j with
   |nm x A =>
    have d:k<n*w:=by rw[JT]at d;exact d
    show ¬ decide _=true;rw[decide_eq_true_eq];rintro rfl
    have:=s.un j k x A q (wa l d) d v e
    lia
   |_=>exact ax
  |_=>rfl
 have B:∀ p,p<(BV n r c w S).pc.length->decide (1<E4 (BV n r c w S) p)=false:=λp g=>by
  have:=z0c (r:=r) (c:=c) s p
  lia
 have D:∀ p,p<(BV n r c w S).pc.length->(decide _&&(AY _ p).isNone)=false:=λp g=>by
  by_cases h:0<E4 (BV n r c w S) p;let[y,t,e]:=pm h;rw[b.pc,e,decide_eq_true h];rfl;rw[decide_eq_false h];rfl
 have I:∀ q,q<(BV n r c w S).rc.length->JO _ q=false:=λq J=>by
  unfold JO;rw[b.rc];cases e:S 3 q with
  |rc m ps =>
   have:=s.ct q m ps e
   show decide _=false;rw[M9];lia
  |_=>rfl
 have L:∀ q,q<(BV n r c w S).rc.length->(decide (0<led (BV n r c w S) q) && !decide (AY (BV n r c w S).rm q=some 1))=false:=λq J=>by
  rw[M9,b.rm];by_cases h:0<ld (n*w) S q;refine u2 ?_<|Nb h;intro k z [d,e];refine u2 ?_<|s.nl k z q d e;rintro m ps i;rw[s.mr q m ps i,decide_eq_true h];rfl;rw[decide_eq_false h];rfl
 have M:∀ p,p<(BV n r c w S).pc.length->(decide _ && !decide (AY (BV n r c w S).pm p=some 1))=false:=λp g=>by
  by_cases h:0<E4 (BV n r c w S) p;rw[b.pm,(pm h).1,decide_eq_true h];rfl;rw[decide_eq_false h];rfl
 unfold faults Q9 RA RB;rw[IS o,IS u,IS B,IS D,IS I,IS L,IS M]
 rfl
end
section
variable{n r c w:Nat}{S:Md}
def WA(e:S 3 k=.rc m ps)(h:0<ld (n*w) S k):CO n r c w S 3 k=.rc (ld (n*w) S k) ps:=by
 unfold CO;simp only[jw,if_false,if_true,e];rw[if_neg (gr h)]
def KS(h:CO n r c w S 3 k=.rc m ps):∃ b,S 3 k=.rc b ps/\0<ld (n*w) S k/\m=ld (n*w) S k:=by
 unfold CO at h;simp only[jw,if_false,if_true]at h;cases e:S 3 k with
 |rc b d =>
  rw[e]at h;simp only at h;split at h;cases h;cases h;exact{b,rfl,by lia,rfl}
 |_=>rw[e]at h;cases h
def Snd.mended(s:Snd (n*w) S)(b:InL n r c w S):Snd (n*w) (CO n r c w S):=by
 refine{λk z q i e=>?_,λq m ps e=>?_,λq m ps e=>?_,λq m ps e=>?_,λq m ps e p l=>?_,λq o m g ps u v e A=>?_,s.un};refine u2 ?_<|s.nl k z q i e;rintro m ps d;exact x2 _ _<|WA d<|Nd i e;let[g,x,x,rfl]:=KS e;exact ba<|(λq=>rfl) q;let[g,d,h,x]:=KS e;unfold CO;simp only[d];rw[if_neg (gr h)];exact s.mr q g ps d;let[g,d,x,x]:=KS e;exact s.nd q g ps d;let[g,d,h,x]:=KS e;let[h2,h4]:=s.pm q g ps d p l;refine{?_,h4};unfold CO;simp only[h2]
 have:0<GT (BV n r c w S) p:=by
  refine ua.mpr (mn.mpr {_,ay.mpr {q,c_.mpr {ao.mpr ?_,?_},b.rc q},by rw[d];exact l});rw[IR];refine u2 ?_<|Nb h;intro k y [i,B];refine u2 ?_<|s.rl b i B;intro x x [h',x];exact h';rw[M9];exact decide_eq_true h
 lia
 let[x,d,x,x]:=KS e;let[x,j,x,x]:=KS A;exact s.dj q o _ _ ps _ v d j
def InL.mended(b:InL n r c w S):InL n r c w (CO n r c w S):=by
 constructor;intro kind k h
 have e:=b.no _ k h;unfold CO;split;rename_i z;subst z;rw[e,b.no 3 k<|h];split;rename_i z;subst z;rw[e];split;rename_i z;subst z;rw[e];exact e;intro kind k
 have e:=b.ok kind k;unfold CO;split;rename_i z;subst z;cases g:S 3 k with
 |rc m ps =>
  show FB 1 (if _ then _ else _);split;exact bh 1;exact e
 |_ =>
  cases d:S 1 k with
  |mk i =>
   show FB 1 (if _ then _ else _);rw[d]at e;split;exact bh 1;exact e
  |_=>rw[d]at e;exact e
 split;rename_i z;subst z;cases d:S 2 k with
 |mk i =>
  show FB 2 (if _ then _ else _);rw[d]at e;split;exact bh 1;exact e
 |_=>rw[d]at e;exact e
 split;rename_i z;subst z;cases d:S 3 k with
 |rc m ps =>
  show FB 3 (if _ then _ else _);split
  trivial
  trivial
 |_=>rw[d]at e;exact e
 exact e
def dH{α :Type}{f g:Nat-> α}{m:Nat}(h:∀ k,k<m->f k=g k):(ρ m).map f=(ρ m).map g:=vx λk b=>h k<|ao.mp b
def z0d(b:InL n r c w S):mended (BV n r c w S)=BV n r c w (CO n r c w S):=by
 unfold mended;rw[IR,L7]
 have d:(ρ _).map (FU _)=(ρ<|r*w).map λk=>LY (CO n r c w S 3 k):=dH λk y=>by
  unfold FU CO;rw[b.rc,M9];cases e:S 3 k with
  |rc m ps =>
   show(if ld _ S k=0 then none else some _)=LY _;split<;>rfl
  |_=>rfl
 have g:(ρ _).map (KM _)=(ρ<|r * w).map λk=>FE (CO n r c w S 1 k):=dH λk y=>by
  unfold KM CO;rw[b.rc,b.rm,M9];cases e:S 3 k with
  |rc m ps =>
   show(if ld _ S k=0 then some 0 else FE _)=FE _;split<;>rfl
  |_ =>
   cases d:S 1 k with
   |mk i =>
    show(if(some (i:Int))=some 1 then some 0 else some _)=FE (if i=1 then .mk 0 else .mk i);by_cases h:i=1;subst h;rfl;rw[if_neg h,if_neg (λz=>h (by exact ce<|ι z))];rfl
   |_=>rfl
 have j:(ρ _).map (MZ _)=(ρ<|c*w).map λk=>FE (CO n r c w S 2 k):=dH λk y=>by
  unfold MZ CO;rw[b.pm];cases d:S 2 k with
  |mk i =>
   show(if some (i:Int)=some 1/\GT _ k=0 then some 0 else some _)=FE (if i=1/\GT _ k=0 then .mk 0 else .mk i);by_cases h:i=1/\GT (BV n r c w S) k=0;rw[if_pos h,if_pos {by rw[h.1];rfl,h.2}];rfl;rw[if_neg h,if_neg<|λz=>h {ce<|ι z.1,z.2}];rfl
  |_=>rfl
 rw[d,g,j]
 rfl
def Ng(ok:EK (BV n r c w S))(h1:kind<5)(b:k<BR n r c w kind):(D2<|BV n r c w S)[HA n r c kind*w+k]? =some (Mp kind<|S kind k):=by
 unfold BR at b;unfold HA;let _||_||_||_||_||kind:=kind
 ·simp only[if_true,wc,lg]at b ⊢;rw[c9 JT b,Mv,if_pos b];rfl
 ·simp only[jw,if_false,if_true,lg,eq]at b ⊢;rw[RY ok JT IR L7 b,My,if_pos b];rfl
 ·simp only[jw,if_false,if_true,lg,yg,eq]at b ⊢;rw[VZ ok JT IR L7 b,Mz,if_pos b];rfl
 ·simp only[jw,if_false,if_true,lg,yg]at b ⊢;rw[OO JT IR b,Mw,if_pos b];rfl
 ·simp only[jw,if_false,if_true,lg,yg,eq]at b ⊢;rw[dA JT IR L7 b,Mx,if_pos b];rfl
 ·lia
def z0e(b:1<=w):BH n r c w kind k=(HA n r c kind*w+k)/w/\k%w=(HA n r c kind*w+k)%w:=by
 constructor;rw[dq,nw<|b];rfl;rw[dq,nv]
def z0f(hf:f<(n+r+c+r+c)*w):∃ kind k,kind<5/\k<BR n r c w kind/\f=HA n r c kind*w+k:=by
 simp only[eq]at hf;refine Ld (N:=n*w) (R:=r*w) (P:=c*w) (A:=λf=>∃ kind k,kind<5/\k<BR n r c w kind/\f=HA n r c kind*w+k) (λh=>x2 0 f {by decide,h,by simp[HA]}) (λk h=>x2 3 k {by decide,h,rfl}) (λk h=>x2 4 k {by decide,h,by simp[HA,eq]}) (λk h=>x2 1 k {by decide,h,by simp[HA,eq]}) (λk h=>x2 2 k {by decide,h,by simp[HA,eq]}) hf
def z0g{α b :Type}{F: α -> b ->Prop}:∀ {l:List α} {m:List b},l.length=m.length->(∀ (i:Nat) x y,l[i]? =some x->m[i]? =some y->F x y)->Paired F l m:=by
 intro l m h f
 induction l generalizing m with
 |nil=>rw[List.eq_nil_of_length_eq_zero h.symm];exact .nil
 |cons x l d=>cases m with
  |nil=>cases h
  |cons y m=>exact .cons (f 0 x y rfl rfl) (d (Ga h) λi=>f<|i+1)
def WB(P:PlankAt a H x y w rows m)(b:1<=w)(rl:rows.length=n+r+c+r+c)(h1:kind<5)(o:k<BR n r c w kind):∃ v,(rows[BH n r c w kind k]?).bind (λq=>q[k%w]?)=some v/\rows.flatten[HA n r c kind*w+k]? =some v/\∃ q∈rows,v∈q:=by
 let[g,p]:=z0e      b
 have s:HA n r c kind*w+k<(n+r+c+r+c)*w:=by
  refine ω (Nat.add_lt_add_left o _) ?_;unfold BR;rw[<-eq];refine vn _ ?_;unfold HA;let _||_||_||_||_||kind:=kind<;>simp<;>lia
 have i:BH n r c w kind k<rows.length:=by rw[rl,g];exact(ut<|b).mpr s
 have j:k%w<w:=t_ _<|b
 have d:=θ i
 have u:=P.wd _<|η d
 have l:=θ (show k%w<(rows[BH n r c w kind k]).length by rw[u];exact j)
 have e:(rows[BH n r c w kind k]?).bind (λq=>q[k%w]?)=some ((rows[BH n r c w kind k])[k%w]):=by rw[d];exact l
 refine{_,e,?_,_,η d,η l};rw[<-e,<-VW P.wd i j,g,p,Ie]
def z0h(P:PlankAt a H U Y w rows m)(u:1<=w)(sz:n<=6/\r<=6/\c<=6/\w<=6/\rows.length=n+r+c+r+c)(few:c*w<=18)(A:QY H rows)(R:RowsAre H n r c w rows S)(b:InL n r c w S)(s:Snd (n*w) S):EK (BV n r c w S):=by
 let[D,I,z3,J,rl]:=sz
 have B:∀ {x:Nat},x<=6->x*w<=36:=λ{x} h=>ia h J;refine{λd hd=>?_,λd hd=>?_,λz hz=>?_,by simp[BV],by simp[BV],by rw[JT];exact oA (B D) rfl,by rw[IR];exact oA (B I) rfl,by rw[L7];exact oA few rfl};let[k,g,e]:=ay.mp hd
 have g:=ao.mp g
 have e:=zz8   e;rw[IR];refine u2 ?_<|s.rl b g e;intro y y [L,y];refine{L,?_};let[v,o,y,q,j,i]:=WB    P u rl (kind:=0)  (by decide) (g)
 have l:=R 0 k v (by decide) (g) o;rw[e]at l;let[t,rfl,M]:=l;let[xs,ex,y,N]:=A q j _ i;rw[M]at ex;cases ex;exact N _ χ;let[k,g,e]:=ay.mp hd;let[m,O,y]:=zz9 e
 have:=s.few b O;exact{λp T=>by rw[L7];exact this.1 p T,oA (ψ this.2 few) rfl};let[k,g,e]:=ay.mp hz;let[v,o,y,q,j,i]:=WB    P u rl (kind:=4)  (by decide) (by simpa [BR]using g)
 have l:=R 4 k v (by decide) (by simpa [BR]using g) o;rw[(z0a e)]at l;rw[l]at i;exact A q j _ i
def RowsAre.plv{rows:wC}(R:RowsAre H n r c w rows S)(P:PlankAt a H o p w rows m)(j:1<=w)(rl:rows.length=n+r+c+r+c)(b:InL n r c w S)(ok:EK (BV n r c w S)):PlV H rows n r c w (BV n r c w S):=by
 refine PlV.of (z0g ?_ λf v x e g=>?_) JT IR L7 ok;rw[V0 P.wd,Lc _ ok,JT,IR,L7,rl];simp only[eq]
 have hf:=(ζ.mp e).1;rw[V0 P.wd,rl]at hf;refine u2 ?_<|z0f hf;intro kind k [h1,d,rfl];rw[Ng ok h1 d]at g;let[q,l,i,z]:=WB P j rl h1 d;obtain rfl:=ι g;rw[e]at i;obtain rfl:=ι i;exact(Mq h1<|b.ok _ _).mp (R _ k v h1 d l)
def PlV.rows{g i:Addr}{m:Nat}{rows:wC}(L:PlV H rows n r c w (BV n r c w S))(P:PlankAt a H g i w rows m)(j:1<=w)(rl:rows.length=n+r+c+r+c)(b:InL n r c w S):RowsAre H n r c w rows S:=λkind k v h1 e l=>by
 let[q,d,o,z]:=WB P j rl h1 e;rw[l]at d;obtain rfl:=ι d;let[x,ex,p]:=cW L.asC o;rw[Ng L.ok h1 e]at ex;obtain rfl:=ι ex;exact(Mq h1<|b.ok _ _).mpr p
def PlV.good{rows:wC}{g:Vw}(L:PlV H rows n r c w g):QY H rows:=λq l v o=>by
 let[f,hf]:=List.mem_iff_getElem?.mp<|List.mem_flatten.mpr ⟨q,l,o⟩;let[x,ex,b]:=cW L.asC hf
 have ok:=dC L.ok x<|η ex;cases x with
 | nm d =>
  cases d with
  |none=>rw[b];trivial
  |some d =>
   let[t,rfl,e]:=b;exact⟨_,e,by simp,λu j=>by
    simp only[aj,bt,or_false]at j;let rfl||rfl:=j
    exact ok
    trivial⟩
 | rc d =>
  cases d with
  |none=>rw[b];trivial
  |some d =>
   revert b;apply u2;intro t u [rfl,e,p]
   have hd:some d∈g.rc:=by
    have:=η ex;unfold D2 at this;simp only[bc,ay,reduceCtorEq,and_false,exists_false,false_or,or_false,Cel.rc.injEq,exists_eq_right]at this;exact this
   exact⟨_,e,by simp,λx b=>by
    simp only[aj,bt,or_false]at b;let rfl||rfl:=b
    trivial
    refine{_,p,by simp[AQ];exact oA ((L.ok.n2 d hd).2) rfl,λy s=>?_};let[i,z,rfl]:=ay.mp s
    trivial⟩
 |pc d =>
  cases d with
  |none=>rw[b];trivial
  |some d=>rw[b];exact ok
 |mk d =>
  cases d with
  |none=>rw[b];trivial
  |some d=>rw[b];trivial
end
def z0i(s:Snd m0 S):∃ o,Hist m0 S [] (LX []) o:={λz=>none,λz z=>s,λz z z z z=>rfl,λz z=>rfl,λz z z z z z z=>Nf}
def Nh{Q:Addr->Hp->Prop}{E:XK}(G:Gnd K a b j l p n r c w rows nn S)
  (q:∀ (X:SX) (d:Hp),X.S.lp=j->X.S.A.gp=l->X.S.A.cl=p->X.n=n->X.r=r->X.c=c->X.w=w->(∀ y o,b y=some o->y=p\/¬ X.S.A.F y)->b X.S.tk=none->C6 a d X [] [] {S,[]}->Same b d->Q X.S.st d) :
  ∀ x g,b x=none->b g=none->g≠x->Q1 K a [.ref x,.ref j,.ref l] (upd (upd b g<|.own x) x (.ins (a "Store") g [])) (λv d=>v=.non/\Q x d) E:=λx g u J nd=>by
 have i:Same b (upd (upd b g<|.own x) x (.ins (a "Store") g [])):=(AL J).trans (AL (by rw[AI nd.symm];exact u));refine OV x g j l p n r c w _ nn S {rfl,G.t4,AE,G.la.same i,G.pl.same i,G.sz,λq L v s=>(G.gd q L v s).keep i.tk,λkind k v h1 M s=>(G.rw.keep i.tk) _ k v h1 M s,λkind k z z=>G.bo.ok _ k,λN d O T U Y off B I sb=>{rfl,?_}}
 have D:Same b d:=λy o e=>sb _ _ (i _ _ e) (BJ e u)
 have:=q {N,n,r,c,w,_,nn,λz=>false} d T U Y rfl rfl rfl rfl (λy o e=>off y o<|i _ _ e) (by
  cases e:b _ with
  |none=>rfl
  |some o=>rw[i _ _ e]at B;cases B) {I,z0i G.sd,G.bo,λk c ec=>by simp at ec,G.rw.keep D.tk,G.few,λz h=>by simp at h,G.w1} D
 rw[<-O];exact this
def z0j(h:Z7 K a vs H Q E):b0 K a (λ_=>E) (AX Q) (AW ["layout","plank","finds","due","find"] vs) H:=zz6 h
def Gnd.site(G:Gnd K a H d e g n r c w rows nn S):Site K a H d e g n r c w rows nn (BV n r c w S):=by
 let[i,j,l,o,b]:=G.sz;exact{G.tv,G.t4.2.2.1,G.t4.2.1,G.la,G.pl,b,G.rw.plv G.pl G.w1 b G.bo<|z0h G.pl G.w1 G.sz G.few G.gd G.rw G.bo G.sd,G.w1,o,i,j,l}
example:(z0k,Z8,El,2):=by
 apply WL;intro s g j n r c w rows nn S [rfl,G,q];let[dl,l]:=G.la.ob;let[dp,D]:=G.pl.ob;let[tc,I,x]:=G.pl.ls
 have u:¬ (s=g\/s=j):=λz=>by
  let z||z:=z
  rw[z,D]at l;injection l with z;injection z with _ _ z;exact absurd (congrArg g_ z) (by simp[pf,lf])
  rw[z,I]at l;cases l
 refine WK s g j n r c w _ nn _ {rfl,G.site,G.sd.fault G.bo,λfo v J L F2 i B b p=>?_};rw[z0d G.bo]at b;refine Nh  {G.tv,G.t4,G.la.sb p u,i,⟨G.sz.1,G.sz.2.1,G.sz.2.2.1,G.sz.2.2.2.1,B⟩,G.few,G.w1,b.good,b.rows i G.w1 B G.bo.mended,G.bo.mended,G.sd.mended G.bo} λX M N O T U Y e6 e7 off ht C s3=>?_
 have old:∀ y,J y=none->H y=none:=λy e=>by
  cases e':H y with
  |none=>rfl
  |some o =>
   by_cases z:y=g\/y=j;let z||z:=z
   let[x,d]:=i.ob;rw[z,d]at e;cases e;let[x,A,x]:=i.ls;rw[z,A]at e;cases e;rw[p _ _ e' z]at e;cases e
 refine q X M N O T U Y e6 e7 (λy o e=>?_) (old _ ht) C (p.trans<|Same.sb s3);by_cases z:y=g\/y=j;let z||z:=z
 let[x,d]:=i.ob;rw[z];exact off g _ d;exact .inl z;exact off y o<|p _ _ e z
def C6.gnd(I:C6 a H X cs b M)(c:TV K a)(d:CU K a):Gnd K a H X.S.lp X.S.A.gp X.S.A.cl X.n X.r X.c X.w X.rows X.nn (sh M.b X.C M.as):={c,d,I.st.ly,I.st.bk.pk,I.st.sz,I.few,I.w1,I.st.gd.1,I.rows,I.inl _,I.snd}
def EV{M:Hs}{kind k:Nat}{x:CV}{nd:xE}:(M.put kind k x nd).f=M.f.put kind k x:=rfl
def FH{c kind k:Nat}{S:Md}{x:CV}(h:kind≠2):D9 c (S.put kind k x)=D9 c S:=by
 unfold D9
 congr 1
 funext j;rw[N1 h.symm]
def dJ{k:Nat}{S:Md}{x:CV}:∀ {c:Nat},k<c->D9 c (S.put 2 k x)+(if RK (S 2 k)then 1 else 0)=D9 c S+(if RK x then 1 else 0):=by
 intro c;unfold D9
 induction c with
 |zero=>intro h;exact nZ h
 |succ n d =>
  rw[bz,nc,nc];simp only[va,zi];by_cases e:k=n;subst e
  have:(ρ k).countP (λj=>RK<|(S.put 2 k x) 2 j)=(ρ k).countP (λj=>RK _):=Gn λj b=>by
   rw[DT (a_<|ao.mp b)]
  rw[CZ]
  lia
  rw[DT (λz=>e z.symm)]
  lia
theorem Nj{c d:Nat}:∀ {ps:xE} {M:Hs},ps.Nodup->(∀ p∈ps,p<c/\M 2 p=.mk 1)->D9 c (M.unmark d ps).f+ps.length=D9 c M.f
 | [],_,_,_=>rfl
 |p::ps,M,i,h=>by
  let[h1,h2]:=ic.mp i;let[j,e]:=h p χ
  have l:=Nj  (d:=d)  (M:=M.put 2 p (.mk 0) [d]) h2 λq b=>⟨(h q<|τ _ b).1,by
   rw[Hs.put_at,if_neg<|λ(z:2=2/\q=p)=>h1<|z.2 ▸ b];exact(h q<|τ _ b).2⟩
  have g:=dJ (S:=M.f) (x:=.mk 0) j;rw[e]at g
  have g:D9 c (M.put 2 p _ [d]).f+1=D9 c _+0:=g
  show D9 c ((M.put 2 p _ _).unmark d ps).f+_=_;rw[b_]
  lia
theorem R1:∀ {ps:xE} {M:Hs},(M.unmark d ps).as=(ps.map λp=>({2,p,.mk 0,[d]}:AC)).reverse++M.as/\(M.unmark d ps).b=M.b
 | [],_=>⟨rfl,rfl⟩
 |p::ps,M=>by
  have:=R1 (d:=d) (ps:=ps) (M:=M.put 2 p (.mk 0) [d]);refine{?_,this.2};rw[ci,oq,dw];exact this.1
def z0l:∀ i:Fin 26,(μ "abcdefghijklmnopqrstuvwxyz").cps.toList[i.val]? =some (97+i.val):=by decide
def z0m{i:Int}{n:Nat}{Q:VK}(b:i=n)(c:n<26)(q:Q (.str {#[97+n]}) H):B7 K (.str<|μ "abcdefghijklmnopqrstuvwxyz") (.int i) H Q:=cP b (by decide) (z0l ⟨n,c⟩) q
def WC(q:∀ n:Nat,n<26->Q (.str {#[97+n]}) H):B7 K (.str<|μ "abcdefghijklmnopqrstuvwxyz") (.int<|x%26) H Q:=by
 let[b,c,d]:=OF x (n:=26) (by decide);rw[show((26:Nat):Int)=26 from rfl]at c;rw[c];exact z0m rfl d<|q b d
def R3:Str:=μ " !\"#$&'()*+,-./0123456789:;<=>?@ABCDEFGHIJKLMNOPQRSTUVWXYZ[\\]^_`"++μ "abcdefghijklmnopqrstuvwxyz{|}~"
theorem Nk:∀ l:zD,(∀ x∈l,x.length=1)->(l.map (·.length)).sum=l.length
 | [],_=>rfl
 |x::r,h=>by
  rw[ci,yh,Nk r λy b=>h y<|τ _ b,h x χ];exact ug _ _
section
variable{X:SX}{M:Hs}{y:Str}
end
def dM{kvs:vC}:(∃ v,BE kvs k=some v)↔k∈kvs.map (·.1):=by
 rw[<-dt,<-K2,du,ay];constructor;intro[p,b,e];exact{p,b,by simpa using e};intro[p,b,e];exact{p,b,by simpa using e}
def R4:z∈F9 M m↔∃ k d,k<m/\M 0 k=.nm z d:=by
 unfold F9;rw[mw];constructor;intro[k,g,e];let[p,b,rfl]:=af.mp e;unfold D1 at b;cases c:M 0 k with
 |nm y r=>rw[c]at b;cases b;exact x2 k r {ao.mp g,c}
 |no=>rw[c]at b;cases b
 |mk i=>rw[c]at b;cases b
 |rc m ps=>rw[c]at b;cases b
 |tx t=>rw[c]at b;cases b
 intro[k,d,g,e];exact{k,ao.mpr g,by unfold D1;rw[e];rfl}
theorem dN{c:Nat}{M:Hs}:∀ {ps:xE},(∀ p∈ps,p<c/\∃ t,M 4 p=.tx t)->∃ b,Paired (λp t=>p<c/\M 4 p=.tx t) ps b
 | [],_=>{[],.nil}
 |p::ps,h=>by
  let[b,P]:=dN λq d=>h q<|τ _ d;let[h1,t,h2]:=h p χ;exact{_,.cons ⟨h1,h2⟩ P}
section
variable{X:SX}{cs:zE}{tks:vC}{M:Hs}
def C6.cell(I:C6 a H X cs tks M){k b:Nat}{z:Str}(c:k<X.m0)(e:M 0 k=.nm z b):cellOf M X.m0 z=some k:=by
 cases d:cellOf M _ z with
 |none=>exact absurd e<|R0 d k _ c
 |some j =>
  let[g,i,l]:=VO d;rw[I.now.un j k z i _ g c l e]
end
def Nl:D9 c S<=c:=by
 refine ψ uu ?_;rw[cr];exact ο _
def z0n{c:Nat}:[c]<(μ "0").cps.toList↔c<48:=by
 rw[show(μ _).cps.toList=[48] by decide +kernel,jf];simp
def z0o{c:Nat}:(μ "9").cps.toList<[c]↔57<c:=by
 rw[show(μ _).cps.toList=[57] by decide +kernel,jf];simp
def R5{b c st:Addr}:(hf b c st).lookup ("plan":Str)=some (.ref b):=rfl
def dO{c b st:Addr}:(hf c b st).lookup ("ground":Str)=some (.ref b):=rfl
example:(z0p,aC,uW,1,h):=by
 revert h;refine u5 ?_;intro h b c d st [rfl,T,e,q];exact x3 _ _ _ ⟨e,T.cl,T.n2,_,dO,q⟩
example:(z0q,aA,aS,1,h):=by
  let[z,rfl,hz,q]:=h;erw[aS,aS1_,aS2_]
  have d:z.cps.toList.length=z.length:=by simp[yt]
  unfold LZ at q;rw[d]at q;refine{_,{BQ _ (by lia),rfl},?_};split;rw[show decide _=true from decide_eq_true (by omega)]at q;by_cases h2:z.length<=3;rw[show decide _=true from decide_eq_true h2]at q;rw[if_neg (by omega)];refine cQ hz (f:=λc=>decide (48<=c)&&decide (c<=57)) (λc n b=>?_) λj s=>?_;erw[z0n,z0o];split;rw[show decide _=true from decide_eq_true (by omega)]at b;rw[show(!decide _)=decide (c<=57) by rw[<-decide_not];exact decide_eq_decide.mpr (by lia)];exact b;rw[show decide _=false from decide_eq_false (by omega)]at b;exact b
  have b:=q j s;revert b;cases z.cps.toList.all _ with
  |false=>intro b;exact b
  | true =>
    intro b
    have i:(μ "0").cps.toList=[48]:=by decide
    by_cases h4:z=μ "0";rw[if_pos h4];rw[h4]at b;exact b;rw[if_neg h4];rw[decide_eq_false (λe=>h4 (by rw[<-YS z,e,<-i]))]at b;cases g:z.cps.toList with
    |nil=>rw[g]at d;simp at d;omega
    | cons c r =>
      refine cP  rfl (by omega) (by rw[g];rfl) ?_;rw[g]at b
      have l:(!decide ({#[c]}=μ "0"))=decide ((c::r).head? ≠some 48):=by
        rw[<-decide_not];refine decide_eq_decide.mpr<|not_congr {λe=>?_,λe=>?_}
        have:=congrArg (λs:Str=>s.cps.toList) e;rw[i]at this;simpa using this
        · simp at e
          rw[e];decide +kernel
      erw[];rw[l];exact b
  rw[show decide (z.length<=3)=false from decide_eq_false h2]at q;rw[if_pos (by omega)];exact q H<|Same.refl _;rw[show decide (1<=z.length)=false from decide_eq_false (by omega)]at q;exact q H<|Same.refl _
example:(z0r,VC,aT,3,h):=by
 revert h;refine u5 ?_;intro t ol e out held [rfl,[b,c,hs,d,P],h1,h2,q];erw[aT,aT0_,aT1_,aT2_];exact BT b  rfl rfl {_,.inl {_,SqL.of c,by rw[ε]},BT b  rfl rfl {_,.inl {_,SqL.of d,by rw[ε,P.length]},by lia,by omega,by lia,by omega,q}}
example:(z0s,RG,aU,1,h):=by
 revert h;refine u2 ?_;intro l b [rfl,e,c,q];erw[aU,aU0_];unfold JP at q;refine{_,.inl {_,SqL.of e,by rw[ε]},?_};cases b with
 |nil=>exact q
 |cons k r =>
  rw[if_pos (by simp)];exact{rfl,x3 _ l _ {rfl,rfl,SqL.of e,by decide,by lia,q}}
example:(z0t,aB,yC,3,h):=by
 let[z,rfl,T,hz,c,b]:=h;refine{rfl,x2 z _ {rfl,rfl,by decide,by omega,λt g=>BT AE  rfl rfl ?_}}
 have j:=AL (o:=.tup [.str (Txt.partition z<|μ " ").1,.str (Txt.partition z<|μ " ").2.1,.str (Txt.partition z<|μ " ").2.2]) g;revert j;generalize upd H t _=M;intro j;rw[zjx z (by omega)];unfold D7 L0 at c b
 have hs:=YU z
 have v:=zjw z
 have x:∀ w∈CY _,w.length<=z.cps.toList.length:=λw h=>UB h;revert c b hs v x;generalize CY _=ws;generalize C1 _=k;intro c b hs v x;erw[yC2_];cases g:HP _ k with
 |none =>
  simp only[g]at b;exact{by decide,b trivial _ j}
 | some n =>
  simp only[g]at c b;rw[if_neg (by simp)]
  have fin:∀ {vs:List _} {l:Addr} {q:Hp},(if k=("put")then UA ws else ws)=vs->H l=none->Same H q->q l=some (.lst<|(vs.map C1).map V.str)->yC5 K a (λ_=>E) (λ_=>E) { nx:=AH (yC7 K a (λ_=>E) λ_=>E) (yC8 K a (λ_=>E) λ_=>E) (AX Q),rt:=Q } [some (.str z),some<|.str k,some<|.ref l] q:=by
   intro vs l q y i r s;rw[y]at c b;erw[yC5_];refine{vs.length,.inl {_,SqL.of s,by rw[ε,ε]},n,g,?_};by_cases p:(vs.length:Int)=n;rw[if_neg (by simpa using p)];rw[if_neg (by simpa using p)]at c b;refine x2 _ _ {rfl,.inr<|T.wn q,rfl,rfl,?_}
   have J:NJ (.str k) (M3.map V.str)=decide (k∈M3):=by
    show((μ "take")==k||((μ "write")==k||false))=_;rw[ku];simp only[nr,beq_iff_eq,kf,or_false,decide_eq_true_eq,M3,aj,bt];exact{λh=>h.imp Bi Bi,λh=>h.imp Bi Bi}
   rw[J];erw[];by_cases d:k∈M3;refine E6 d ?_
   have D:vs≠[]:=λe=>by
    rw[e]at p
    have:n=0:=p.symm;rw[this]at g;rcases(show k=("take":Str)\/k=("write":Str) by simpa [M3]using d)with h|h
    ·rw[h]at g;revert g;decide +kernel
    ·rw[h]at g;revert g;decide +kernel
   obtain⟨us,u,rfl⟩:∃ us u,vs=us++[u]:=x2 vs.dropLast (vs.getLast D) ((List.dropLast_concat_getLast D).symm);refine .inl<|x4 l _ _ (.str<|C1 u) {rfl,rfl,SqL.of s,?_,C1 u,rfl,?_,λN A=>?_};rw[av,av];exact zjy;rw[if_neg (λe=>by rw[e]at d;revert d;decide +kernel)]at y
   have:=x u (by rw[y];exact bu _ χ)
   show u.toArray.size<=_;rw[aw]
   have O:z.cps.toList.length=z.length:=by simp[yt]
   omega
   ·rw[show LZ ((us++[u]).getLastD [])=LZ u by simp]at c b
    have L:(C1 u).cps.toList=u:=rfl;rw[L];cases I:LZ u with
    |false =>
     rw[if_pos ⟨d,I⟩]at b;erw[yC6_];exact{by decide,b rfl _<|r.trans A}
    |true =>
     rw[if_neg (by rw[I];simp)]at c;erw[yC8_];exact c _ rfl _ _ i (r.trans A) (A _ _ s)
   ·refine ED d ?_;rw[if_neg λz=>d z.1]at c;erw[yC8_];exact c _ rfl _ _ i r s
   ·rw[if_pos p];rw[if_pos p]at b;erw[yC4_];exact{by decide,b rfl _ r}
  erw[yC3_];split;rename_i d;refine{rfl,x2 z _ {rfl,by decide +kernel,by omega,.inr {2,by omega,rfl,λl i=>?_}}}
  have B:Txt.splitMax z (μ " ") ((2:Nat):Int)=(UA ws).map C1:=v;rw[B];exact fin (if_pos d) (j.free i) (j.trans<|AL i) AE;rename_i d;refine{rfl,x2 z _ {rfl,by decide +kernel,by omega,.inl {rfl,λl i=>?_}}};rw[hs];exact fin (if_neg d) (j.free i) (j.trans<|AL i) AE
section
variable{st l:Addr}{k:Str}{us:cF}
abbrev JU(K:W.Frag)(a:Ad)(st l:Addr)(k:Str)(H:Hp)(Q:VK)(E:XK)(f:W.Frag->Ad->XE->XE->TS):Prop:=f K a (λ_=>E) (λ_=>E) (AX Q) [some (.ref st),some<|.ref l,some<|.str k] H
def z0u(h0:H l=some (.lst (V.str k::us)))(h1:k=("make":Str)->JU K a st l k H Q E Fw1)(h2:k=("link":Str)->JU K a st l k H Q E Fw2)(h3:k=("cut":Str)->JU K a st l k H Q E Fw3)(h4:k=("put":Str)->JU K a st l k H Q E Fw4)(h5:k=("take":Str)->JU K a st l k H Q E Fw5)(h6:k≠("make":Str)->k≠("link":Str)->k≠("cut":Str)->k≠("put":Str)->k≠("take":Str)->JU K a st l k H Q E Fw6):B7 K (.ref l) (.int 0) H λx b=>Fw11 K a (λ_=>E) (λ_=>E) (AX Q) [some (.ref st),some<|.ref l,some x] b:=by
 refine CH (SqL.of h0)  rfl rfl ?_;erw[Fw11_];split;exact h1 ‹_›;erw[Fw10_];split;exact h2 ‹_›;erw[Fw9_];split;exact h3 ‹_›;erw[Fw8_];split;exact h4 ‹_›;erw[Fw7_];split;exact h5 ‹_›;exact h6 ‹_› ‹_› ‹_› ‹_› ‹_›
end
example:(z0v,RH,Fw,3):=by
 intro[st,l,ws,rfl,[j,n,b,tk,d],c,h];let[y,rfl,h]||[y,t,rfl,h]||[y,z,rfl,h]||[y,z,rfl,h]||[y,rfl,h]||[y,w,x,rfl,g,i,h]:=h<;>refine z0u c ?_ ?_ ?_ ?_ ?_ ?_<;>first|exact λe=>absurd e (by decide)|exact λh1 h2 h3 h4 h5=>(by first|exact absurd rfl h1|exact absurd rfl h2|exact absurd rfl h3|exact absurd rfl h4|exact absurd rfl h5)|intros
 exact x2 _ _ {d,CB,CH (SqL.of c)  rfl rfl h};exact x2 _ _ {d,CB,CH (SqL.of c)  rfl rfl (CH (SqL.of c)  rfl rfl h)};exact x2 _ _ {d,CB,CH (SqL.of c)  rfl rfl (CH (SqL.of c)  rfl rfl h)};exact x2 _ _ {d,CB,CH (SqL.of c)  rfl rfl (CH (SqL.of c)  rfl rfl h)};exact x2 _ _ {d,CB,CH (SqL.of c)  rfl rfl h};exact x2 _ _ {d,CB,CH (SqL.of c)  rfl rfl (CH (SqL.of c)  rfl rfl (x2 w x ⟨rfl,g,i,h⟩))}
def WD:∀ b:Fin 100,(CF (b.val:Nat)).length<=2:=by decide
theorem Nm:∀ {row:xE},(∀ b∈row,b<100)->((row.map λ(b:Nat)=>CF b).map (·.length)).sum<=2*row.length
 | [],_=>ο _
 |b::row,h=>by
  have h2:=Nm  λc d=>h c<|τ _ d
  have h1:=WD {b,h b χ};simp only[ci,yh,b_]
  lia
def z0w{c:VK}{vs:cF}(h:N7 K a vs H Q E)(f:∀ v b,Q v b->c v b):N7 K a vs H c E:=by
 revert h;refine u5 ?_;intro X cs d M z [e,T,I,q,g];refine x5 X cs _ M z {e,T,I,λcell i h1 h2 h3=>?_,g};let[j,n,ps,o,p,r,q]:=q _ _ h1 h2 h3;exact{j,x2 n ps {o,p,r,λl row R b s u c3 w c5 x=>f _ _<|q l _ R b s u c3 w c5 x}}
section
variable{st l:Addr}{k:Str}{us:cF}
def z0x(h0:H l=some (.lst (V.str k::us)))(h1:k=("write":Str)->JU K a st l k H Q E cG1)(h2:k=("keep":Str)->JU K a st l k H Q E cG3)(h3:k=("show":Str)->JU K a st l k H Q E cG5)(h4:k≠("write":Str)->k≠("keep":Str)->k≠("show":Str)->JU K a st l k H Q E cG7):cG K a (λ_=>E) (AX Q) (AW ["","",""] [.ref st,.ref l]) H:=by
 refine CH (SqL.of h0)  rfl rfl ?_;erw[cG2_];split;exact h1 ‹_›;erw[cG4_];split;exact h2 ‹_›;erw[cG6_];split;exact h3 ‹_›;exact h4 ‹_› ‹_› ‹_›
end
example:(z0y,RI,cG,3):=by
 intro[st,l,ws,rfl,[L,M,b,tk,o],g,h];let[b,rfl,r,h]||[y,rfl,h]||[rfl,h]||[y,rfl,h]:=h<;>refine z0x g ?_ ?_ ?_ ?_<;>first|exact λe=>absurd e (by decide)|exact λh1 h2 h3=>(by first|exact absurd rfl h1|exact absurd rfl h2|exact absurd rfl h3)|intros
 exact x2 _ _ {o,CB,CH (SqL.of g)  rfl rfl (x2 _ b {rfl,ψ (MP (by lia) (by lia)) (by lia),W.KIN.num_reads (by lia) (by lia),h})};erw[cG3_];refine CH (SqL.of g)  rfl rfl (z0w h ?_);intro v I [p,row,rfl,B,N,r,q];refine .inl {{_,SqL.of B},?_}
 have s:(AQ row).length=row.length:=by unfold AQ;rw[ε]
 refine XO (xs:=AQ row) (BQ _ (by lia)) (λi ys j=>j=I/\ys=(row.take i).map λ(b:Nat)=>V.str<|CF b) ⟨rfl,rfl⟩ (λi ys j z q=>by rw[q.1];exact SqL.of B) (λi x ys j u w A=>?_) (λys j w A J d=>?_);let[e,n]:=A;unfold AQ at u;rw[υ,af]at u;let[c,D,rfl]:=u
 have:=r c<|η D;refine{_,rfl,by lia,by lia,e,?_};rw[cw,D,av,n]
 rfl;let[e,n]:=A;rw[e]at d ⊢;rw[s,de<|ο _]at n
 have:=Nm r;exact x2 J _ {rfl,by rw[AE,n,lb];rfl,by rw[ε];lia,q _<|AL d};exact x2 _ _ ⟨o,CB,h⟩;exact{rfl,x2 _ _ {o,CB,CH (SqL.of g)  rfl rfl h}}
def SM.far{X:SX}{cs:zE}{p:vC}{M:Hs}{G:Addr->Prop}{w:Hp}{e C J:Addr}{fs:xB}(I:X.at a H cs p M)(he:H e=some (.ins C J fs))(hc:∀ L v N,fs≠F5 L v N)(n1:X.S.st≠e)(n2:X.S.lp≠e)(n3:X.S.A.b≠e)(n4:X.S.A.gp≠e)(s:SameBut G H w)(g:∀ x,G x->x=e\/ER (H x))(f:∀ x,G x->x=e\/(¬ X.S.A.F x/\x≠X.S.tk)):X.at a w cs p M:=by
 have ne:∀ {y:Addr} {o:HO},H y=some o->(∀ C J fs,o≠.ins C J fs)->y≠e:=λh n z=>by rw[z,he]at h;obtain rfl:=ι h;exact n _ _ _ rfl
 have d:EA H w:=λy ys h=>s _ _ h λz=>(g _ z).elim (ne h (by intro u u u z;cases z)) λl=>l.1 _ h
 have j:∀ {y:Addr} {o:HO},H y=some o->X.S.A.F y->w y=some o:=λh hf=>s _ _ h λz=>(f _ z).elim (λz=>(I.bk.loose hf).2 _ _ _ (z ▸ he)) λq=>q.1 hf;let[[d1,e1],e2,[[[d3,b1],[chs,b2,b3],b4,b5,b6,[kvs,b7,b8],[DY,b9,O],r1,r2,r3,r4,r5],[[d4,p1],[ts,p2,p3],q1,q2,q3],nb],e4,e5,e6,e7,e8,e9,T,U,Y]:=I;let[dl,el]:=e2.ob
 have D:∀ {y C' B:Addr} {fs':List _},H y=some _->y≠e->w y=some (.ins C' B fs'):=λh n=>s _ _ h λz=>(g _ z).elim n λl=>l.2 _ _ _ h;refine{{d1,D e1 n1},e2.sb  (λy o h n=>s _ _ h λz=>n<|g _ z) λz=>z.elim n2 λl=>l.2 _ _ _ el,{{{d3,D b1 n3},{_,j b2<|.inl rfl,Paired.mapP b3 λx c h=>?_},j b4<|.inr<|.inl rfl,λi l h=>j (b5 i l h) (.inr<|.inr<|.inl<|η h),b6,{_,j b7<|.inr<|.inr<|.inr<|.inl rfl,b8},{_,j b9<|.inr<|.inr<|.inr<|.inr<|.inl rfl,O},r1,r2,r3,r4,r5},{{d4,D p1 n4},{ts,j p2<|.inr<|.inr<|.inr<|.inr<|.inr rfl,Paired.mapP p3 λt r q=>d _ _ q},q1,q2,q3},nb},s _ _ e4 λz=>(f _ z).elim (ne e4 (by intro u u u z;cases z)) λq=>q.2 rfl,e5,e6,e7,e8,e9.keep d,λkind k v h1 h2 hv=>(T _ k v h1 h2 hv).keep d,U,Y.keep d};revert h;refine u3 ?_;intro B L N [b,c2,c3];exact x3 _ L N {D b λz=>by rw[z,he]at b;injection b with b;injection b with _ _ b;exact hc _ _ _ b,d _ _ c2,d _ _ c3}
def Np{b c st:Addr}:(hf b c st).lookup ("store":Str)=some (.ref st):=rfl
def z0z{k:Str}{Q:VK}(T:EL K a)(q:Q (.bl<|decide<|k∈KN) H):QC K (.str k) (.ref<|a "DEEDS") H Q:=by
 have b:NJ (.str k) (KN.map V.str)=decide (k∈KN):=by
  show((μ _)==k||((μ _)==k||((μ _)==k||((μ _)==k||((μ _)==k||((μ _)==k||false))))))=_;rw[ku]
  have e:∀ {x:Str},x=k↔k=x:=⟨Bi,Bi⟩
  simp only[nr,beq_iff_eq,kf,decide_eq_true_eq,KN,aj,bt];rw[e,e,e,e,e,e]
 refine x2 _ _ {rfl,.inr<|T.dd H,rfl,rfl,?_};rw[b];exact q
example:(z00,FF,Gh,3):=by
 intro[h,o,p,r,st,z,rfl,T,d,i,hz,w,ws,e,q];refine{z,rfl,T,hz,λj b l n s c g=>?_,λb=>by rw[e]at b;cases b};rw[e]at b;obtain rfl:=ι b
 have q:=q l n c g;erw[Gh3_];refine CH (SqL.of g)  rfl rfl (z0z T ?_);erw[];let[hd,q]||q:=q
 exact E6 hd<|x3 _ _ _ {c _ _ d,T.ho.cl,T.ho.n3,_,Np,q};refine ED (q.elim (λq=>by rw[q.1];decide +kernel) λq=>q.1) ?_;refine CH (SqL.of g)  rfl rfl ?_;erw[];let[hd,q]||[_,hd,q]:=q
 exact E6 hd<|x2 _ _ {c _ _ d,rfl,q};exact ED hd<|x3 _ _ _ {c _ _ d,T.ho.cl,T.ho.n3,_,Np,q}
def OP{x h C d c g:Addr}{fs b:xB}{k:Str}(i:H h=some (.ins C d fs))(e:H x=some (.ins c g b))(k1:fs.lookup k≠none)(k2:b.lookup k=none):x≠h:=λz=>by
 rw[z,i]at e;injection e with e
 injection e with _ _ e
 exact k1<|e ▸ k2
def C6.far{X:SX}{cs:zE}{c:vC}{M:Hs}{h C i:Addr}{fs d:xB}(I:C6 a H X cs c M)(b:H h=some (.ins C i fs))(g:fs.lookup ("plan":Str)≠none)(j:fs.lookup ("ground":Str)≠none):C6 a (upd H h<|.ins C i d) X cs c M:=by
 let[u,l]:=I.st.ob;let[u,p]:=I.st.ly.ob;let[u,q]:=I.st.bk.bk.ob
 have s:SameBut _ H (upd H h<|.ins C i d):=λy o e n=>by rw[AI n];exact e
 let[u,r]:=I.st.bk.pk.ob;exact{SM.far I.st b (λw v A z=>g (by rw[z];rfl)) (OP b l j CB) (OP b p g BZ) (OP b q g C8) (OP b r g (IK _ _ _ (by decide) (by decide) (by decide))) s (λx z=>.inl z) λx z=>.inl z,I.hi,I.bo,I.cut,I.rows.keep (λy ys e=>s _ _ e λz=>by rw[z,b]at e;cases e),I.few,I.ok,I.w1}
def HsC.same{h:Addr}{X:SX}{cs:zE}{b:vC}{M:Hs}{c:Hp}(A:HsC a H h X cs b M)(s:Same H c):HsC a c h X cs b M:=by
 let[[d,e],I]:=A;exact{{d,s _ _ e},I.same s}
def HsC.st{h:Addr}{X:SX}{cs:zE}{b:vC}{M:Hs}(A:HsC a H h X cs b M):VD a H X.S.st:=by
 let[c,e]:=A.2.st.ob;exact x4 c _ _ _ e
def Nq{b:Vw}(ok:EK b):(FC b).length<=400:=by
 have h2:=DX (p:=λr=>(AY b.rc r).isSome&&decide (led b r=0)) (f:=λr=>[.str "left",.str "record",.int r]) ok.br
 have h1:=DX (p:=GA b) (f:=λr=>[.str "many",.int r,.int<|led b r]) ok.br
 have h4:=DX (p:=λr=>decide (AY b.rm r=some 1)&&(AY b.rc r).isNone) (f:=λr=>[.str "marked",.int r]) ok.br
 have h3:=DX (p:=λp=>decide (AY b.pm p=some 1)&&decide (GT b p=0)) (f:=λp=>[.str "left",.str "piece",.int p]) ok.bp;simp only[FC,MW,MX,MY,ai]
 lia
example:(z01,RJ,Fb,2):=by
 intro[h,X,cs,O,M,rfl,T,D,[[U,c],I],q]
 have J:=T.s4
 have G:=I.gnd D J
 have S:=G.site;refine x3 _ _ _ {c,T.ho.cl,T.ho.n1,_,R5,x3 _ _ _ {c,T.ho.cl,T.ho.n2,_,dO,x3 _ _ _ {rfl,x7 _ _ _ _ _ _ _ ⟨S.tv,S.tl,S.tp,S.la,S.pl,S.rl,S.pv⟩,λl H1 j n p=>?_}}};let[ps,r,s]:=p
 have u:=I.same n;rw[G.sd.fault G.bo]at s
 have b:=n _ _ c;erw[Fb1_];refine x3 _ _ _ {b,T.ho.cl,T.ho.n1,_,R5,x3 _ _ _ {b,T.ho.cl,T.ho.n2,_,dO,WK _ _ _ _ _ _ _ _ _ _ {rfl,u.gnd D J,λY H2 L N b3 b4 b5 b6 b7 off ht C' sb=>?_}}}
 have v:X.S.A.F _:=.inr<|.inr<|.inr<|.inr<|.inr rfl;let[x,B]:=u.st.bk.pk.ob
 have d:=sb _ _ b λz=>z.elim (λz=>(OP b B  (by rw[R5];nofun) (IK _ _ _ (by decide) (by decide) (by decide))) z.symm) λz=>(λz=>(u.st.bk.loose v).2 _ _ _ (z ▸ b)) z.symm;refine x3 _ _ _ {d,T.ho.cl,T.ho.n3,by show 3<1000;decide,?_}
 have bl:ps.length<1000000:=cf (s.length ▸ Nq S.pv.ok) (by decide);refine{_,.inl {_,SqL.of (by rw[AI (λz=>by rw[z,c]at j;cases j)];exact(sb _ _ r λz=>z.elim (λz=>by rw[z,B]at r;cases r) λz=>I.st.bk.off j<|z ▸ v)),by rw[ε]},_,rfl,by lia,by lia,?_};rw[s.length];refine q Y _ {{U,by rw[L,N];exact AE},C'.far d (by rw[R5];nofun) (by nofun)} {L,⟨b4,b5,b6,b7⟩,λy o e no nG=>?_} N
 have g:=n _ _ e
 have i:y≠X.S.A.cl:=λz=>nG<|.inl<|z ▸ v;exact{by rw[AI (λz=>no _ _ _<|ι<|e.symm.trans<|z ▸ c)];exact sb _ _ g λz=>z.elim (λz=>no _ _ _<|ι<|g.symm.trans<|z ▸ B) i,λz=>z.elim (λz=>(off y _ g).elim i λw=>w z) λz=>by rw[z,ht]at g;cases g}
def NA(b c:Addr):xB:=[("plan",.ref b),("ground",.ref c)]
example:(z02,aD,Cw,2):=by
 intro[h,l,d,n,r,c,w,rfl,[T4,TH,x,x],tv,eh,L,[z1,z2,z3,w1,w6,fw],q];let[TB',TP,TL,TS]:=id T4;refine y3 {eh,TH.cl,TH.n1,by decide,?_};let[dl,u]:=L.ob
 have nh:d≠h:=λz=>by
  rw[z,eh]at u;injection u with u
  injection u with _ _ u
  exact absurd (congrArg g_ u) (by simp[lf])
 have k1:SameBut _ H (upd H h<|.ins (a "House") l (BS (μ "plan") (.ref d) [])):=λy o e n=>by rw[AI n];exact e
 have g:upd H h (.ins (a "House") l (BS (μ "plan") (.ref d) [])) h=_:=AE
 have f1:∀ y,upd H h (.ins (a "House") l (BS (μ "plan") (.ref d) [])) y=none->H y=none:=λy b=>by
  by_cases z:y=h;rw[z,AE]at b;cases b;rw[AI z]at b;exact b
 have M:=L.sb k1 nh;let[dl1,N]:=M.ob;refine y2 {N,BZ,x5 d n r c w {rfl,TL,TP,M,λi cl A mR BN P2 I=>y3 {I _ _ g,TH.cl,TH.n2,(show 1<1000 by decide),?_}}}
 have O:BS (μ "ground") (.ref i) (BS (μ "plan") (.ref d) [])=NA d i:=by
  rfl
 rw[O]
 have k3:SameBut _ A (upd A h<|.ins (a "House") l (NA d i)):=λy o e n=>by rw[AI n];exact e
 have J:=(BJ g BN).symm
 have j:upd A h (.ins (a "House") l (NA d i)) h=_:=AE
 have f3:∀ y,upd A h (.ins (a "House") l (NA d i)) y=none->A y=none:=λy b=>by
  by_cases z:y=h;rw[z,AE]at b;cases b;rw[AI z]at b;exact b
 generalize upd A h (.ins (a "House") l (NA d i))=H3 at *
 have P3:PlankAt a H3 i cl w (bd (n+r+c+r+c) (bd w .non)) 0:=by
  let[[dx,p1],[ts,p2,p3],q1,q2,q3]:=P2;exact{{dx,k3 _ _ p1<|(BJ g mR).symm},{ts,k3 _ _ p2 J,Paired.mapP p3 λt r q=>k3 _ _ q λz=>by rw[z,I _ _ g]at q;cases q},q1,q2,q3}
 have hN:∀ B∈bd (n+r+c+r+c) (bd w V.non),∀ v∈B,v=.non:=λB s v D=>by
  rw[sv s]at D;exact sv D
 refine y3 {j,TH.cl,TH.n2,_,rfl,(Nh (S:=λx x=>.no) {tv,T4,((M.same I).sb k3 nh),P3,{z1,z2,z3,w6,by simp},fw,w1,(λB s v D=>by rw[hN B s v D];trivial),(λkind k v x x D=>?_),{λx x x=>rfl,λkind x=>by cases kind<;>trivial},{λx x x x e=>(by cases e),λx x x e=>(by cases e),λx x x e=>(by cases e),λx x x e=>(by cases e),λx x x e=>(by cases e),λx x x x x x x e=>(by cases e),λx x x x x x x e=>(by cases e)}} λX H5 a1 a2 a3 a4 a5 a6 a7 off T C5 U=>?_)};let[B,Y,ev]:=yl.mp D;exact hN B (η Y) _ (η ev)
 have e13:BS (μ "store") (.ref X.S.st) (NA d i)=hf d i X.S.st:=by
  unfold NA;rw[Y3 (by decide +kernel),Y3 (by decide +kernel),zj6]
  rfl
 refine y3 {U _ _ j,TH.cl,TH.n3,(show 2<1000 by decide),?_}
 have all:∀ y o,H y=some o->y≠h->H3 y=some o:=λy o e n=>k3 _ _ (I _ _<|k1 _ _ e n) n;refine q X _ a1 a4 a5 a6 a7 (λy b=>?_) {{l,by rw[a1,a2];exact AE},C5.far (U _ _ j) nofun nofun} λy o e n=>by rw[AI n];exact U _ _<|all _ _ e n
 let b||rfl:=b
 cases e:H y with
 |none=>rfl
 |some o =>
  exfalso;by_cases z:y=h
  ·exact(off y _<|z ▸ j).elim (λp=>J<|p ▸ z) λp=>p b
  ·refine(off y _<|all _ _ e z).elim (λp=>?_) λp=>p b
   have:=k1 _ _ (p ▸ e) (p ▸ z);rw[BN]at this;cases this
 exact f1 _<|I.free<|f3 _ T
def dP(z:Str):z.cps.toList.length=z.length:=by simp[yt]
def R6(x y:Str):(x++y).cps.toList=x.cps.toList++y.cps.toList:=by
 show(x.cps++y.cps).toList=_;simp
def z03{z:Str}{k:Nat}(h:k<=z.length):(Txt.slice z none<|some (k:Int)).cps.toList=z.cps.toList.take k:=by
 rw[eq_of_beq (slice_closes_to   {i0,by rw[dP];lia})];simp
def z04{z:Str}{k:Nat}(h:k<=z.length):(Txt.slice z (some (k:Int)) none).cps.toList=z.cps.toList.drop k:=by
 rw[eq_of_beq (slice_closes_from   {i0,by rw[dP];omega})]
 have:((z.cps.toList.length:Int)-k).toNat=(z.cps.toList.drop k).length:=by rw[il];lia
 simp only[cj,this,ca]
def Lts(z:Str)(n:Nat):Prop:=z.cps.toList.length=n/\z.cps.toList.all QZ=true
def Lts.len{z:Str}{n:Nat}(h:Lts z n):z.length=n:=h.1
def Lts.cat{x y:Str}{n m:Nat}(h:Lts x n)(h':Lts y m):Lts (x++y) (n+m):=by
 unfold Lts;rw[R6,ai,List.all_append,h.1,h'.1,h.2,h'.2];exact⟨rfl,rfl⟩
def Lts.one{n:Nat}(h:n<26):Lts {#[97+n]} 1:={rfl,by simp[QZ];exact Br (dv h) _}
def Lts.to{z:Str}{n k:Nat}(h:Lts z n)(b:k<=n):Lts (Txt.slice z none<|some (k:Int)) k:=by
 unfold Lts;rw[z03 (by rw[h.len];exact b)];refine{by rw[df,h.1];exact nq b,?_};rw[gu];exact λc d=>gu.mp h.2 c<|Ba d
def Lts.from{z:Str}{n k:Nat}(h:Lts z n)(b:k<=n):Lts (Txt.slice z (some (k:Int)) none) (n-k):=by
 unfold Lts;rw[z04 (by rw[h.len];exact b)];refine{by rw[il,h.1],?_};rw[gu];exact λc d=>gu.mp h.2 c<|A_ d
def Lts.name{z:Str}{n:Nat}(h:Lts z n)(h1:1<=n)(h8:n<=8):BK z=true:=by
 unfold BK;rw[h.len,h.2];simp;exact⟨h1,h8⟩
example:(z05,aE,aY,9,h):=by
 let[x,rfl,q]:=h;obtain⟨m,I,d⟩:∃ m:Nat,1+x%6=m/\1<=m/\m<=6:=md _ 6 (by decide);erw[aY,aY0_,aY1_,aY2_,aY5_];rw[I,cj];clear I;refine{{by decide,by decide},i0,iA d.2 rfl,NO (λi r s=>∃ (p:Str) (rest:Int),s=H/\Lts p i/\∃ y,r=[some (.int x),some<|.str<|μ "abcdefghijklmnopqrstuvwxyz",some<|.str p,some<|.int rest,y,none,none,none,none]) (x2 (μ "") _ {rfl,{by decide +kernel,by decide +kernel},_,rfl}) (λi r s hi ⟨p,rest,e,g,y,u⟩=>?_) (λr s ⟨p,rest,e,g,y,u⟩=>?_)};subst e u;erw[aY3_,aY4_]
 have:=g.len;refine{.inl {by decide,by decide},{by decide,by decide},.inl {i0,by omega},WC λn J=>?_};erw[]
 have h1:=(Lts.one J).len;exact{BQ _ (by omega),{by decide,by decide},.inl {by decide,by decide},_,g.cat<|Lts.one J,rfl}
 ·subst e u
  have j:=g.len;erw[aY6_];refine{{by decide,by decide},m,{BQ _<|oA (ψ (ba j) d.2) rfl,j.symm},dn.mpr (ω (by decide) d.1),?_};let[b,v,o]:=OF (x/7) (n:=m) (d.1);rw[v];erw[aY7_];refine{{by decide,by decide},WC λL w=>?_};erw[aY8_];refine{{by decide,by decide},{by decide,by decide},WC λM A=>?_};erw[aY9_];refine{rfl,zxk (n:=b) rfl (j ▸ o) (oA (ψ (ba j) d.2) rfl) λc=>y2 {rfl,rfl,?_}};erw[];refine{{by decide,by decide},WC λT B=>?_};erw[aY10_]
  have D:=Lts.one w
  have l2:=Lts.one A
  have N:=Lts.one B
  have lt:=g.to (k:=b) (js o)
  have lf:=g.from (k:=b+1) (o)
  have d1:=D.len
  have d2:=l2.len
  have d3:=N.len
  have d4:=lt.len
  have d5:=lf.len
  have U:((b:Nat):Int)+1=((b+1:Nat):Int):=rfl;rw[U]
  have Y:=g.cat l2
  have e2:=D.cat g
  have e3:=(lt.cat N).cat lf
  have e4:=(g.cat l2).cat D;refine{BQ _<|oC (ψ (ba j) d.2) rfl,BQ _ (by omega),BQ _<|oA (ψ (ba j) d.2) rfl,BQ _ (by omega),BQ _<|oA (ψ (ba j) d.2) rfl,BQ _ (by rw[M4];omega),BQ _<|oC (ψ (ba j) d.2) rfl,BQ _ (by rw[M4];omega),by decide,λl O=>?_};refine q l [p,p++({#[97+M]}:Str),({#[97+L]}:Str)++p,Txt.slice p none (some (b:Int))++({#[97+T]}:Str)++Txt.slice p (some ((b+1:Nat):Int)) none,p++({#[97+M]}:Str)++({#[97+L]}:Str)] _ O (AL O) (by rw[AE];rfl) rfl λz hz=>?_;simp only[aj,bt,or_false]at hz;let rfl||rfl||rfl||rfl||rfl:=hz
  ·exact g.name (d.1) (oA d.2 rfl)
  ·exact Y.name (vo _ _) (oC d.2 rfl)
  ·exact e2.name (uy _ _) (by omega)
  ·exact e3.name (by omega) (by omega)
  ·exact e4.name (vo _ _) (oG d.2 rfl)
def z06:∀ i:Fin 94,∃ c,R3.cps.toList[i.val]? =some c/\LQ c=true:=by
 have h:∀ i:Fin 94,R3.cps.toList[i.val]? =some (R3.cps.toList[i.val]!)/\LQ (R3.cps.toList[i.val]!)=true:=by decide
 exact λi=>{_,(h i).1,(h i).2}
theorem Nv{p:yD}:∀ (l:zD) (b:Array Nat),b.all p=true->(∀ z∈l,z.cps.all p=true)->(l.foldl (λb q=>b++(μ "").cps++q.cps) b).all p=true
 | [],b,h,_=>h
 |z::l,b,h,hz=>by
  refine Nv l _ ?_ λy c=>hz y<|τ _ c;rw[Ii,Ii,h,hz z χ,show(μ "").cps= #[] by decide +kernel];simp
def z07{l:zD}(h1:1<=l.length)(h2:l.length<=40)(h:∀ z∈l,z.length=1/\z.cps.all LQ=true):G6 (Txt.join (μ "") l)=true:=by
 unfold G6;rw[W.KT.join_ones l λz hz=>(h z hz).1,decide_eq_true h2,yo];cases l with
 |nil=>simp at h1
 |cons z l=>exact Nv l _ (h z χ).2 λy b=>(h y<|τ _ b).2
example:(z08,aF,bB,5):=by
 intro[x,rfl,q]
 have tail:∀ m:Nat,1<=m->m<=40->bB5 K a (λy=>E) (λy=>E) { nx:=AH (bB6 K a (λy=>E) (λy=>E)) (bB7 K a (λy=>E) (λy=>E)) (AX Q),rt:=Q } [some (.int x),some<|.str R3,some<|.int m,none,none] H:=λm w g=>by
  erw[bB5_,bB6_,bB7_];refine{{by decide,by decide},{by decide,by decide},rfl,by lia,by lia,MK (BQ _ (by lia)) (λi ys o=>o=H/\∃ d:zD,ys=d.map V.str/\∀ z∈d,z.length=1/\z.cps.all LQ=true) {rfl,[],rfl,by simp} (λi ys o I J e=>?_) (λys o r e p A=>?_)}
  ·let[rfl,d,j,l]:=e;erw[C0]
   have hd:(0+(i:Int))/(1+x/7%3)<=40/\0<=(0+(i:Int))/(1+x/7%3):={Ls (Int.ediv_le_self _ (by lia)) (by lia),Int.ediv_nonneg (by lia) (by lia)}
   let[b,v,B]:=OF (x/3+(1+x/19%93)*((0+(i:Int))/(1+x/7%3))) (n:=94) (by decide);rw[show((94:Nat):Int)=94 from rfl]at v;let[c,D,s]:=z06 ⟨b,B⟩;refine{{by decide,by decide},{by lia,by lia},.inl {by lia,by lia},?_};rw[v];refine cP rfl (by decide) D {rfl,d++[⟨_⟩],by rw[j,av];rfl,λz hz=>?_};let hz||hz:=bc.mp hz
   ·exact l z hz
   rw[aa.mp hz];exact{rfl,by simpa using s}
  ·let[rfl,d,j,l]:=e
   have L:d.length=m:=by rw[<-r,j,ε]
   exact x3 _ p d {rfl,rfl,by rw[<-j];exact SqL.of AE,by decide,by rw[Nk d λz hz=>(l z hz).1];lia,q _ _ (z07 (by lia) (by lia) l) (AL A)}
 erw[bB,bB0_,bB1_,bB2_,bB4_,bB3_];refine{by decide +kernel,{by decide,by decide},?_};split;obtain⟨m,u,g⟩:∃ m:Nat,40-x/40%2=m/\1<=m/\m<=40:={(40-x/40%2).toNat,by lia,by lia}
 rw[u];exact{{by decide,by decide},tail m g.1 g.2}
 ·obtain⟨m,u,g⟩:∃ m:Nat,1+x%5=m/\1<=m/\m<=40:={(1+x%5).toNat,by lia,by lia}
  rw[u];exact tail m g.1 g.2
structure Ny(H:Hp)(d:Addr)(rows:wC)(w b j:Nat)(kvs:vA):Prop where
 e:H d=some (.dT kvs)
 l:kvs.length<=b*w+j
 v:∀ x y:Nat,(x<b\/x=b/\y<j)->y<w->BE kvs [.inl (x:Int),.inl (y:Int)]=(rows[x]?).bind λq=>q[y]?
example:(z09,aG,z8,6):=by
 apply u9;intro O U cl n r c w rows m [rfl,TL,TP,L,P,rl,r30,w6,q];let[dl,el]:=L.ob;intro d hd
 have B:=AL (o:=.dT []) hd
 have Y:upd H d (.dT []) d=some (.dT []):=AE;revert B Y;intro B Y;erw[zY_];refine x2 _ _ {B _ _ el,BZ (by decide +kernel),x5 O n r c w {rfl,TL,L.same B,by lia,by lia,?_}};rw[show((n:Int)+r+c+r+c).toNat=rows.length by lia];refine NO (λi l g=>(Same H g/\∃ kvs,Ny g d rows w i 0 kvs)/\∃ y3 y4 y5,l=[some (.ref O),some<|.ref U,some<|.ref d,y3,y4,y5]) {{B,[],Y,bh _,λx y h=>(h.elim (absurd · (i_ _)) (absurd ·.2 (i_ _)))},x3 _ _ _ rfl} (λi l g hi {⟨s,kvs,T⟩,y3,y4,y5,u}=>?_) (λl g {⟨s,kvs,T⟩,y3,y4,y5,u}=>?_)
 have P':=P.same s;subst u;let[dp,ep]:=P'.ob;erw[zV_,rf];refine x2 _ _ {ep,OE _ _ _,x6 U cl w rows m i {rfl,TP,P',λb' row eb er I v=>?_,λz=>by lia}}
 have rw1:=P'.wd row<|η er;obtain rfl:=ce eb
 have J:=AL (o:=.lst row) v
 have M:upd g I (.lst row) I=some (.lst row):=AE;revert J M;intro J M;erw[zX_];refine{row.length,.inl {_,SqL.of M,rfl},by lia,by lia,?_};refine NO (λj l g=>(Same H g/\g I=some (.lst row)/\∃ kvs,Ny g d rows w i j kvs)/\∃ y5,l=[some (.ref O),some<|.ref U,some<|.ref d,some<|.int i,some<|.ref I,y5]) {{s.trans J,M,kvs,J _ _ T.e,T.l,T.v},_,rfl} (λj l H3 hj {⟨s3,ev,D,A⟩,y5,u}=>?_) (λl H3 {⟨s3,ev,D,A⟩,y5,u}=>?_);subst u
 have ej:=θ (show j<row.length by lia);erw[zW_,rf];refine CH (SqL.of ev) rfl ej {by decide,λp hp=>?_}
 have l3:=A.l
 have sp:=AL (o:=.tup [V.int (i:Int),V.int (j:Int)]) hp
 have l4:i*w<=30*6:=ia (by lia) w6;refine{_,DPut.t (k:=[.inl (i:Int),.inl (j:Int)]) (sp _ _ A.e) AE (BQ _ (by lia)),λb o e=>?_,?_,_,AE,(ψ (HK ..) (by lia)),λx y hxy N=>?_};rw[AI (BJ e hd)];exact sp _ _<|s3 _ _ e;rw[AI (λz=>by rw[z,T.e]at v;cases v)];exact sp _ _ ev
 ·rw[HJ];by_cases z:x=i/\y=j
  ·let[rfl,rfl]:=z;rw[if_pos rfl,er];exact ej.symm
  ·rw[if_neg λe=>z (by
    simp only[zh,Sum.inl.injEq,and_true]at e;exact{ce e.1,ce e.2})]
   exact A.v x y (hxy.imp id λh=>{h.1,j_ (dv h.2) λe=>z ⟨h.1,e⟩}) N
 ·subst u;erw[];exact{s3,D,A.e,by have:=A.l;rw[eq];lia,λx y h N=>A.v x y (h.elim (λh=>(Nat.lt_succ_iff_lt_or_eq.mp h).imp id λe=>{e,by rw[rw1];exact N}) (absurd ·.2 (i_ _))) N}
 ·subst u;erw[zZ_];exact q d kvs g s T.e λb k hb hk=>T.v b k (.inl hb) hk
def IT{z:Str}(h:BK z=true):Lts z z.length/\1<=z.length/\z.length<=8:=by
 unfold BK at h;simp only[bx,decide_eq_true_eq]at h;exact{{dP z,h.2},h.1.1,h.1.2}
def JV{y:Str}(h:BK y=true):32∉y.cps.toList:=λz=>by
 have:=gu.mp (IT h).1.2 32 z;revert this;decide
theorem Nz:∀ l:xE,JH (CY l)=l/\CY l≠[]
 | []=>⟨rfl,nofun⟩
 |c::r=>by
  let[h1,h2]:=Nz r;unfold CY;split;rename_i e;refine{?_,nofun};revert h1 h2;cases CY r with
  |nil=>exact λ_ h=>absurd rfl h
  |cons w ws=>intro h1 _;rw[e];show []++32::JH _=_;rw[h1];rfl
  revert h1 h2;cases CY r with
  |nil=>exact λ_ h=>absurd rfl h
  |cons w ws =>
   refine λh1 _=>{?_,nofun}
   rw[<-h1];cases ws<;>rfl
section
variable{p u v k:Str}{c:xE}
def w2(b:32∉v.cps.toList)(d:p.cps.toList=c++[32])(e:32∉c)(h:L0 [c,v.cps.toList]=some [C1 c,C1 v.cps.toList])(g:C1 c=k):D7 (p++v)=some [k,v]:=by
 unfold D7;rw[R6,d,dw]
 show L0 (CY (c++32::v.cps.toList))=_;rw[QJ e,NW b,h,g]
def w3(b:32∉u.cps.toList)(d:p.cps.toList=c++[32])(e:32∉c)(h:L0 (c::u.cps.toList::CY v.cps.toList)=some [C1 c,C1 u.cps.toList,C1 v.cps.toList])(g:C1 c=k):D7 (p++u++μ " "++v)=some [k,u,v]:=by
 unfold D7;rw[R6,R6,R6,d,dw,dw,dw]
 show L0 (CY (c++32::(u.cps.toList++32::v.cps.toList)))=_;rw[QJ e,QJ b,h,g]
def Pb{r:List (xE)}(n:Nat)(h1:HP OC (C1 c)=some (n:Int))(h2:C1 c≠"put")(h3:r.length+1=n)(h4:LZ ((c::r).getLastD [])=true):L0 (c::r)=some ((c::r).map C1):=by
 unfold L0;rw[List.headD_cons,h1];dsimp only;rw[if_neg h2,if_neg (by rw[b_,h3];exact λz=>z rfl),if_neg (λz=>by rw[h4]at z;cases z.2)]
def WE:∀ b:Fin 100,LZ (CF (b.val:Nat)).cps.toList=true/\32∉(CF (b.val:Nat)).cps.toList:=by decide
def z1a(h:BK v=true):D7 (μ "make "++v)=some [("make":Str),v]:=w2 (c:=[109,97,107,101]) (JV h) (by decide) (by decide) rfl (by decide)
def z1b(h:BK v=true):D7 (μ "cut "++v)=some [("cut":Str),v]:=w2 (c:=[99,117,116]) (JV h) (by decide) (by decide) rfl (by decide)
def Pc(h:BK v=true):D7 (μ "keep "++v)=some [("keep":Str),v]:=w2 (c:=[107,101,101,112]) (JV h) (by decide) (by decide) rfl (by decide)
def Pd(h:BK v=true):D7 (μ "show "++v)=some [("show":Str),v]:=w2 (c:=[115,104,111,119]) (JV h) (by decide) (by decide) rfl (by decide)
def z1c{b:Nat}(h:b<100):D7 (μ "write "++CF b)=some [("write":Str),CF b]:=w2 (c:=[119,114,105,116,101]) (WE ⟨b,h⟩).2 (by decide +kernel) (by decide) (Pb 2 (by decide +kernel) (by decide +kernel) rfl (WE ⟨b,h⟩).1) (by decide +kernel)
def z1d(h:BK u=true)(h':BK v=true):D7 (μ "link "++u++μ " "++v)=some [("link":Str),u,v]:=w3 (c:=[108,105,110,107]) (JV h) (by decide) (by decide) (by rw[NW (JV h')];rfl) (by decide)
def z1e(h:BK u=true)(h':BK v=true):D7 (μ "move "++u++μ " "++v)=some [("move":Str),u,v]:=w3 (c:=[109,111,118,101]) (JV h) (by decide) (by decide) (by rw[NW (JV h')];rfl) (by decide)
def z1f{b:Nat}(h:BK u=true)(d:b<100):D7 (μ "take "++u++μ " "++CF b)=some [("take":Str),u,CF b]:=w3 (c:=[116,97,107,101]) (JV h) (by decide) (by decide) (by rw[NW (WE ⟨b,d⟩).2];exact Pb 3 (by decide) (by decide) rfl (WE _).1) (by decide)
def z1g(h:BK u=true):D7 (μ "put "++u++μ " "++v)=some [("put":Str),u,v]:=w3 (c:=[112,117,116]) (JV h) (by decide) (by decide) (by
 let[e,n]:=Nz _;revert e n;cases CY _ with
 |nil=>exact λz n=>absurd rfl n
 |cons w ws =>
  intro e z
  show some [C1 _,C1 _,C1 _]=_;rw[e]) (by decide)
end
def Pg{nl:Addr}{c:zD}{x:Int}{Q:VK}(h:VE H nl c)(q:∀ z∈c,Q (.str z) H):B7 K (.ref nl) (.int<|x%5) H Q:=by
 let[b,d,e]:=OF x (n:=5) (by decide);rw[show((5:Nat):Int)=5 from rfl]at d;rw[d]
 have hz:b<c.length:=by rw[h.2.1];exact e
 exact CH (SqL.of h.1) rfl (by rw[υ,θ hz];rfl) (q _<|uz hz)
def WF{z:Str}(h:G6 z=true):z.length<=40/\iz z=true:=by
 unfold G6 at h;simp only[bx,decide_eq_true_eq]at h;refine{h.1.2,?_};unfold iz;rw[<-yo,gu];intro c b
 have:=gu.mp h.2 c b;unfold LQ at this
 lia
example:(z1h,aI,bN,5):=by
 apply u3;intro x nl D [rfl,nm,q];erw[bN,bN0_,bN1_,bN2_];refine{{by decide,by decide},Pg nm λy e=>?_};refine{{by decide,by decide},Pg nm λv g=>?_}
 have s:=nm.2.2 v g
 have i:=nm.2.2 y e
 have I:=(IT s).2.2
 have J:=(IT i).2.2
 have two:∀ {p:Str},p.length<=5->p.length+y.length<=sizeLine/\(p++y).length<=900:=λh=>by rw[M4];exact{BQ _ (by lia),by lia}
 have w:(μ " ").length=1:=by decide
 have c:∀ {p t:Str},p.length<=5->t.length<=40->(p++y).length+(μ " ").length<=sizeLine/\(p++y++μ " ").length+t.length<=sizeLine/\(p++y++μ " "++t).length<=900:=λh h'=>by
  simp only[M4,w];exact{BQ _ (by lia),BQ _ (by lia),by lia}
 erw[bN4_,bN3_];by_cases k1:x%8<2;let[d,j]:=two (p:=μ "make ") (by decide);exact E6 k1 {d,q _ H (Same.refl _) {j,y,e,v,g,.inl {k1,z1a i}}};refine ED k1 ?_;erw[bN6_,bN5_];by_cases k2:x%8=2;let[r,l,o]:=c (p:=μ "link ") (t:=v) (by decide) (by lia);let[d,j]:=two (p:=μ "link ") (by decide);exact E6 k2 {d,r,l,q _ H (Same.refl _) {o,y,e,v,g,.inr<|.inl {k2,z1d i s}}}
 have big:2<x%8:=by lia
 refine ED k2 ?_;erw[bN8_,bN7_];by_cases k3:x%8=3;let[d,j]:=two (p:=μ "cut ") (by decide);exact E6 k3 {d,q _ H (Same.refl _) {j,y,e,v,g,.inr<|.inr {big,.inl<|z1b i}}};refine ED k3 ?_;erw[bN10_,bN9_];by_cases k4:x%8<6;let[d,j]:=two (p:=μ "put ") (by decide);refine E6 k4 {d,(c (p:=μ "put ") (t:=v) (by decide) (by lia)).1,{by decide,by decide},_,rfl,λt z po A=>?_};let[r,l,o]:=c (p:=μ "put ") (by decide) (WF po).1;exact{l,q _ z A {o,y,e,v,g,.inr<|.inr {big,.inr<|.inl {t,po,z1g i}}}};refine ED k4 ?_;erw[bN12_,bN11_];by_cases k5:x%8=6;let[d,j]:=two (p:=μ "take ") (by decide);let[b,u,B]:=OF (x/200) (n:=6) (by decide);rw[show((6:Nat):Int)=6 from rfl]at u;let[r,l,o]:=c (p:=μ "take ") (t:=CF b) (by decide) (ψ (MP (by lia) (by lia)) (by decide));refine E6 k5 {d,r,{by decide,by decide},?_};rw[u];exact{_,rfl,by lia,by lia,l,q _ H (Same.refl _) {o,y,e,v,g,.inr (.inr {big,.inr (.inr (.inl {b,B,z1f i (by lia)}))})}};refine ED k5 ?_;erw[bN13_];let[d,j]:=two (p:=μ "move ") (by decide);let[r,l,o]:=c (p:=μ "move ") (t:=v) (by decide) (by lia);exact{d,r,l,q _ H (Same.refl _) {o,y,e,v,g,.inr<|.inr {big,.inr<|.inr<|.inr<|z1e i s}}}
theorem dQ{P:CV->Prop}{b:Md}(c:∀ kind k,P<|b kind k):∀ {as:bF},(∀ x∈as,P x.x)->∀ kind k,P (hnd b as kind k)
 | [],_,kind,k=>c _ k
 |⟨d,e,v,nd⟩::as,hs,kind,k=>by
  show P (if kind=d/\k=e then v else hnd b as _ k);split;exact hs _ χ;exact dQ c (λy g=>hs y<|τ _ g) _ k
theorem WG{P:CV->Prop}{C:yD}{b:Md}(c:∀ kind k,P<|b kind k):∀ {as:bF},(∀ x∈as,P x.x)->∀ kind k,P (sh b C as kind k)
 | [],_,kind,k=>c _ k
 |⟨e,g,v,nd⟩::as,hs,kind,k=>by
  have d:=WG (C:=C) c (λy i=>hs y<|τ _ i) kind k;unfold sh;split
  show P (if kind=e/\k=g then v else sh b C as _ k);split;exact hs _ χ;exact d;exact d
section
variable{X:SX}{cs:zE}{tks:vC}{M:Hs}{zs:zD}{k:Int}{P:Hp->Prop}{y v:Str}
structure DE(a:Ad)(X:SX)(cs:zE)(M:Hs)(zs:zD)(k:Int)(H:Hp)(P:Hp->Prop)(E:XK):Prop where
 g:∀ cs' tks' M' H',C6 a H' X cs' tks' M'->cs'.length+D9 (X.c*X.w) M'<=cs.length+D9 (X.c*X.w) M+4->EM M' zs->SameBut (λx=>X.S.A.F x\/x=X.S.tk) H H'->P H'
 b:∀ c:String,(c="NoName"\/c="Twice"\/c="NoPiece"\/c="NoRoom")->∀ H',Same H H'->E (.ref<|a c) none H'
def DE.same{d:Hp}(D:DE a X cs M zs k H P E)(s:Same H d):DE a X cs M zs k d P E:={λi g j b h1 h2 h3 h5=>D.g _ _ j b h1 h2 h3 λy o e n=>h5 _ _ (s _ _ e) n,λc l b p=>D.b c l b<|s.trans p}
def FW{P:AC->Prop}{a:AC}{l:bF}(h:P a)(t:∀ x∈l,P x):∀ x∈a::l,P x:=λx b=>(aj.mp b).elim (λe=>e ▸ h) (t x)
def DE.good(D:DE a X cs M zs k H P E)(I:C6 a H X cs tks M)(e:EM M zs){ex:zE}{b:vC}{c:Hs}{i:Hp}{d:Nat}(n:ex.length=d)(hd:d+D9 (X.c*X.w) c<=D9 (X.c*X.w) M+4)(p:X.at a i (cs++ex) b c)(h3:∃ o,Hist X.m0 c.b c.as (LX b) o)(h4:c.b=M.b)(h5:∃ g,c.as=g++M.as/\∀ x∈g,FB x.kind x.x/\OD zs x.x)(sb:SameBut (λx=>X.S.A.F x\/x=X.S.tk) H i):P i:=by
 let[g,l,h5]:=h5;exact D.g _ _ _ _ (I.more p sb h3 h4 {g,l,λx j=>(h5 x j).1}) (by rw[ai,n];lia) {h4 ▸ e.b,λx j=>(bc.mp<|l ▸ j).elim (λh=>(h5 x h).2) λh=>e.s x h} sb
def C6.make(g:CU K a)(I:C6 a H X cs tks M)(c:cs.length<900)(d:EM M zs)(i:BK y=true)(l:y∈zs)(D:DE a X cs M zs k H P E):Q4 K a [.ref X.S.st,.str y] H (λ_ b=>P b) E:=by
 let[o,n]:=I.hi
 have len:=I.st.la.len;refine x5 X cs _ M y {rfl,g,I.st,oA (IT i).2.2 rfl,oA c rfl,λz e p cell q r A u ex v b w z z x sb=>?_,λz b s=>D.b _ (.inl rfl) b s,(by intro z [k,e] b s;exact D.b _ (.inr<|.inl rfl) b s),λz e h b s=>D.b _ (.inr<|.inr<|.inr rfl) b s};refine D.good I d w ?_ x ?_ rfl {[_,_,_],rfl,FW ⟨trivial,l⟩ (FW ⟨trivial,trivial⟩ (FW {ο _,trivial} nofun))} sb;rw[EV,EV,EV,FH (by decide),FH (by decide),FH (by decide)];lia
 have:=n.make  (nd:=(cs.length+1)::FT _ y) u (dG<|OI r) (R0 e) (Mm  (OI q)) (by rw[len];simp) λj h=>τ _<|dF h;rw[<-len]at this;exact⟨_,this⟩
def C6.link(l:CU K a)(I:C6 a H X cs tks M)(c:cs.length<900)(d:EM M zs)(n:BK y=true)(p:BK v=true)(q:v∈zs)(D:DE a X cs M zs k H P E):N5 K a [.ref X.S.st,.str y,.str v] H (λ_ b=>P b) E:=by
 let[o,r]:=I.hi;refine x6 X cs _ M y v {rfl,l,I.st,oA (IT n).2.2 rfl,oA (IT p).2.2 rfl,oA c rfl,λz z i old u cell N e w=>(u2 ?_<|I.rl e w),λz b s=>D.b _ (.inl rfl) b s,λz z ⟨k,i⟩ b s=>D.b _ (.inr<|.inl rfl) b s,λz z z z b s=>D.b _ (.inl rfl) b s,λz z z z z b s=>D.b _ (.inr<|.inr<|.inr rfl) b s};intro m ps [x,g];refine{x,x2 m ps {g,oA ((I.ps g).2) rfl,λA B ex v b J z z L sb=>?_}};refine D.good I d J ?_ L {_,r.link  B (dG<|OI A) (R0 i) g (by rw[I.st.la.len];simp) λj h=>τ _<|dF h} rfl {[_,_],rfl,FW ⟨trivial,q⟩ (FW ⟨trivial,trivial⟩ nofun)} sb;rw[EV,EV,FH (by decide),FH (by decide)];lia
def C6.put'(g:CU K a)(I:C6 a H X cs tks M)(c:cs.length<900)(d:EM M zs)(po:G6 v=true)(B:2<k)(D:DE a X cs M zs k H P E):Q6 K a [.ref X.S.st,.str y,.str v] H (λ_ b=>P b) E:=by
 let[o,i]:=I.hi;refine x6 X cs _ M y v {rfl,g,I.st,oA (WF po).1 rfl,(WF po).2,oA c rfl,λcell j J l n z p q r=>(u2 ?_<|I.rl l n),λL b s=>D.b _ (.inl rfl) b s,λz z b s=>D.b _ (.inr<|.inr<|.inl rfl) b s,λz z z b s=>D.b _ (.inr<|.inr<|.inr rfl) b s};intro m ps [u,e];refine{u,x2 m ps {e,oA (I.ps e).2 rfl,λex z b w z z A sb=>D.good I d w ?_ A ?_ rfl {[_,_,_],rfl,FW ⟨trivial,trivial⟩ (FW {trivial,(WF po).1} (FW {ο _,trivial} nofun))} sb}};rw[EV,EV,EV,FH (by decide),FH (by decide)]
 have:=dJ (S:=M.f) (x:=.mk 1) r
 lia
 have:=i.put (x:=v) (Mm  (OI q)) e;rw[<-I.st.la.len]at this;exact⟨_,this⟩
def C6.take{x:Int}(n:CU K a)(I:C6 a H X cs tks M)(d:cs.length<900)(e:EM M zs)(N:2<k)(D:DE a X cs M zs k H P E):Q7 K a [.ref X.S.st,.str y,.int x] H (λ_ b=>P b) E:=by
 let[o,q]:=I.hi;refine x6 X cs _ M y _ {rfl,n,I.st,oA d rfl,λcell c O r u=>(u2 ?_<|I.rl r u),λT b s=>D.b _ (.inl rfl) b s};intro m ps [w,g];let[l,A]:=I.ps g;refine{w,x2 m ps {g,oA A rfl,λU b s=>D.b _ (.inr<|.inr<|.inl rfl) b s,λj p Y i=>{l p<|η i,λex v b B z z J sb=>D.good I e B ?_ J ?_ rfl {[_,_],rfl,FW {bh _,trivial} (FW ⟨trivial,trivial⟩ nofun)} sb}}};rw[EV,EV]
 have:=dJ (S:=M.f.put 3 c<|.rc m<|ps.eraseIdx j) (x:=.mk 0) (l p<|η i)
 have L:D9 _ (M.f.put 3 c<|.rc m<|ps.eraseIdx j)=D9 (X.c*X.w) _:=FH (by decide)
 lia
 have:=q.take g i;rw[<-I.st.la.len]at this;exact⟨_,this⟩
def C6.move(r:CU K a)(I:C6 a H X cs tks M)(i:cs.length<900)(l:EM M zs)(u:BK y=true)(w:BK v=true)(x:v∈zs)(U:2<k)(D:DE a X cs M zs k H P E):Q8 K a [.ref X.S.st,.str y,.str v] H (λ_ b=>P b) E:=by
 let[o,A]:=I.hi
 have len:=I.st.la.len;refine x6 X cs _ M y v {rfl,r,I.st,oA (IT u).2.2 rfl,oA (IT w).2.2 rfl,oA i rfl,λz z p old c cell Y d g=>(u2 ?_<|I.rl d g),λz b s=>D.b _ (.inl rfl) b s,λz z ⟨k,p⟩ b s=>D.b _ (.inr<|.inl rfl) b s,λz z z z b s=>D.b _ (.inl rfl) b s,λz z z z z b s=>D.b _ (.inr<|.inr<|.inr rfl) b s};intro m ps [B,n];refine{B,x2 m ps {n,oA ((I.ps n).2) rfl,λJ L ex v' b N z z O sb=>?_}}
 have q:=dG<|OI J;refine D.good I l N ?_ O ?_ rfl {[_,_,_,_],rfl,FW ⟨trivial,trivial⟩ (FW ⟨trivial,trivial⟩ (FW ⟨trivial,x⟩ (FW ⟨trivial,trivial⟩ nofun)))} sb;rw[EV,EV,EV,EV,FH (by decide),FH (by decide),FH (by decide),FH (by decide)];lia
 have l2:=(A.link  (nd:=cs.length::FT _ v) L q (R0 p) n (by rw[len];simp) λj h=>τ _<|dF h).unlead  (nd:=[cs.length+1])   d (by rw[IM,DT (λe=>by rw[e,q]at g;cases g),IM];exact g) (by rw[IM,N1 (by simp),IM,CZ])
 have T:({0,cell,.nm v c,cs.length::FT tks v}::{3,c,.rc (m+1) ps,[]}::M.as).length=cs.length+2:=by rw[len];rfl
 rw[T]at l2;rw[dE];exact⟨_,l2⟩
def C6.cut'(N:CU K a)(I:C6 a H X cs tks M)(i:cs.length<900)(e:EM M zs)(U:2<k)(D:DE a X cs M zs k H P E):Q5 K a [.ref X.S.st,.str y] H (λ_ g=>P g) E:=by
 have len:=I.st.la.len;let[o,r]:=I.hi
 have u:=I.now;refine x5 X cs _ M y {rfl,N,I.st,oA i rfl,λcell b Y j l=>(u2 ?_<|I.rl j l),λhc g s=>D.b _ (.inl rfl) g s};intro m ps [O,c];let[w,T]:=I.ps c;refine{O,x2 m ps {c,w,oA T rfl,λA ex v g n z z q sb=>D.good I e n ?_ q ?_ rfl {[_,_],rfl,FW ⟨trivial,trivial⟩ (FW ⟨trivial,trivial⟩ nofun)} sb,λA ex v g n z z q sb=>D.good I e n ?_ q ?_ R1.2 ?_ sb}};rw[EV,EV,FH (by decide),FH (by decide)];lia;obtain⟨B,rfl⟩:∃ B,m=B+1:={m-1,by lia}
 have:=r.unlead (nd:=[]) j l c;rw[<-len]at this;rw[dE];exact⟨_,this⟩;rw[EV,FH (by decide)]
 have:=Nj  (d:=cs.length+1)  (M:=(M.put 0 cell .no []).put 3 b .no [cs.length]) (u.nd _ m ps c) λp J=>{w p J,(u.pm _ m ps c p J).1}
 rw[EV,EV,FH (by decide),FH (by decide)]at this
 lia
 have:=r.dropped (nd:=[]) j l c A;rw[<-len]at this;rw[dE];refine{ES o y cs.length,?_}
 show Hist _ (Hs.unmark _ _ _).b ({1,_,_,_}::(Hs.unmark _ _ _).as) _ _;rw[R1.1,R1.2];exact this;refine{{1,b,.mk 0,[cs.length+1]}::((ps.map λp=>{2,p,.mk 0,[cs.length+1]}).reverse++[{3,b,.no,[cs.length]},{0,cell,.no,[]}]),?_,λx L=>?_}
 show{1,_,_,_}::(Hs.unmark _ _ _).as=_;rw[R1.1];simp[Hs.put];simp only[aj,bc,Ic,ay,bt,or_false]at L;let rfl||[p,_,rfl]||rfl||rfl:=L<;>first|exact{bh _,trivial}|exact⟨trivial,trivial⟩
end
section
variable{h:Addr}{X:SX}{cs:zE}{tks:vC}{M:Hs}{z:Str}
def HsC.say(T:EL K a)(A:HsC a H h X cs tks M)(hz:z.length<=900){w:Str}{ws:zD}(e:D7 z=some (w::ws))(q:∀ l b,Same H b->b l=some (.lst<|(w::ws).map V.str)->(w∈KN/\RH K a [.ref X.S.st,.ref l] b (λ_ c=>Q (.str "ok") c) E)\/(w="stop"/\RJ K a [.ref h] b Q E)\/(w∉KN/\w≠"stop"/\RI K a [.ref X.S.st,.ref l] b Q E)):FF K a [.ref h,.str z] H Q E:=by
 let[d,g]:=A.1;exact x6 h d _ _ _ z {rfl,T,g,A.st,hz,x2 w ws ⟨e,q⟩}
def HsC.deed{n:zD}{k:Int}(T:EL K a)(A:HsC a H h X cs tks M)(c:cs.length<900)(j:∀ z∈n,BK z=true)(d:EM M n)(R:aH n k z)(D:DE a X cs M n k H (λs=>Q (.str "ok") s) E):FF K a [.ref h,.str z] H Q E:=by
 let[hz,y,q,v,o,R]:=R
 have p:=j y q
 have r:=j v o;rcases R with⟨i,e⟩|⟨i,e⟩|⟨i,e|⟨t,po,e⟩|⟨b,w,e⟩|e⟩<;>refine A.say T hz e λl x g u=>.inl {by decide,x3 _ l _ {rfl,(A.same g).st,u,?_}}
 exact .inl {y,rfl,(A.same g).2.make T.s4 c d p q (D.same g)};exact .inr<|.inr<|.inl<|x2 y v {rfl,(A.same g).2.link T.s4 c d p r o (D.same g)};exact .inr<|.inr<|.inr<|.inr<|.inl {y,rfl,(A.same g).2.cut' T.s4 c d i (D.same g)};exact .inr<|.inl<|x2 y t {rfl,(A.same g).2.put' T.s4 c d po i (D.same g)};exact .inr (.inr (.inr (.inr (.inr (x3 y _ b {rfl,ψ (MP (by lia) (by lia)) (by decide),W.KIN.num_reads (by lia) (by lia),(A.same g).2.take T.s4 c d i (D.same g)})))));exact .inr<|.inr<|.inr<|.inl<|x2 y v {rfl,(A.same g).2.move T.s4 c d p r o i (D.same g)}
def C6.hs(A:HsC a H h X cs tks M){e:SX}{c:zE}{b:vC}{i:Hs}{g:Hp}(C:C6 a g e c b i)(j:e.S=X.S)(sb:SameBut (λx=>X.S.A.F x\/x=X.S.tk\/x=X.S.A.gp) H g):HsC a g h e c b i:=by
 let[[l,d],I]:=A;let[y,n]:=I.st.bk.pk.ob;refine{{l,?_},C};rw[j];refine sb _ _ d λz=>?_;let z||z||z:=z
 exact(I.st.bk.loose z).2 _ _ _ d;rw[z,I.st.tk]at d;cases d;exact OP d n  (by rw[R5];nofun) (IK _ _ _ (by decide) (by decide) (by decide)) z.symm
def C6.nx(I:C6 a H X cs tks M){b:SX}{d:Hp}(g:b.S=X.S)(i:b.n=X.n/\b.r=X.r/\b.c=X.c/\b.w=X.w)(sb:SameBut (λx=>X.S.A.F x\/x=X.S.tk\/x=X.S.A.gp) H d):Nx H X d b:=by
 let[y,j]:=I.st.bk.pk.ob;refine{by rw[g],i,λl o e no c=>{sb _ _ e λz=>?_,by show ¬ (b.S.A.F l\/l=b.S.tk);rw[g];exact c}};let z||z||z:=z
 exact c<|.inl z;exact c<|.inr z;exact no _ _ _<|ι<|e.symm.trans<|z ▸ j
end
def Nx.refl{X:SX}:Nx H X H X:={rfl,⟨rfl,rfl,rfl,rfl⟩,λl o e z n=>⟨e,n⟩}
def Nx.of{X:SX}{b:Hp}(s:Same H b):Nx H X b X:={rfl,⟨rfl,rfl,rfl,rfl⟩,λl o e z n=>{s _ _ e,n}}
def Nx.trans{X b c:SX}{d g:Hp}(h:Nx H X d b)(h':Nx d b g c):Nx H X g c:={h'.lp.trans h.lp,{h'.sz.1.trans h.sz.1,h'.sz.2.1.trans h.sz.2.1,h'.sz.2.2.1.trans h.sz.2.2.1,h'.sz.2.2.2.trans h.sz.2.2.2},λl o e no n=>h'.o l o (h.o l o e no n).1 no (h.o l o e no n).2}
example:(z1i,aJ,Gj,3):=by
 apply u8;intro h X cs r M k z J [rfl,T,TD,A,i,j,l,R,g,u];let[L,v]:=A.1;refine x2 _ _ {v,rfl,A.deed T i j l R {λw q B p C D b sb=>?_,λc I p s=>?_}}
 have d:SameBut (λx=>X.S.A.F x\/x=X.S.tk\/x=X.S.A.gp) H p:=λy o e n=>sb _ _ e λz=>n<|z.imp id .inl;exact u _ _ B p (C6.hs A C rfl d) D b (A.2.nx rfl ⟨rfl,rfl,rfl,rfl⟩ d);let rfl||rfl||rfl||rfl:=I
 exact .inl {TD.n1,g _ s};exact .inl {TD.t1,g _ s};exact .inr {TD.p1,.inl {TD.p2,g _ s}};exact .inr {TD.r1,.inl {TD.r2,g _ s}}
def C6.there{X:SX}{cs:zE}{c:vC}{M:Hs}{kvs:vA}{kind k:Nat}(I:C6 a H X cs c M)(l:∀ b k:Nat,b<X.rows.length->k<X.w->BE kvs [.inl (b:Int),.inl (k:Int)]=(X.rows[b]?).bind λq=>q[k]?)(h1:kind<5)(d:k<BR X.n X.r X.c X.w kind):∃ v,BE kvs [.inl ((BH X.n X.r X.c X.w kind k:Nat):Int),.inl ((k%X.w:Nat):Int)]=some v/\RepC H (sh M.b X.C M.as kind k) v:=by
 let[g,i]:=I.st.on h1 d
 have j:=θ g;obtain⟨v,n⟩:∃ v,(X.rows[BH _ _ _ _ _ k])[k%X.w]? =some v:={_,θ (by rw[(I.st.bk.pk.wd _<|η j)];exact i)}
 have e:(X.rows[BH X.n X.r X.c X.w kind k]?).bind (λq=>q[k%X.w]?)=some v:=by rw[j];exact n
 exact{v,by rw[l _ _ g i];exact e,I.rows _ k v h1 d e}
def C6.look{X:SX}{cs:zE}{e:vC}{M:Hs}{kvs:vA}{kind k:Nat}{x:Int}{d t:Addr}{c:Hp}{P:V->Prop}(I:C6 a H X cs e M)(g:H d=some (.dT kvs))(i:∀ b k:Nat,b<X.rows.length->k<X.w->BE kvs [.inl (b:Int),.inl (k:Int)]=(X.rows[b]?).bind λq=>q[k]?)(s:Same H c)(h1:kind<5)(j:k<BR X.n X.r X.c X.w kind)(l:c t=some (.tup [.int x,.int<|(k:Int)%X.w]))(n:x=(BH X.n X.r X.c X.w kind k:Nat))(q:∀ v,RepC c (sh M.b X.C M.as kind k) v->P v):∃ v,DGet c d (.ref t) (some v)/\P v:=by
 let[v,o,p]:=I.there i h1 j;exact{v,zeb (s _ _ g) l (by rw[n];exact o),q v<|p.keep s.tk}
def Ph{S:Md}{c:zD}{ps:xE}{b:zD}(P:Paired (λp t=>S 4 p=.tx t) ps b)(h:∀ kind k,OD c<|S kind k):(b.map (·.length)).sum+b.length<=41*ps.length:=by
 induction P with
 |nil=>exact ο _
 |cons e _ d =>
  have:=h 4 ‹_›;rw[e]at this
  have:_<=40:=this;simp only[ci,yh,b_]
  lia
def z1j{cs:zE}{m:Nat}{row:xE}{outs:vD}{left:xE}(h:∀ c∈cs,c.blk<m)(r:KH cs outs left row):∀ b∈row,b<m:=by
 induction r with
 |nil=>exact λb d=>by cases d
 |cons e _ g =>
  intro b d;let rfl||d:=aj.mp d
  exact h _<|η e;exact g b d
section
variable{h:Addr}{X:SX}{cs:zE}{tks:vC}{M:Hs}{z:Str}{zs:zD}{k r m:Nat}{ps:xE}{ts:zD}
structure Std(X:SX)(M:Hs)(z:Str)(k r m:Nat)(ps:xE)(ts:zD):Prop where
 hk:k<X.m0
 n:M 0 k=.nm z r
 hr:r<X.r*X.w
 e:M 3 r=.rc m ps
 l:ps.length<=18
 p:∀ p∈ps,p<X.c*X.w
 t:Paired (λp t=>p<X.c*X.w/\M 4 p=.tx t) ps ts
def C6.std(I:C6 a H X cs tks M)(c:k<X.m0)(d:M 0 k=.nm z r):∃ m ps ts,Std X M z k r m ps ts:=by
 refine u2 ?_<|I.rl c d;intro m ps [i,b];let[e,j]:=I.ps b;let[ts,P]:=dN    λp g=>{e p g,(I.now.pm r m ps b p g).2}
 exact x3 m ps ts ⟨c,d,i,b,j,e,P⟩
def l5(b:BK z=true):(μ "show ").length+z.length<=sizeLine/\(μ "show "++z).length<=900/\(μ "keep ").length+z.length<=sizeLine/\(μ "keep "++z).length<=900:=by
 have:=(IT b).2.2;rw[M4,M4,show(μ _).length=5 by decide,show(μ _).length=5 by decide];exact{BQ _ (by lia),by lia,BQ _ (by lia),by lia}
def HsC.shows(T:EL K a)(A:HsC a H h X cs tks M)(b:EM M zs)(d:BK z=true)(S:Std X M z k r m ps ts)(q:∀ e,Same H e->Q (.str<|Txt.join "" ts) e):FF K a [.ref h,.str<|μ "show "++z] H Q E:=by
 refine A.say T (l5 d).2.1 (Pd d) λl w c n=>.inr (.inr {by decide,by decide,x3 _ l _ {rfl,(A.same c).st,n,.inr<|.inr<|.inr {z,rfl,x5 X cs _ M z {rfl,T.s4,(A.same c).2.st,λcell o g y i=>?_,λj=>?_}}}});rw[A.2.cell S.hk S.n]at g;obtain rfl:=ι g;rw[S.n]at i;cases i
 have:=Ph   (Paired.mapP S.t λp t h=>h.2) (dQ b.b b.s);refine{S.hr,x2 m ps {S.e,oA S.l rfl,ts,S.t,λp s y u v=>x3 _ p ts {rfl,rfl,SqL.of v,by decide,?_,q s<|c.trans u}}}
 have:=S.l
 lia
 rw[A.2.cell S.hk S.n]at j;cases j
def HsC.keeps(T:EL K a)(A:HsC a H h X cs tks M)(w:cs.length<=300)(i:BK z=true)(S:Std X M z k r m ps ts)(q:∀ row R j,Same H j->UG cs X.outs (N6 X cs<|JM k r ps) R->KH cs X.outs (F8 cs.length X.outs R) row->row.length<=300->(∀ b∈row,b<X.rows.length/\b<100)->Q (.str<|JP<|row.map λ(b:Nat)=>CF b) j):FF K a [.ref h,.str<|μ "keep "++z] H Q E:=by
 have n:=A.2.st.sz;refine A.say T (l5 i).2.2.2 (Pc i) λl O e x=>.inr (.inr {by decide,by decide,x3 _ l _ {rfl,(A.same e).st,x,.inr<|.inl {z,rfl,x5 X cs _ M z {rfl,T.s4,(A.same e).2.st,λcell B o y s=>?_,λd=>?_}}}});rw[A.2.cell S.hk S.n]at o;obtain rfl:=ι o;rw[S.n]at s;cases s;refine{S.hr,x2 m ps {S.e,oA S.l rfl,S.p,λp row R U D u c3 y I J=>?_}}
 have v:∀ b∈row,b<X.rows.length/\b<100:=λb g=>by
  have:=z1j (λc d=>A.2.st.bk.nb ▸ (A.2.st.bk.bk.inn c d).1) u b g;exact{this,by lia}
 exact x2 p _ {rfl,J,by lia,λb n=>(v b n).2,λL N=>q _ R L (e.trans<|I.trans N) D u (by lia) v};rw[A.2.cell S.hk S.n]at d;cases d
end
def Pj{M:Hs}{i:Nat}:F9 M (i+1)=F9 M i++((D1 M i).map (·.1)).toList:=by
 unfold F9;rw[bz];cases e:D1 M i<;>simp[e]
section
variable{S:Md}{i:Nat}{kvs:vC}{z:Str}{r:Nat}
def StD.more(D:StD S i kvs)(h:∀ z r,S 0 i≠.nm z r):StD S (i+1) kvs:=by
 refine{?_,λkey v b=>?_}
 have:D1 {S,[]} i=none:=by
  unfold D1;split;rename_i e;exact absurd e<|h _ _
  rfl
 rw[D.k,Pj,this];simp;refine u6 ?_<|D.v _ v b;intro z k r n ps c [d,g,j];exact x6 z k r n ps c {d,fz g,j}
def StD.put{n:Nat}{ps:xE}{b:zD}(D:StD S i kvs)(un:∀ k,k<i->∀ d,S 0 k≠.nm z d)(e:S 0 i=.nm z r)(g:S 3 r=.rc n ps)(P:Paired (λp t=>S 4 p=.tx t) ps b):StD S (i+1) (CD kvs (.inr z) (.str<|Txt.join "" b)):=by
 have j:(vc z)∉kvs.map _:=λhz=>by
  rw[D.k]at hz;let[y,l,o]:=ay.mp hz;cases o;refine u2 ?_<|R4.mp l;intro k d [q,s];exact un k q d s
 rw[XB _ (show BE kvs _=none by
  cases e:BE kvs _ with
  |none=>rfl
  |some v=>exact absurd (dM.mp ⟨v,e⟩) j)]
 refine{?_,λkey v c=>?_}
 have:D1 {S,[]} i=some (z,r):=by
  unfold D1;rw[show({S,[]}:Hs) 0 i=_ from e]
 rw[av,D.k,Pj,this];simp;let c||c:=bc.mp c
 refine u6 ?_<|D.v _ v c;intro z k r n ps b [u,w,g];exact x6 z k r n ps b {u,fz w,g};cases aa.mp c;exact x6 z i r n ps b {rfl,fe _,e,g,P,rfl}
end
def SdI(e:Hp)(S:Md)(g j d b:Addr)(i:Nat)(l:St)(c:Hp):Prop:=(Same e c/\∃ kvs,c b=some (.dK kvs)/\kvs.length<=i/\StD S i kvs)/\∃ y4 y5 n,l=[some (.ref g),some<|.ref j,some<|.ref d,some<|.ref b,y4,y5,n]
example:(z1l,VF,Bh,7):=by
 intro[X,cs,tks,M,zs,rfl,T,I,vin,q];let[z1,z2,z3,z4,z5]:=I.st.sz;let[TB,TP,TL,TS]:=id T.s4;refine x9 _ _ _ _ _ _ _ _ _ {rfl,TL,TP,I.st.ly,I.st.bk.pk,z5,by lia,z4,λd kvs H1 s1 ed hv=>?_}
 have l:=I.same s1;let[dl,el]:=l.st.ly.ob;intro sd B;let[H2,g,s2,esd]:=D3  B;rw[g];erw[Bh6_];refine x2 _ _ {s2 _ _ el,BZ,x5 _ _ _ _ _ {rfl,TL,(l.same s2).st.ly,λt ht=>?_}};let[H3,g,s3,et]:=D3  ht;rw[g];refine BT  et rfl rfl ?_
 have em:((X.n:Int)*X.w).toNat=X.m0:=rfl
 have hm:X.n*X.w<=36:=ψ (ia z1 z4) (by decide)
 have bm: -2^62<=(X.n:Int)*X.w/\(X.n:Int)*X.w<2^62:=by lia
 refine{bm.1,bm.2,?_};rw[em];refine NO (SdI H1 (sh M.b X.C M.as) X.S.lp X.S.A.gp d sd) {{s2.trans s3,[],s3 _ _ esd,ο _,rfl,λy y h=>by cases h},x3 _ _ _ rfl} (λi σ J hi L=>?_) (λσ J L=>?_);let[[s,kv,w,GU,D],y4,y5,y6,rfl]:=L;erw[Bh2_,rf];refine x2 _ _ {s _ _ el,BZ,x6 X.S.lp X.n X.r X.c X.w i {rfl,TL,(l.same s).st.ly,λt1 ht1=>?_}};let[H4,g,s4,et1]:=D3 (o:=.tup [.int (0+(i:Int)/X.w),.int<|(i:Int)%X.w]) ht1;rw[g]
 have u:=s.trans s4;refine l.look (kind:=0) ed hv u (by decide) hi et1 (by simp[BH]) λv Y=>?_;erw[Bh5_]
 have ok:=(l.inl X.C).ok 0 i;cases N:sh M.b X.C M.as 0 i with
 |nm z' r =>
  rw[N]at Y;let[p,rfl,ep]:=Y;refine E6 nofun ?_;refine u2 ?_<|l.snd.rl (l.inl _) hi N;intro m ps [hr,e3];let[pl,pn]:=l.snd.few (l.inl X.C) e3
  have few:=I.few;let[ts,P']:=dN (c:=X.c*X.w) (M:={sh M.b X.C M.as,[]}) (ps:=ps) λp hp=>{pl p hp,(l.snd.pm r m ps e3 p hp).2}
  have P:Paired (λp t=>sh M.b X.C M.as 4 p=.tx t) ps ts:=Paired.mapP P' λy y h=>h.2;erw[Bh3_];refine x2 _ _ {u _ _ el,BZ,BT (n:=1) ep rfl rfl (x6 X.S.lp X.n X.r X.c X.w r {rfl,TL,(l.same u).st.ly,λt2 ht2=>?_})};let[H5,g,s5,et2]:=D3 (o:=.tup [.int ((X.n:Int)+(r:Int)/X.w),.int<|(r:Int)%X.w]) ht2;rw[g]
  have O:=u.trans s5;refine l.look (kind:=3) ed hv O (by decide) hr et2 (by simp[BH]) λv3 rv3=>?_;rw[e3]at rv3;revert rv3;refine u2 ?_;intro p3 u3 [rfl,ep3,eu3]
  have I3:=l.same O;refine BT (n:=1) ep3 rfl rfl ?_;erw[Bh4_];refine{rfl,.inr {{_,SqT.of eu3},VQ (xs:=AQ ps) (by simp only[AQ,ε];exact BQ _ (by lia)) (λj ys J=>Same H5 J/\ys=(ts.take j).map V.str) {Same.refl _,rfl} (λj ys J y q=>SqT.of<|q.1 _ _ eu3) (λj x ys J ex hyl q=>?_) (λys J hyl q' lc hlc=>?_)}}
  ·let[s6,ey]:=q;unfold AQ at ex;rw[υ,af]at ex;let[c,hc,rfl]:=ex;let[t4,et4,e4]:=KR P hc
   have U:=O.trans s6;erw[C0];refine x2 _ _ {U _ _ el,BZ,x6 X.S.lp X.n X.r X.c X.w c {rfl,TL,(l.same U).st.ly,λt5 ht5=>?_}};let[H6,g,s7,et5]:=D3 (o:=.tup [.int ((X.n:Int)+X.r+(c:Int)/X.w),.int<|(c:Int)%X.w]) ht5;rw[g];refine l.look (kind:=4) ed hv (U.trans s7) (by decide) (pl c<|η hc) et5 (by simp[BH]) λv4 rv4=>{s6.trans s7,?_}
   rw[e4]at rv4;rw[cw,et4,av,ey,show v4=.str t4 from rv4]
   rfl
  ·let[s6,ey]:=q'
   have e5:ts.length=(AQ ps).length:=by simp only[AQ,ε];exact P.length.symm
   rw[<-e5,de<|ο _]at ey;let[H7,g,s7,elc]:=D3 (o:=.lst ys) hlc;rw[g]
   have s8:=(s5.trans s6).trans s7
   have ekv7:=s8 _ _<|s4 _ _ w;refine x3 _ lc ts {rfl,rfl,by rw[<-ey];exact SqL.of elc,by decide,ψ (Ph P<|WG vin.b vin.s) (by lia),BT (n:=0) (s8 _ _ ep) rfl rfl {_,DPut.k (k:=.inr z') ekv7 (BQ _ (by lia)),?_}};refine{{λb o e=>?_,_,AE,ψ (HK ..) (by lia),D.put (λk hk r' ek=>?_) N e3 P},x3 _ _ _ rfl}
   ·rw[AI (BJ e B)];exact s8 _ _<|u _ _ e
   ·exact absurd (l.snd.un _ _ _ _ _ (wa hk hi) hi ek N) (a_ hk)
 |no =>
  rw[N]at Y
  have Y:v=.non:=Y;subst Y;exact ED (λh=>h rfl) {{u,kv,s4 _ _ w,ck GU,D.more λz r e=>by rw[N]at e;cases e},x3 _ _ _ rfl}
 |_=>rw[N]at ok;exact ok.elim
 let[[s,kv,w,GU,D],y4,y5,y6,rfl]:=L;exact q sd kv J (s1.free B) (s1.trans s) w D
example:(z1m,VB,Ay,2):=by
 apply u6;intro X cs tks M b row [rfl,[T,TP,TL,TS],I,r,q];let[N,ho]:=I.ob;let[dp,s]:=I.bk.pk.ob
 have hb:=(ζ.mp r).1;let[db,eb]:=I.bk.bk.ob;refine y3 {ho,TS.cl,TS.n2,_,HV,y2 {eb,C8 (by decide),x7 _ _ _ _ cs _ b {rfl,T,TP,I.bk,λb' O t ol hl U w n o1 o2 u o3 B' sb=>?_,λz=>by lia}}};obtain rfl:b=b':=ce w;rw[r]at n
 have lo:∀ x,X.S.A.F x->ER _:=λx hx=>I.bk.loose hx;obtain rfl:=ι n;let[[N,i],Y,e3,B,e5,e6,e7,o,e9,D,J,L]:=I
 have tk:EA H U:=λy ys e=>sb _ _ e λz=>z.elim (λz=>(lo _ z).1 _ e) λz=>by rw[z,s]at e;cases e
 let[dl,l]:=Y.ob;refine q t ol hl U o1 o2 o3 {{N,sb _ _ i λz=>z.elim (λz=>(lo _ z).2 _ _ _ i) λz=>?_},Y.sb sb λz=>z.elim (λz=>(lo _ z).2 _ _ _ l) λz=>?_,B',sb _ _ B λz=>z.elim e7 λz=>?_,e5,e6,e7,{o.1,o.2.1,o.2.2.1,o.2.2.2.1,by show(X.rows.set b _).length=X.n+X.r+X.c+X.r+X.c;rw[kj];exact o.2.2.2.2},{λq p v d=>?_,(e9.keep tk).2},λkind k v h1 hk d=>?_,J,L.keep tk} sb;rw[show X.S.st=X.S.A.gp from z,s]at i;injection i with i
 injection i with _ _ i
 cases (congrArg (·.lookup ("plan":Str)) i);rw[z,s]at l;injection l with l
 injection l with _ _ l
 exact absurd (congrArg g_ l) (by simp[pf,lf]);rw[show X.S.tk=X.S.A.gp from z,s]at B;cases B
 have g:=e9.keep tk;let p||p:=rn p
 exact g.1 q p v d;rw[p]at d;let d||[c,hc,rfl]:=zyk d
 exact g.1 _ (η r) v d;exact g.2 c hc
 have d:ET cs (X.rows.set b _) (BH X.n X.r X.c X.w _ k) (k%X.w:Nat)=some v:=d;refine(D _ k v h1 hk ?_).keep tk;rw[<-d];unfold ET;cases en:D5 cs _ _ with
 |some j=>rfl
 |none =>
  rw[cj];by_cases e:BH X.n X.r X.c X.w kind k=b;rw[e]at en ⊢;rw[r,gq hb]
  show row[_]? =(EZ cs _ b _)[_]?;rw[cj,zyj en];rw[ik (λz=>e z.symm)]
def Pk{l:zD}(h:∀ y∈l,y.length<=8):(l.map (·.length)).sum<=8*l.length:=by
 induction l with
 |nil=>exact ο _
 |cons y l b =>
  have h1:=h y χ
  have h2:=b λx c=>h x<|τ _ c;simp only[ci,yh,b_]
  lia
section
variable{h:Addr}{X:SX}{cs:zE}{tks:vC}{M:Hs}{z:Str}{zs:zD}
def HsC.write{b:Nat}(T:EL K a)(A:HsC a H h X cs tks M)(j:b<X.rows.length)(p:cs.length<=900)(q:∀ row c,X.rows[b]? =some row->HsC a c h (X.wr cs b row) cs tks M->SameBut (λx=>X.S.A.F x\/x=X.S.A.gp) H c->Q (.str<|CF (outcome cs X.outs (λ_=>false) b).out.length++(" ":Str)++CF (outcome cs X.outs (λ_=>false) b).held.length) c):FF K a [.ref h,.str<|μ "write "++CF b] H Q E:=by
 have sz:=A.2.st.sz
 have g:=θ j
 have i:b<100:=by lia
 have l2:=WD ⟨b,i⟩
 have v:(μ "write ").length=6:=by decide
 refine A.say T (by rw[M4];lia) (z1c i) λl w e r=>.inr (.inr {by decide,by decide,x3 _ l _ {rfl,(A.same e).st,r,.inl {b,rfl,by lia,x6 X cs _ M b _ {rfl,T.s4,(A.same e).2.st,g,λt ol s c y y told u sb=>?_}}}})
 have B:(outcome cs X.outs (λy=>false) b).out.length+(outcome cs X.outs (λy=>false) b).held.length<=cs.length:=by
  have:=Y6 (cs:=cs) (outs:=X.outs) (DF cs b) {[],[],λy=>false}
  have h2:=Y2 cs b;unfold outcome;simp at this ⊢
  lia
 have d:SameBut (λx=>X.S.A.F x\/x=X.S.A.gp) H c:=λx o ex n=>sb _ _ (e _ _ ex) n;exact x5 t ol s _ _ {rfl,told,by lia,by lia,q _ c g (C6.hs A ((A.same e).2.write g u sb) rfl λx o ex n=>d _ _ ex λz=>n<|z.imp id .inr) d}
def HsC.stop(T:EL K a)(e:TV K a)(A:HsC a H h X cs tks M)(q:∀ b c,HsC a c h b [] [] {CO X.n X.r X.c X.w<|sh M.b X.C M.as,[]}->Nx H X c b->b.S.A.gp=X.S.A.gp->Q (.str<|CF (FC<|BV X.n X.r X.c X.w<|sh M.b X.C M.as).length) c):FF K a [.ref h,.str<|μ "stop"] H Q E :=
 A.say T (by decide)  (ws:=[]) (by decide) λl j d n=>.inr<|.inl {rfl,x5 h X cs _ M {rfl,T,e,A.same d,λb c g nx i=>q b c g ((Nx.of d).trans nx) i}}
def HsC.names(T:EL K a)(A:HsC a H h X cs tks M)(c:EM M zs)(g:∀ z∈zs,BK z=true)(q:∀ b o,Same H o->b.Perm (F9 M X.m0)->yy b=true->(∀ y∈b,y∈zs)->(b.map (·.length)).sum+b.length<=1000->Q (.str<|JP b) o):FF K a [.ref h,.str<|μ "names"] H Q E:=by
 refine A.say T (by decide)   (by decide) λl B i s=>.inr (.inr {by decide,by decide,x3 _ l _ {rfl,(A.same i).st,s,.inr<|.inr<|.inl {rfl,x4 X cs _ M {rfl,T.s4,(A.same i).2.st,λp b u x v w j hs=>?_}}}})
 have d:∀ y∈b,y∈zs:=λy n=>by
  refine u2 ?_<|R4.mp<|j.mem_iff.mp n;intro k r [D,e]
  have:=dQ c.b c.s 0 k;rw[show hnd _ _ 0 k=_ from e]at this;exact this
 have h2:b.length<=X.m0:=by
  rw[j.length_eq];exact ψ (fq _ _) (by rw[cr];exact ο _)
 have h1:=Pk λy n=>(IT<|g y<|d y n).2.2
 have h3:X.m0<=36:=ψ (ia A.2.st.sz.1 A.2.st.sz.2.2.2.1) (by decide);exact x2 p b {rfl,w,by lia,q b u (i.trans v) j hs d (by lia)}
end
section
variable{n r c w:Nat}{S:Md}
def z1n{q:Nat}(h:CO n r c w S 1 q=.mk 1):∃ m ps,CO n r c w S 3 q=.rc m ps:=by
 unfold CO at h;simp only[if_true]at h;cases e:S 3 q with
 |rc m ps =>
  rw[e]at h;simp only at h;split at h;cases h;exact x2 _ _ (WA e (by lia))
 |_ =>
  rw[e]at h;cases b:S 1 q with
  |mk i =>
   rw[b]at h;simp only at h;split at h;cases h;cases h;exact absurd rfl ‹_›
  |_=>rw[b]at h;cases h
def z1o(b:InL n r c w S){p:Nat}(h:CO n r c w S 2 p=.mk 1):∃ q m ps,CO n r c w S 3 q=.rc m ps/\p∈ps:=by
 unfold CO at h;simp only[jw,if_false,if_true]at h;cases e:S 2 p with
 |mk i =>
  rw[e]at h;simp only at h;split at h;cases h;rename_i o;cases h;let[d,hd,g]:=mn.mp<|ua.mp<|m_ λz=>o ⟨rfl,z⟩;let[q,s,rfl]:=ay.mp hd
  have l:=of_decide_eq_true (c_.mp s).2;rw[M9]at l;rw[b.rc]at g;cases j:S 3 q with
  |rc m ps =>
   rw[j]at g;exact x3 q _ ps {WA j l,g}
  |_=>rw[j]at g;cases g
 |_=>rw[e]at h;cases h
def Pl{x:CV}(h:FE x=some 1):x=.mk 1:=by
 cases x with
 |mk i =>
  have  :=ι h;rw[show i=1 by lia]
 |_=>cases h
def z1p(b:InL n r c w S):FC (BV n r c w<|CO n r c w S)=[]:=by
 have B:=b.mended
 have g:∀ q,led (BV n r c w<|CO n r c w S) q=ld _ S q:=λq=>M9 q;unfold FC MW MX MY;rw[IS λk y=>?_,IS λk y=>?_,IS λp y=>?_,IS λk y=>?_]
 rfl;rw[B.rm,B.rc];by_cases h:FE (CO n r c w S 1 k)=some 1;refine u2 ?_<|z1n<|Pl h;rintro m ps d;rw[d];simp[LY];rw[decide_eq_false h,Ks];rw[B.pm];by_cases h:FE (CO n r c w S 2 p)=some 1;refine u3 ?_<|z1o b<|Pl h;intro q m ps [d,i];let[y,y,j,y]:=KS d
 have:0<GT _ p:=ua.mpr (mn.mpr {_,ay.mpr {q,c_.mpr {ao.mpr ?_,decide_eq_true (by rw[g];exact j)},rfl},by rw[B.rc,d];exact i});rw[decide_eq_false (by omega:¬ GT _ p=0),wx];rw[IR];let z||z:=ff q _
 exact z;rw[B.no 3 q (λl=>by simp[BR]at l;lia)]at d;cases d;rw[decide_eq_false h,Ks];rw[B.rc,g];cases e:CO n r c w S 3 k with
 |rc m ps =>
  let[y,y,h,y]:=KS e;rw[decide_eq_false (by lia),wx]
 |_=>rfl
 unfold GA;rw[B.rc,g];cases e:CO n r c w S 3 k with
 |rc m ps =>
  let[y,y,y,rfl]:=KS e
  show(_&&decide _)=false;simp
 |_=>rfl
end
def z1q{α b :Type}{F: α -> b ->Prop}{G: α ->Prop}{l:List α}{m:List b}(h:Paired F l m)(g:∀ x∈l,G x):Paired (λx y=>G x/\F x y) l m:=by
 induction h with
 |nil=>exact .nil
 |cons h t c=>exact .cons {g _ χ,h} (c λx d=>g x<|τ _ d)
def z1r{n r c w:Nat}{b:zD}{S:Md}(h:∀ kind k,OD b<|S kind k)(kind k:Nat):OD b (CO n r c w S kind k):=by
 unfold CO
 repeat' split
 all_goals first|trivial|exact h _ _|(exact h _ _)
def Pm{kvs:vC}{k:AM}{v:V}(h:BE kvs k=some v):(k,v)∈kvs:=by
 induction kvs with
 |nil=>cases h
 |cons p r b =>
  by_cases e:p.1=k;rw[HH e]at h;obtain rfl:=ι h;subst e;exact χ;rw[HI e]at h;exact τ _<|b h
section
variable{h:Addr}{X:SX}{cs:zE}{tks:vC}{M:Hs}{z:Str}{zs:zD}
def C6.notG(I:C6 a H X cs tks M){l:Addr}(e:H l=none):¬ X.G l:=λz=>z.elim (I.st.bk.off e) λz=>by rw[z,I.st.tk]at e;cases e
def HsC.sbk{b:Addr}{d:Hp}(A:HsC a H h X cs tks M)(lo:ER (H b))(g:¬ X.G b)(s:SameBut (· =b) H d):HsC a d h X cs tks M:=by
 let[[i,e],I]:=A;exact{{i,s _ _ e λz=>lo.2 _ _ _<|z ▸ e},I.sbG s (λx c=>c ▸ lo) λx c=>by rw[c];exact{λz=>g<|.inl z,λz=>g<|.inr z}}
def C6.ground(I:C6 a H X cs tks M)(b:TV K a)(c:CU K a):Ground K a H X.S.lp X.S.A.gp (BV X.n X.r X.c X.w<|sh M.b X.C M.as):=by
 have S:=(I.gnd b c).site;exact x7 _ _ _ _ _ _ _ ⟨S.tv,S.tl,S.tp,S.la,S.pl,S.rl,S.pv⟩
end
def WrI(a:Ad)(h:Addr)(e:Hs)(g:Hp)(c:SX)(f:Option V->St)(i:St)(d:Hp):Prop:=(∃ b,HsC a d h b [] [] e/\Nx g c d b/\b.S.A.gp=c.S.A.gp)/\∃ y,i=f y
example:(z1t,VG,Gx,8):=by
 intro[h,X,cs,tks,M,zs,rfl,T,tv,A,zok,I,q]
 have T4:=T.s4
 have G:=A.2.gnd tv T4;refine x3 X.S.lp X.S.A.gp _ {rfl,A.2.ground tv T4,λl H1 hl s1 b=>?_};let[ps,el,Pf]:=b;rw[G.sd.fault G.bo,ko]at Pf;refine{ps.length,.inl {_,SqL.of el,by rw[ε]},?_}
 have A1:=A.same s1;refine x5 X cs tks M zs {rfl,T,A1.2,I,λd kvs H2 hd IA ed D=>?_}
 have A2:=A1.same IA;let[dh,eh]:=A2.1;erw[Gx3_];refine y2 {eh,rfl,A2.stop T tv λw H3 A3 g eg3=>?_}
 have bl:ps.length<1000000:=cf (Pf.length ▸ (Nq G.site.pv.ok)) (by decide);refine{_,rfl,by lia,by lia,?_};rw[Pf.length]
 have g3:=A3.2.ground tv T4;erw[];rw[g.lp,eg3]at g3;refine x3 X.S.lp X.S.A.gp _ {rfl,g3,λl4 H4 hl4 s4 b=>?_};let[ps4,el4,J]:=b
 have G3:=A3.2.gnd tv T4;rw[G3.sd.fault G3.bo,ko]at J
 have J:Paired (λp f=>H4 p=some (.tup f)) ps4 (FC<|BV w.n w.r w.c w.w<|CO X.n X.r X.c X.w<|sh M.b X.C M.as):=J;rw[g.sz.1,g.sz.2.1,g.sz.2.2.1,g.sz.2.2.2,z1p G.bo]at J;obtain rfl:ps4=[]:=by cases J;rfl
 erw[];refine{by decide,λpu hpu=>?_};let[H5,s,s5,ep5]:=D3 (o:=.lst []) hpu;rw[s];refine zxc (xs:=[]) (SqL.of<|s5 _ _ el4) (SqL.of ep5) (λv hv=>by cases hv) ?_
 have s35:=s4.trans s5;let[ed3,ng3]:=g.o d _ ed nofun<|A1.2.notG hd
 have L:=s35 _ _ ed3;erw[Gx4_]
 have hm0:X.m0<=36:=ψ (ia A.2.st.sz.1 A.2.st.sz.2.2.2.1) (by decide)
 have ml:(F9 {sh M.b X.C M.as,[]} X.m0).length<=36:=ψ (ψ (fq _ _) (by rw[cr];exact ο _)) hm0;refine{rfl,.inr<|.inr<|.inl {rfl,.inl ⟨_,L⟩},x2 d kvs {rfl,rfl,L,λv hv=>?_}};let[H6,s,s6,ev6]:=D3 (o:=.ext<|NQ v d) hv;rw[s];refine x4 v d kvs _ {rfl,ev6,s6 _ _ L,D.k,by lia,λp7 ks hp7 perm srt=>?_};let[H7,s,s7,ep7]:=D3 (o:=.lst<|ks.map V.str) hp7;rw[s]
 have kin:∀ y∈F9 {sh M.b X.C M.as,[]} X.m0,y∈zs:=λy hy=>by
  refine u2 ?_<|R4.mp hy;intro k r [U,e]
  have:=WG (C:=X.C) I.b I.s 0 k;rw[show sh M.b X.C M.as 0 k=_ from e]at this;exact this
 have k8:=Pk λy hy=>(IT<|zok y<|kin y<|perm.mem_iff.mp hy).2.2
 have kl:=perm.length_eq;refine x3 _ p7 ks {rfl,rfl,SqL.of ep7,by decide,by lia,?_}
 have N:EM {CO X.n X.r X.c X.w<|sh M.b X.C M.as,[]} zs:={z1r<|WG I.b I.s,λx hx=>by cases hx}
 have em3:w.m0=X.m0:=by unfold SX.m0;rw[g.sz.1,g.sz.2.2.2]
 have rest:∀ {H8:Hp},Same H5 H8->Gx8 K a (λu=>E) (λu=>E) { nx:=AH (Gx11 K a (λu=>E) (λu=>E)) (AH (Gx14 K a (λu=>E) (λu=>E)) (Gx15 K a (λu=>E) (λu=>E))) (AX Q),rt:=Q } [some (.ref X.S.lp),some<|.ref h,some<|.ref X.S.A.gp,some<|.int (FC<|BV X.n X.r X.c X.w<|sh M.b X.C M.as).length,some<|.ref d,some<|.str<|JP ks,none,none] H8:=by
  intro H8 s8
  have A8:=(A3.same s35).same s8;let[dh8,eh8]:=A8.1;erw[Gx8_];refine y2 {eh8,rfl,A8.names T N zok λks2 H9 s9 O srt2 hin hsum=>?_};rw[em3]at O;obtain rfl:ks2=ks:=zer srt2 srt<|O.trans perm.symm
  have A9:=A8.same s9
  have ed9:=s9 _ _<|s8 _ _ L;erw[Gx11_];refine{_,ed9,λo=>zfr (λu σ H2=>(SameBut (· =d) H9 H2/\H2 d=some (.frz o<|.dK kvs))/\∃ y6,σ=[some (.ref X.S.lp),some<|.ref h,some<|.ref X.S.A.gp,some<|.int (FC<|BV X.n X.r X.c X.w<|sh M.b X.C M.as).length,some<|.ref d,some<|.str<|JP ks2,y6,none]) {{λy o' e n=>by rw[AI n];exact e,AE},_,rfl} (λu u u u q=>q.1.2) (λj k v σ H2 ekv b=>?_) (λσ H2 b=>?_)}
  ·let[[s2,e2],y6,rfl]:=b;let[v',hv]:=dM.mpr<|ay.mpr {_,η ekv,rfl};refine u6 ?_<|D.v k v'<|Pm hv;intro z k' r n ps' ts [rfl,U,e0,e3,P,rfl]
   have oz:=zok z<|kin z<|R4.mpr<|x2 k' r ⟨U,e0⟩
   have B:=A9.sbk (QS ed9) ng3 s2;let[dhB,ehB]:=B.1
   have e3':=WA (r:=X.r) (c:=X.c) e3 (Nd U e0);refine u2 ?_ (B.2.rl (by rw[em3];exact U) (show({CO X.n X.r X.c X.w<|sh M.b X.C M.as,[]}:Hs) 0 k'=_ from e0));intro u u [hr,u];let[p1,p2]:=B.2.ps<|show({CO X.n X.r X.c X.w<|sh M.b X.C M.as,[]}:Hs) 3 r=_ from e3'
   have S':Std w {CO X.n X.r X.c X.w<|sh M.b X.C M.as,[]} z k' r _ ps' ts:={by rw[em3];exact U,e0,hr,e3',p2,p1,z1q P p1}
   erw[Gx10_,kV];refine y2 {ehB,rfl,(l5 oz).1,B.shows T N oz S' λHa sa=>{_,.inl<|x2 _ _ {.inr {o,sa _ _ e2},rfl,hv.symm},?_}};erw[];exact{λy o' e n=>sa _ _<|s2 _ _ e n,sa _ _ e2}
  ·let[[s2,e2],y6,rfl]:=b;refine{e2,?_}
   have se:Same H9 (upd H2 d<|.dK kvs):=λy o' e=>by
    by_cases z:y=d
    ·rw[z,AE];rw[z,ed9]at e;exact e
    ·rw[AI z];exact s2 _ _ e z
   generalize upd H2 d (.dK kvs)=Hb at se
   have Ab:=A9.same se;let[dl,elb]:=Ab.2.st.ly.ob
   have Lb:=Ab.2.st.ly;rw[g.lp]at elb Lb
   have zb:=Ab.2.st.sz;erw[Gx14_];refine x2 _ _ {elb,BZ,x5 X.S.lp _ _ _ _ {rfl,T4.2.2.1,Lb,by lia,by lia,?_}};rw[show((w.n:Int)+w.r+w.c+w.r+w.c).toNat=w.rows.length by lia];refine NO (λu σ H'=>WrI a h {CO X.n X.r X.c X.w<|sh M.b X.C M.as,[]} Hb w (λy=>[some (.ref X.S.lp),some<|.ref h,some<|.ref X.S.A.gp,some<|.int (FC<|BV X.n X.r X.c X.w<|sh M.b X.C M.as).length,some<|.ref d,some<|.str<|JP ks2,y6,y]) σ H') {⟨w,Ab,Nx.refl,rfl⟩,_,rfl} (λi σ H' hi b=>?_) (λσ H' b=>?_)
   ·let[[X',A',Y,eg'],y,rfl]:=b;let[dh',eh']:=A'.1
    have z':=A'.2.st.sz
    have n':=Y.sz
    have l2:(CF i).length<=2:=WD {i,by lia}
    have l6:(μ "write ").length=6:=by decide
    erw[Gx13_,rf];refine y2 {eh',rfl,_,rfl,by lia,by lia,?_};erw[];refine{BQ _ (by lia),A'.write T (by lia) (by simp) λrow Hc er Ac sbc=>?_};rw[show CF (outcome [] X'.outs (λu=>false) i).out.length++(" ":Str)++CF (outcome [] X'.outs (λu=>false) i).held.length=μ "0 0" by show CF 0++(" ":Str)++CF 0=_;decide +kernel];erw[];exact{{_,Ac,Y.trans<|A'.2.nx rfl ⟨rfl,rfl,rfl,rfl⟩ λx o ex n=>sbc _ _ ex λz=>n<|z.imp id .inr,eg'},_,rfl}
   ·let[[X',A',Y,eg'],y,rfl]:=b;erw[Gx15_];exact q X' _ H' A' rfl N (((Nx.of<|s1.trans IA).trans g).trans ((Nx.of<|((s35.trans s8).trans s9).trans se).trans Y)) (eg'.trans eg3)
 erw[Gx6_];intro e8 he8;let[H8,s,s8,ee8]:=D3 (o:=.dK []) he8;rw[s]
 have s58:=(s6.trans s7).trans s8;refine{kvs,s58 _ _ L,ee8,?_}
 have hl:=congrArg g_ D.k;simp only[ε]at hl;erw[];by_cases U:kvs=[]
 ·refine E6 (by rw[U];rfl) ?_
  have:=rest s58;rw[show JP ks=μ "-" from if_pos (cu.mp (by rw[kl,<-hl,U];rfl))]at this;erw[Gx5_];exact this
 ·refine ED (λz=>U<|List.isEmpty_iff.mp z) ?_
  have:=rest s58;rw[show JP ks=Txt.join (μ " ") ks from if_neg λz=>U (cu.mp (by rw[hl,<-kl,z];rfl))]at this;exact this
section
variable{h:Addr}{X:SX}{cs:zE}{tks:vC}{M:Hs}{z:Str}{zs:zD}
def HsC.ask{w:Str}(T:EL K a)(A:HsC a H h X cs tks M)(i:cs.length<=300)(j:EM M zs)(d:BK z=true)(u:w=μ "show "\/w=μ "keep ")(n:(cellOf M X.m0 z).isNone=false->∀ v b,Same H b->Q v b)(o:(cellOf M X.m0 z).isNone=true->∀ b,Same H b->E (.ref<|a "NoName") none b):w.length+z.length<=sizeLine/\FF K a [.ref h,.str<|w++z] H Q E:=by
 have L:=l5 d;cases e:cellOf M _ z with
 |some k =>
  rw[e]at n;let[x,r,B]:=VO e;refine u3 ?_<|A.2.std x B;rintro m ps I S;let rfl||rfl:=u
  exact{L.1,A.shows T j d S λb s=>n rfl _ b s};exact{L.2.2.1,A.keeps T i d S λrow R b s y y y y=>n rfl _ b s}
 |none =>
  rw[e]at o;let rfl||rfl:=u
  exact{L.1,A.say T L.2.1 (Pd d) λl D c p=>.inr (.inr {by decide,by decide,x3 _ l _ {rfl,(A.same c).st,p,.inr (.inr (.inr {z,rfl,x5 X cs _ M z {rfl,T.s4,(A.same c).2.st,λcell q g=>(by rw[e]at g;cases g),λy b s=>o rfl b<|c.trans s}}))}})};exact{L.2.2.1,A.say T L.2.2.2 (Pc d) λl D c p=>.inr (.inr {by decide,by decide,x3 _ l _ {rfl,(A.same c).st,p,.inr (.inl {z,rfl,x5 X cs _ M z {rfl,T.s4,(A.same c).2.st,λcell q g=>(by rw[e]at g;cases g),λy b s=>o rfl b<|c.trans s}})}})}
end
def StD.has{b:Md}{m:Nat}{kvs:vC}(D:StD b m kvs)(z:Str):(BE kvs<|.inr z).isSome= !(cellOf {b,[]} m z).isNone:=by
 cases e:cellOf _ m z with
 |none =>
  cases d:BE kvs _ with
  |none=>rfl
  |some v =>
   refine u6 ?_<|D.v _ _<|Pm d;intro o k r n ps p [g,c,i,y];cases g;exact absurd i<|R0 e k r c
 |some k =>
  let[c,r,j]:=VO e;let[v,l]:=dM.mpr (by rw[D.k];exact ay.mpr {z,(R4.mpr<|x2 k r ⟨c,j⟩),rfl});rw[l];rfl
example:(z1u,aK,Hj,8):=by
 intro[h,nl,X,[b,as],g,rfl,T,TD,A,e0,[en,h5,Y],M,q];obtain rfl:as=[]:=e0;refine x5 X [] [] _ g {rfl,T,A.2,M,λd kvs H1 hd s1 ed D=>?_}
 have A1:=A.same s1
 have D:StD b X.m0 kvs:=D;obtain⟨p,N⟩:∃ p:Str->Bool,∀ z,p z=(cellOf {b,[]} X.m0 z).isNone:={_,λ_=>rfl}
 have cn:∀ {i:Nat} {z:Str},g[i]? =some z->(g.take<|i+1).countP p=(g.take i).countP p+if p z=true then 1 else 0:=λ{i z} n=>by
  rw[cw,n,nc];simp only[Dn,va,zi]
  lia
 have B:=s1 _ _ en;refine .inl {{_,SqL.of B},GZ (xs:=g.map V.str) (λi s r=>Same H1 r/\∃ y6 u,s=[some (.ref h),some<|.ref X.S.lp,some<|.ref X.S.A.gp,some<|.ref nl,some<|.ref d,some<|.int ((2*(g.take i).countP p:Nat):Int),y6,u]) {Same.refl _,x2 _ _ rfl} (λi s r _ c=>(SqL.of<|c.1 _ _ B)) (λi v s r y c=>?_) (λs r c=>?_)};let[I,y6,u,rfl]:=c;rw[υ,af]at y;let[z,n,rfl]:=y;erw[Hj5_];refine{by decide,λt ht=>?_};let[H3,zz0,s3,et]:=D3 (o:=.tup [.str (μ "show "),.str<|μ "keep "]) ht;rw[zz0];refine .inr {{_,SqT.of et},XQ (xs:=[.str (μ "show "),.str<|μ "keep "]) (λj s r=>Same H3 r/\∃ u,s=[some (.ref h),some<|.ref X.S.lp,some<|.ref X.S.A.gp,some<|.ref nl,some<|.ref d,some<|.int ((2*(g.take i).countP p+(if p z=true then j else 0):Nat):Int),some<|.str z,u]) {Same.refl _,u,by cases p z<;>rfl} (λj s r _ c=>(SqT.of<|c.1 _ _ et)) (λj v s r y c=>?_) (λs r c=>?_)};let[O,u,rfl]:=c
 have A4:=(A1.same I).same (s3.trans O);obtain⟨w,rfl,hw⟩:∃ w,v=.str w/\(w=μ "show "\/w=μ "keep "):=by
  match j,y with
  |0,y=>cases y;exact{_,rfl,.inl rfl}
  |1,y=>cases y;exact{_,rfl,.inr rfl}
 let[dh,eh]:=A4.1;erw[Hj4_,Hj2_];refine y2 {eh,rfl,A4.ask T (by simp) M (Y z<|η n) hw (λhg _ H5 s5=>?_) λhb H5 s5=>?_};rw[if_neg (by rw[N,hg];decide),if_neg (by rw[N,hg];decide)];exact{O.trans s5,rfl};rw[if_pos (by rw[N,hb])];refine .inl {TD.n2,?_};erw[Hj3_];refine{O.trans s5,?_};rw[if_pos (by rw[N,hb])]
 lia
 let[O,u,rfl]:=c;refine{(I.trans s3).trans O,x2 (some<|.str z) u ?_}
 have:2*(g.take<|i+1).countP p=2*(g.take i).countP p+if p z=true then 2 else 0:=by
  rw[cn n];split<;>lia
 rw[this]
 rfl;let[I,y6,u,rfl]:=c
 have U:=I _ _ B;rw[ε,de<|ο _];erw[Hj7_];refine .inl {{_,SqL.of U},YC (xs:=g.map V.str) (λi=>((g[i]?).map p).getD false) (BQ _ (by rw[ε];lia)) (λi ys J=>J=r/\ys.length=(g.take i).countP p) ⟨rfl,rfl⟩ (λi ys J L h=>{h.1 ▸ SqL.of U,by rw[h.2];exact ψ (uu ..) (by rw[df];lia)}) (λi x ys J ex h QB qb=>?_) (λi x ys J ex L h=>?_) (λi x ys J ex L h=>?_) (λys J h l hl=>?_)};rw[υ,af]at ex;let[z,n,rfl]:=ex;let[rfl,_]:=h;rw[n]at qb;refine{_,.inl<|x2 kvs (.inr z) {.inl<|I _ _ ed,rfl,rfl},?_};rw[show(BE kvs<|.inr z).isSome=_ from D.has z,<-N,Bool.not_not];exact qb;rw[υ,af]at ex;let[z,n,rfl]:=ex;rw[n]at L;refine{h.1,?_};rw[cn n,ai,h.2,if_pos<|show p z=true from L]
 rfl;rw[υ,af]at ex;let[z,n,rfl]:=ex;rw[n]at L;refine{h.1,?_};rw[cn n,h.2,if_neg (by rw[show p z=false from L];decide)]
 rfl
 ·let[rfl,e]:=h;rw[ε,de<|ο _]at e
  have cl:=uu (p:=p) (l:=g);refine{_,.inl {_,SqL.of AE,rfl},?_};rw[e];erw[];refine{.inl {by decide,by decide},?_}
  first|rw[decide_eq_true rfl]|rw[decide_eq_true (show((2*g.countP p:Nat):Int)=2*(g.countP p:Int) by lia)]
  exact q _<|(s1.trans I).trans (AL hl)
example:(z1v,UD,vG,1):=by
 apply u5;intro p b w rows n [rfl,T,P,q];let[c,h1]:=P.ob;exact y3 {h1,T.cl,T.nN,_,sT _ _ _,q}
def z1w(ns:wE):∃ b:wE,GJ (ns.map V.int) (some 1) none=b.map V.int/\b.length<=ns.length-1:=by
 refine{(ns.drop<|HT.sIx ns.length 0<|some 1).take (HT.sIx ns.length ns.length none-HT.sIx ns.length 0 (some 1)),by unfold GJ;rw[ε,<-Cn,<-Ci],ψ (vk ..) ?_};rw[il];cases ns with
 |nil=>exact ο _
 |cons x t =>
  show t.length+1-min 1 (t.length+1)<=_;rw[nq (vo ..)];exact ο _
structure L73(a:Ad)(h ly gp nl rr:Addr)(zs:zD)(ms:wE)(i:Nat)(X:SX)(cs:zE)(tks:vC)(M:Hs)(H:Hp):Prop where
 A:HsC a H h X cs tks M
 e:X.S.lp=ly/\X.S.A.gp=gp
 w:X.c*X.w<=12/\1<=X.n
 b:cs.length+D9 (X.c*X.w) M<=12+4*i
 v:EM M zs
 nm:VE H nl zs
 er:H rr=some (.lst<|ms.map V.int)
 g:¬ X.G nl/\¬ X.G rr
section
variable{h ly gp nl rr s:Addr}{zs:zD}{ms:wE}{i:Nat}{X X':SX}{cs cs':zE}{tks tks':vC}{M M':Hs}{H':Hp}
def L73.go(J:L73 a h ly gp nl rr zs ms i X cs tks M H)(c:HsC a H' h X' cs' tks' M')(q:cs'.length+D9 (X'.c*X'.w) M'<=12+4*i+4)(d:EM M' zs)(nx:Nx H X H' X')(g:X'.S.A.gp=X.S.A.gp):L73 a h ly gp nl rr zs ms (i+1) X' cs' tks' M' H':=by
 let[A,e,w,b,v,nm,j,g1,g2]:=J;let[l,n]:=nx.o nl _ nm.1 nofun g1;let[o,p]:=nx.o rr _ j nofun g2;exact{c,{nx.lp.trans e.1,g.trans e.2},by rw[nx.sz.1,nx.sz.2.2.1,nx.sz.2.2.2];exact w,by omega,d,⟨l,nm.2⟩,o,n,p}
def L73.same(J:L73 a h ly gp nl rr zs ms i X cs tks M H)(s:Same H H'):L73 a h ly gp nl rr zs ms i X cs tks M H':={J.A.same s,J.e,J.w,J.b,J.v,{s _ _ J.nm.1,J.nm.2},s _ _ J.er,J.g}
def LI(a:Ad)(h ly gp nl rr:Addr)(zs:zD)(ms:wE)(s:Addr)(i:Nat)(b:St)(H':Hp):Prop:=∃ X cs tks M,L73 a h ly gp nl rr zs ms i X cs tks M H'/\∃ c d e,b=[some (.ref s),c,some<|.ref ly,some<|.ref h,some<|.ref gp,some<|.ref nl,d,e]
end
example:(z1x,tR,cM,8):=by
 apply u2;intro s ns [rfl,tv,T,TD,hs,hl,q];let[TB,TP,TL,TS]:=id T.s4;erw[cM,cM0_];refine x3 s ns 0 {rfl,hs,oA hl rfl,?_};generalize QW ns 0=x;erw[cM1_];let[n,en,n1,n3]:=md x 3 (by decide);let[r,er,r1,r3]:=md (x/3) 3 (by decide);let[c,ec,c1,c3]:=md (x/9) 3 (by decide);let[w,ew,w1,w4]:=md (x/27) 4 (by decide);rw[show 1+x%3=_ from en,show 1+x/3%3=_ from er,show 1+x/9%3=_ from ec,show 1+x/27%4=_ from ew];refine{{by decide,by decide},{by decide,by decide},{by decide,by decide},λU dl B hdl ndl=>x6 U dl n r c w {rfl,TL,AE,oA n3 rfl,oA r3 rfl,oA c3 rfl,w1,oA w4 rfl,λH1 L1 sb1=>{rfl,?_}}}
 have s1:Same H H1:=λy o e=>sb1 _ _ (((AL hdl).trans (AL (by rw[AI ndl.symm];exact B))) _ _ e) (BJ e B)
 have fw:=ia c3 w4;refine λh dh hh D I=>x7 h dh U n r c w {rfl,T,tv,AE,(L1.same ((AL D).trans (AL (by rw[AI I.symm];exact hh)))),{oA n3 rfl,oA r3 rfl,oA c3 rfl,w1,oA w4 rfl,oA fw rfl},λX H2 a1 a4 a5 a6 a7 off A2 OR=>{rfl,?_}}
 have s2:Same H1 H2:=λy o e=>OR _ _ (((AL D).trans (AL (by rw[AI I.symm];exact hh))) _ _ e) (BJ e hh);let[dh2,L]:=A2.1;refine x2 _ _ {L,rfl,x5 h dh2 _ _ _ {rfl,T.ho,L,?_}};refine{{by decide,by decide},_,rfl,λnl l H3 hnl s3 enl hzl hz=>?_};let[Y,ems,hms]:=z1w ns
 have A4:=A2.same s3;erw[cM16_];refine zj4 (((s1.trans s2).trans s3).seq hs) λrr N=>?_;rw[ems];let[H5,zz0,s5,e5]:=D3 (o:=.lst<|Y.map V.int) N;rw[zz0]
 have J5:L73 a h U X.S.A.gp nl rr l Y 0 X [] [] {λu u=>.no,[]} H5:={A4.same s5,⟨a1,rfl⟩,by rw[a4,a6,a7];exact⟨fw,n1⟩,ψ (by rw[nu,lg];exact Nl) (by rw[a6,a7];exact fw),{λu u=>trivial,λu h=>(by cases h)},{s5 _ _ enl,hzl,hz},e5,A2.2.notG hnl,A4.2.notG N}
 generalize X.S.A.gp=gp at J5;refine .inl {{_,SqL.of e5},GZ (xs:=Y.map V.int) (LI a h U gp nl rr l Y s) (x4 X [] [] _ {J5,x3 _ _ _ rfl}) (λi σ H' u d=>?_) (λi v σ H' ev d=>?_) (λσ H' d=>?_)}
 ·revert d;refine u4 ?_;intro X cs g M [J,u];exact SqL.of J.er
 ·revert d;refine u4 ?_;intro X cs g M [J,yc,y6,y7,rfl];rw[υ,af]at ev;let[y,ey,rfl]:=ev
  have hi:=(ζ.mp ey).1
  have hi:i<=61:=by lia
  let[dh,eh]:=J.A.1
  have bb:=J.b;let[rfl,rfl]:=J.e;erw[cM15_];by_cases k7:y%12=7
  ·refine E6 k7 ?_;erw[cM6_];refine x6 h X cs g M l {rfl,T,tv,J.A,hz,J.v,λX1 M1 H1 B1 ea v1 j O=>?_}
   have J1:=J.go B1 (by rw[nu,lg,j.sz.2.2.1,j.sz.2.2.2];exact ψ Nl (by have:=J.w;lia)) v1 j O;erw[];refine x5 h nl X1 M1 l {by rw[j.lp,O],T,TD,B1,ea,J1.nm,v1,λH2 s2=>?_};erw[];exact x4 X1 _ _ _ {J1.same s2,x3 _ _ _ rfl}
  refine ED k7 ?_;erw[cM14_];by_cases k3:y%3=0
  ·refine E6 k3 ?_;erw[cM7_];let[dp,ep]:=J.A.2.st.bk.pk.ob;let[dl6,el6]:=J.A.2.st.ly.ob
   have rl:=J.A.2.st.sz.2.2.2.2
   have n1:=J.w.2
   have s30:=J.A.2.st.sz;refine y2 {ep,IK _ _ _ (by decide +kernel) (by decide +kernel) (by decide +kernel),x5 _ _ _ _ _ {rfl,TP,J.A.2.st.bk.pk,?_}};erw[cM8_];refine y2 {eh,rfl,{by decide,by decide},y2 {el6,BZ,x5 _ _ _ _ _ {rfl,TL,J.A.2.st.ly,?_}}};let[b,eb,hb]:=OF (y/3) (n:=X.rows.length) (by lia);erw[];refine{by lia,?_};rw[show((X.n:Int)+X.r+X.c+X.r+X.c)=(X.rows.length:Nat) by lia,eb]
   have b1:b<100:=by lia
   have l2:(CF b).length<=2:=WD ⟨b,b1⟩
   have l6:(μ "write ").length=6:=by decide
   refine{_,rfl,by lia,by lia,?_};erw[];refine{BQ _ (by lia),J.A.write T hb (by lia) λrow H7 er A7 sb7=>?_};let[dp7,ep7]:=A7.2.st.bk.pk.ob;erw[cM10_];refine y2 {ep7,IK _ _ _ (by decide +kernel) (by decide +kernel) (by decide +kernel),x5 _ _ _ _ _ {rfl,TP,A7.2.st.bk.pk,?_}};erw[];exact ED (λz=>z rfl) (x4 _ _ _ _ {J.go A7 (by show cs.length+D9 (X.c*X.w) M<=_;lia) J.v (J.A.2.nx rfl ⟨rfl,rfl,rfl,rfl⟩ λx o ex n=>sb7 _ _ ex λz=>n<|z.imp id .inr) rfl,x3 _ _ _ rfl})
  refine ED k3 ?_;erw[cM11_];refine{{by decide,by decide},x3 _ nl l {rfl,J.nm,λz H7 s7 R=>?_}}
  have p:=J.same s7;refine x8 h X cs g M _ z l {rfl,T,TD,p.A,by lia,hz,p.v,R,λH8 s8=>?_,λcs' tks' M' H8 A8 hb v8 nx=>?_}
  ·erw[cM13_];exact x4 X _ _ _ {(p.same s8).go ((p.same s8).A) (by lia) p.v Nx.refl rfl,x3 _ _ _ rfl}
  ·erw[cM13_];exact x4 X _ _ _ {p.go A8 (by lia) v8 nx rfl,x3 _ _ _ rfl}
 ·revert d;refine u4 ?_;intro X cs g M [J,yc,y6,y7,rfl];erw[cM17_];let[rfl,rfl]:=J.e;exact x6 h X cs g M l {rfl,T,tv,J.A,hz,J.v,λu u H' u u u u u=>q H'}
end
def JW:Expr->zD
 |.Name x _=>[x]
 |.Tuple [.Name x _,.Name y _] _ _=>[x,y]
 |_=>[]
def Pp(N:zD)(a:xE):zD:=a.filterMap λi=>N[i]?
def FnScope.cq{X:Cx}{scope outer:Scope}{N P b:zD}{a:xE}(_:FnScope N P outer)(h:TC scope outer N (Pp N a) a=true:=by decide +kernel)(h1:X.env.scope=outer:=by exact rfl)(h2:X.N=N:=by exact rfl):KB X scope b (Pp N a) a:=qJ h1 h2 h
section
variable{X:Cx}{tg iter EW:Expr}{EX:xD}{scope:Scope}{pos:Pos}{wi:TI}{td:TE}{g:TG}{tt:TT}{te:TE}{cn:zD}{A6:xE}
def pcm(S:KB X scope (JW tg) cn A6)(d:X.calm=true)(e:PI X tg iter wi)(i:∀ a s H b C c,PG (X.block a s H (JW tg++cn) scope b C c) tg g)(j:∀ a s H b C c,K7 (X.block a s H (JW tg++cn) scope b C c) EX tt)(he:∀ a s H b C c,PE (X.block a s H (JW tg++cn) scope b C c) EW te)
  (hs:∀ x,ky iter X.env x=pure x:=by intro _;rfl):PE X (.ListComp EW [{tg,iter,EX,0}] scope pos) (B0 wi g tt te (JW tg).length A6):=zaf S d e i j he hs
def pcs{i:Nat}{x:Str}{l a:Pos}(S:KB X scope (JW tg) cn A6)(n:X.calm=true)(o:X.N.Nodup)(e:X.N[i]? =some x)(p:X.env.scope.names.lookup x=some .local)(q:PI X tg iter wi)(r:∀ b s H c C d,PG (X.block b s H (JW tg++cn) scope c C d) tg g)(u:∀ b s H c C d,K7 (X.block b s H (JW tg++cn) scope c C d) EX tt)(he:∀ b s H c C d,PE (X.block b s H (JW tg++cn) scope c C d) EW te)
  (j:we (.ListComp EW [{tg,iter,EX,0}] scope pos) (some<|.Name x l) a.line X.env=pure true:=by rfl)
  (hs:∀ x,ky iter X.env x=pure x:=by intro _;rfl):PS X (.Assign [.Name x l] (.ListComp EW [{tg,iter,EX,0}] scope pos) a) (AT (B0 wi g tt te (JW tg).length A6) (AG i)):=zag S n o e p q r u he j hs
end
def top(i:Nat):Stmt:=PySem.Challenge.pw_holdback_k73_whole_stopped_anywhere.main.body.getD i<|.Pass {0,0,0,0}
structure Txt(K:W.Frag)(mg:Str->Option Value)(a:Ad):Prop where
 z5b:Cls K (a "Change")
 Pw:Cls K (a "Hold")
 Px:Cls K (a "House")
 Py:Cls K (a "Layout")
 Pz:Cls K (a "Plank")
 Qb:Cls K (a "Store")
 Qc:Cls K (a "View")
 z5c:GV mg "DEEDS" (.ref<|a "DEEDS")
 Qd:GV mg "FORMS" (.ref<|a "FORMS")
 Qg:TabK K (a "FORMS") OC
 z5d:GV mg "MOST_FIGURES" (.int 3)
 z5e:GV mg "MOST_LETTERS" (.int 8)
 z5f:GV mg "MOST_PIECE_SIGNS" (.int 40)
 z5i:mg "NoBlock"=some (.ref<|a "NoBlock")
 z8v:GV mg "NoBlock" (.ref<|a "NoBlock")
 z5m:Exc K (a "NoBlock")
 z5j:mg "NoChange"=some (.ref<|a "NoChange")
 z8w:GV mg "NoChange" (.ref<|a "NoChange")
 z5n:Exc K (a "NoChange")
 mU:mg "NoName"=some (.ref<|a "NoName")
 z8x:GV mg "NoName" (.ref<|a "NoName")
 z5o:Exc K (a "NoName")
 Qh:mg "NoPiece"=some (.ref<|a "NoPiece")
 z8y:GV mg "NoPiece" (.ref<|a "NoPiece")
 z5p:Exc K (a "NoPiece")
 Qj:mg "NoRoom"=some (.ref<|a "NoRoom")
 z8z:GV mg "NoRoom" (.ref<|a "NoRoom")
 z5q:Exc K (a "NoRoom")
 z5k:mg "NoRow"=some (.ref<|a "NoRow")
 z80:GV mg "NoRow" (.ref<|a "NoRow")
 z5r:Exc K (a "NoRow")
 z5l:mg "NotSound"=some (.ref<|a "NotSound")
 z81:GV mg "NotSound" (.ref<|a "NotSound")
 z5s:Exc K (a "NotSound")
 z5g:GV mg "PERCENT" (.int 37)
 Qk:mg "Twice"=some (.ref<|a "Twice")
 z82:GV mg "Twice" (.ref<|a "Twice")
 z5t:Exc K (a "Twice")
 z5h:GV mg "WITH_A_NUMBER_LAST" (.ref<|a "WITH_A_NUMBER_LAST")
 z4z:mg "all"=none
 z40:mg "dict"=none
 z41:mg "enumerate"=none
 z42:mg "int"=none
 z43:mg "len"=none
 z44:mg "list"=none
 z45:mg "ord"=none
 z46:mg "range"=none
 z47:mg "reversed"=none
 z48:mg "set"=none
 mT:mg "sorted"=none
 z49:mg "str"=none
 z5a:mg "tuple"=none
section
variable(P:bw)(w:World){K:W.Frag}{mg:Str->Option Value}(base:Heap){a:Ad}{f:Addr}{fd:gx}
seal wpAny
seal MB K1 QD YH KY MF O0 IJ HM CG DQ MN HN IG FL FI P0 AG C7 K0 PN CI tB TN EJ AD SN BU A5 DI PY MD PQ CT FR AH O8 LF NF MC E9 NP SS AS FY PK C4 GP BF JE BO EB NG JF JG TU NK AT AV LH LC tC G1 DP GK FX LJ FQ P9 FA DZ D4 CA FZ FJ NU PL LE LG BL TQ IF CP AN DR BM O6 ML IY OZ YB O5 CK X8 PE PT E8 PS PA PI PG K7 IW PW CC IxR
def dvT:Nat->List String->Array Lean.Term->Lean.MacroM (Lean.Term × List String)
 |0,_,_=>Lean.Macro.throwUnsupported
 |n+1,l,a=>match l with
  |"("::r=>do
   let x<-dvT n r #[]
   dvT n x.2 (a.push x.1)
  |")"::r=>pure (Lean.Syntax.mkApp a[0]! (a.extract 1 a.size),r)
  |[]=>pure (Lean.Syntax.mkApp a[0]! (a.extract 1 a.size),[])
  |s::r=>do
   let x:Lean.Term<-match s with
    |"?"=>`(?_)
    |"_"=>`(_)
    |"1"=>`(by assumption)
    |"2"=>`(by rfl)
    |"3"=>`(by with_unfolding_all rfl)
    |"4"=>`(show List.Nodup (_++_) by decide +kernel)
    |"5"=>`(fun _ _=>rfl)
    |"6"=>`(fun _ _ _ _ _ _=>?_)
    |"7"=>`(⟨rfl,rfl,rfl,rfl⟩)
    |"8"=>let h:=Lean.mkIdent `hx1;let e:=Lean.mkIdent `E1;`(fun $e _ _ $h=>?_)
    |"9"=>`(by simp)
    |"10"=>`(fun _=>rfl)
    |"11"=>`(fun _=>?_)
    |_=>pure<|Lean.mkIdent s.toName
   dvT n r (a.push x)
def dvC(R:Array String):Nat->StateT (List Char) Lean.MacroM Lean.Term
 |0=>Lean.Macro.throwUnsupported
 |n+1=>do
  let c::l<-get|Lean.Macro.throwUnsupported
  set l
  let k:=c.toNat
  let x<-dvT 99 ((R[if k<58 then k-48 else if k<91 then k-55 else if k<123 then k-61 else k-130]!).splitOn " ") #[]
  return ⟨<-x.1.raw.replaceM fun s=>if s.isOfKind `Lean.Parser.Term.syntheticHole then do return some (<-dvC R n).raw else return none⟩
def dvR:="pvr _|rV ?|Sq ? ?|Sv ?|mZ|pFl ( Wb ? rfl )|Sx ?|T2 ( pmx ? ? 1 hr hx ? )|psl _ nd ?|Rq|rW ? ?|O2 zat ? ?|Sy ? ? ?|oP p9 ? ? 5|sA ( pcx 1 hr hx ? )|Sm|rT _ 4|pei ?|T.Py|T.Qb|Wk ?|pSq ( zbb ? )|T2 ( pmz ? ? 1 hr hx )|Sw ?|rX ? ? ?|pcm sc.cq rfl ? 6 6 6|pSf ( Wc ? ? rfl )|T.Pw|Rp|rT _ nd|Wj ?|O2 zhb ? ?|Tx hx.po rfl ? ? ?|zac|O2 zhc ? ?|KF ( J3 ( sE hr.units ) ? ? ( J2 _ ) )|Tb ? ?|NH zh6 rfl T.z43 2 ?|zad ?|pR1 ( Tv rfl T.z46 ? )|T2 ( XI ? ? 1 hr.m pW ? )|ST|T.Pz|Rm|pcs sc.cq rfl nd rfl rfl ? 6 6 6|pTb ( Rx ? 3 )|Sd ?|KF ( J3 ( sF hr.units ) ? ? ( J2 _ ) )|Tc rfl ?|Sz|MH PySem.F.plainAttrs_list PySem.F.slot_list_append PySem.F.type_list_append zji ? ?|pEn ( zen rfl T.z41 ? )|KF ( J3 zh3 ? ? ( J2 _ ) )|pDp ( Zc ( K5 hr ) ? ? ? rfl )|PW.pt ?|O2 za3 ? ?|m9 nd rfl ( zy rfl ) ?|pMk ( zak 1 hr.m hx.passes rfl ? )|T.Px|Zg|pTr ( Vg ? 10 )|T.Qc|KF ( J3 za4 ? ? ( J2 _ ) )|KF ( J3 zh2 ? ? ( J2 _ ) )|pDn ( Zb ( K5 hr ) ? ? )|pGc ?|NI zjl rfl T.z49 2 ?|pDi ( Yz ( K5 hr ) ? ? )|sC ( nJ PR p0 ? ? ? )|Sb ? ?|Ry ?|pCh ( Vb PR PR ? ? ? )|MH PySem.F.plainAttrs_str PySem.F.slot_str_join PySem.F.type_str_join zeh ? ?|ze0 ? ? ? ?|Xh za7 ? ? ?|Xd|pPt ( Xg ? )|Zk ? ? ?|pDg ( Yy ( K5 hr ) ? ? 5 )|Sg ?|NH ( zcx rfl ) rfl T.z4z 2 ?|Sc ? ?|Rz ?|KF ( J3 p0 ? ? ( J2 _ ) )|zfm ( K5 hr ) ? rfl rfl 9 9|Zj|pTp ?|pGn ?|NI zic rfl T.z5a 2 ?|NI zh9 rfl T.z44 2 ?|pAv ( Sh ? ? )|zcv ?|nH ( sE hr.units ) ? ? ( J2 _ )|K8 hx T.z5m rfl T.z5i ?|Zh|K8 hx T.z5r rfl T.z5k ?|Ud zhd ?|zao ? 11 ?|zdy rfl rfl T.mT rfl T.z48 ?|Tg ? ?|Td ? ? qG|nH ( sF hr.units ) ? ? ( J2 _ )|Sk ? ? ?|sA ( pX 1 hr.m pW rfl ? )|MH PySem.F.plainAttrs_str PySem.F.slot_str_split PySem.F.type_str_split zjk ? ?|KF ( J3 ( rJ hr.units ) ? ? 3 )|K8 hx T.z5o rfl T.mU ?|K8 hx T.z5p rfl T.Qh ?|NI zjm rfl T.z42 2 ?|zap rfl rfl rfl rfl 8 ?|T2 ( XI ? ? 1 hr.m hx1.passes ? )|zal|ze8 ? ? ? nU|MH PySem.F.plainAttrs_list PySem.F.slot_list_extend PySem.F.type_list_extend zfa ? ?|K8 hx T.z5n rfl T.z5j ?|NH zcw rfl T.z45 2 ?|K9 T.z5g rfl|K9 T.z5e rfl|sC ( nJ PR PR ? ? ? )|K9 T.z5d rfl|pOv ?|Sj ? ?|zjo ? ?|MH PySem.F.plainAttrs_str PySem.F.slot_str_find PySem.F.type_str_find zes ? ?|ME ? ?|O2 zha ? ?|zd1 rfl T.z47 ?|NI zd2 rfl T.z40 2 ?|K9 T.z5f rfl|MH PySem.F.plainAttrs_str PySem.F.slot_str_partition PySem.F.type_str_partition zjj ? ?|zjs T.Qd rfl T.Qg ?|zjt T.Qd rfl T.Qg ? 5|K9 T.z5h rfl|Wd ? ? nU|m8 nd rfl ( zy rfl )|Zq ( K5 hr ) ? ? ? 7|Tk hx.po ? ?|pD1 ( Zp ( K5 hr ) ? ? 7 )|KF ( J3 ( zep hr.units ) ? ? 3 )|K8 hx T.z5q rfl T.Qj ?|NH ( zeq rfl ) rfl T.mT 2 ?|K8 hx T.z5s rfl T.z5l ?|MH PySem.F.plainAttrs_dict PySem.F.slot_dict_update PySem.F.type_dict_update ? ? ?|zfi ( K5 hr )|K8 hx T.z5t rfl T.Qk ?|K9 T.z5c rfl|r8 rfl T.mU rfl T.Qk|r8 rfl T.Qh rfl T.Qj|NH ? rfl T.mT 2 ?|zew rfl|Yh PySem.F.plainAttrs_dict PySem.F.slot_dict_keys PySem.F.type_dict_keys zev ?|KF ( J3 ( zju hr.units ) ? ? ( J2 _ ) )|zft hx.po rfl ? ? ?|zam rfl T.mU|Th nd rfl ? ? Tj|De rfl".splitOn "|"
local macro_rules
 |`(command|example:($v:str,$x,*):=$t:term)=>do
  let a:=x.getElems
  let i:=fun (n:Lean.Name)=>Lean.mkIdent n
  let j:=fun (k:Nat)=>i (a[k]!).raw.getId
  let [v,c]:=v.getString.splitOn " "|Lean.Macro.throwUnsupported
  let d<-(dvC dvR.toArray 99).run' c.toList
  let f<-`(fun _ _ _ _ _ $(i `E) $(i `hr) $(i `hx)=>have $(i `sc):ident:=$(j 2);have $(i `nd):ident:=$(i `sc.nd);$d)
  let u:Array Lean.Term:=#[i `P,i `w,i `mg,i `base,a[4]!,<-`($(a[3]!) $(i `K) $(i `a)),j 2,a[7]!]
  let e<-if a.size=9 then `($(i `F.oK) $u* ($(i `len):ident:=$(a[8]!)) $f) else `($(i `F.oK) $u* $f)
  return Lean.mkNullNode #[<-`(command|abbrev $(j 1):ident:Stmt:=$t),<-`(command|def $(j 2):ident:AZ $(a[6]!) $(a[5]!) (AU $(j 1)):=.go),<-`(command|def $(j 0):ident ($(i `T):ident:Txt $(i `K) $(i `mg) $(i `a)) ($(i `F):ident:Fun $(i `K) $(Lean.Syntax.mkStrLit ((v.splitOn ".").getLast!)) $(Lean.Syntax.mkStrLit v) $(j 1) $(i `f) $(i `fd)):=$e)]
example:("View.records_led_to 36Pp150maGaGncÀD50040",z10,dR,dU,tS,0,1,["self"],zyy):=BP (top 12) 1
example:("View.records_standing 36Pp150maGaGncq0S0",z11,dW,dX,tT,0,1,["self"],zyu):=BP (top 12) 2
example:("View.pieces_named 36Pp150maGaGncÀ040",z12,dY,dZ,tU,0,1,["self"],zyx):=BP (top 12) 3
example:("View.count_of 36DD5004",z13,d0,d7,tV,0,2,["self","record"],zyt):=BP (top 12) 4
example:("faults_of_names 28Kf28Kf28x2Wp150ØmÃaTÃaTÙn3Cq0S2CÁD50H0S3No01UA90F2CjÅH003No01UA90F3r0H0hF36B00",z14,d8,d9,t3,0,1,["view","lost","twice","seen","k","value"],zy7):=top 16
example:("left_pieces 2ip150maGaGncZ04036PL0GcZD5004UO990",z15,eA,eB,aN,0,1,["view","marked"],zyz):=top 21
example:("marked_records 2ip150maGaGncZ04036PL0GcÁD500SUA90",z16,eC,eD,aO,0,1,["view","marked"],zy0):=top 22
example:("tally 2id10GX42WL0T3ò004360",z17,eE,eF,aP,0,2,["many","numbers","counts","number"],zza):=top 24
example:("pieces_in 28Kf2WL0T3Cq0S3Nó01H0F360",z18,eG,eI,uE,0,1,["records","pieces","value"],zzb):=top 25
example:("Change.__init__ 2Q002Q003Q00",z19,eK,eL,uF,0,4,["self","place","value","needs"],zv2):=BP (top 33) 0
example:("Book.waiting 36Pd1b150GcjÂ0500",z2a,eO,eQ,uG,0,1,["self"],zv8):=BP (top 34) 4
example:("Book.block_of 36D5D5004",z2b,eU,eV,uH,0,2,["self","number"],zwl):=BP (top 34) 8
example:("Book.ask_for_changes 3WL0T3CkÆ40b1503ô19F",z2c,eX,eY,uK,0,2,["self","numbers","number"],zv7):=BP (top 34) 10
example:("needs_with 2CÁ0S36Ú1ä0F36Ú1äBÛ10K10",z2d,eZ,fA,VM,0,2,["needs","ahead"],zv4):=top 35
example:("Hold.lack_of 2WL5D500T3CsÇjÂ050ÈjÂ00360F36S",z2e,fB,fC,uP,0,3,["self","number","gone","need"],zwg):=BP (top 37) 2
example:("Hold.laid_over 28Û102WLD500T3CjÅ0503å5D500æ0D5D5004F360",z2f,fD,fE,uS,0,3,["self","values","block","laid","number"],zwj):=BP (top 37) 3
example:("is_sign 36ÜÉ909Ñçõ10ö",z2g,fF,fG,aQ,0,1,["sign"],zxh):=top 40
example:("is_name 36ÜÉ4b10÷ÑÒ1PÝ0GXÉ909",z2h,fH,fI,aR,0,1,["thing"],zxi):=top 44
example:("Store.hold 3650",z2i,fJ,fK,uV,0,1,["self"],zxo):=BP (top 51) 12
example:("House.plank 3650",z2j,fL,fM,uW,0,1,["self"],z0p):=BP (top 60) 1
example:("is_number 2CsÓkø4b10ùÔkyÒ1PÝ0GXÉ90936hF36úûÞ09ÑçH09",z2k,fN,fP,aS,0,1,["word"],z0q):=top 62
example:("numbers_of_writing 28b1H028b1H036ü00",z2l,fQ,fR,aT,0,1,["told","out","held"],z0r):=top 65
example:("joined_or_dash 36èÀb104Ê9109",z2m,fS,fT,aU,0,1,["parts"],z0s):=top 66
example:("Plank.__init__ 2Q0Pd10GXtU1S02Q003Q04",z2n,fU,fV,aV,0,3,["self","blocks","cells"],zvw):=BP (top 68) 0
example:("Plank.blocks 36b150",z2o,fW,fX,vE,0,1,["self"],zvx):=BP (top 68) 1
example:("Plank.cells 3650",z2p,fY,fZ,vF,0,1,["self"],zvy):=BP (top 68) 2
example:("Plank.writings 3650",z2q,f7,f8,vG,0,1,["self"],z1v):=BP (top 68) 3
example:("Plank.ask_for_block 3CkÆ40b1503ß19F",z2r,f9,gA,aW,0,2,["self","block"],zvz):=BP (top 68) 6
example:("Layout.__init__ 2Q002Q002Q003Q00",z2s,gB,gC,vI,0,5,["self","names","records","pieces","cells"],zwo):=BP (top 70) 0
example:("Layout.counts 36UOt5050t5050t5050",z2t,gD,gE,vJ,0,1,["self"],zwx):=BP (top 70) 6
example:("Layout.blocks_ahead_of_marks 36BB505050",z2u,gF,gG,vK,0,1,["self"],zwv):=BP (top 70) 9
example:("Layout.place_from 36UAB0Y050V050",z2v,gH,gJ,vL,0,3,["self","block","k"],zwp):=BP (top 70) 10
example:("_law_cell_at 2CÕ0b1036D00F364",z2w,gK,gL,aX,0,2,["script","k"],zvv):=top 72
example:("_law_names 28928928Y042Wd1B4V04T28B0D0VB0tt40VY044438BY04t4028VY04b1028D0VY04428D0VBBY044VY044428D0VBBý01D004VY044436Kþ0ËB00B00BBÌ0ÍÎ00Ì0ÎB04ÍBB000",z2x,gM,gO,aY,0,1,["cell","letters","base","rest","k","at","first","last","turned"],z05):=top 73
example:("_law_text 2u92uB0928B4V042CZVY044438ÿ4VY044F2uB4VY0442uB4VY04436Ê91Pd10GXD0VBY04t0Y004",z2y,gP,gQ,bB,0,1,["cell","signs","many","step","wide"],z08):=top 74
variable(z8l:BY P w K mg base (a "View") 1 "pieces_named" dZ (RD K a))(z8n:BY P w K mg base (a "View") 1 "records_standing" dX (U7 K a))(z8k:BY P w K mg base (a "View") 1 "count_of" d7 (U8 K a))
example:("faults_of_things 2iLM0zGcÀD5004UA902iLM0zGcÁD500SUA902iLM0zGcÕe0z10D500UA9036BB000",z2z,gR,gS,bC,1,1,["view","shared","empty","few"],zy4):=top 17
example:("faults_of_marks 2ip150maGaGncÀ0402iL0GclD5004UO9902iLM0zGclD5004UO99036B00",z20,gT,gU,bD,1,1,["view","led_to","records","pieces"],zy3):=top 18
example:("leavings_of_records 28Kf28Kf2WLM0zT28D5003CZ043No01UO9903CÀ70z1003No01UO900F36B00",z21,gW,gX,wI,1,1,["view","many","left","record","leads"],zy6):=top 20
variable(z7u:BY P w K mg base (a "Plank") 1 "blocks" fX (QK K a))
example:("Book.__init__ 2Q002Q0Kf2Q0Pd1M0gGXKf2Q0à3Q0x",z22,gY,gZ,bE,1,2,["self","plank"],zv3):=BP (top 34) 0
variable(z64:BY P w K mg base (a "Hold") 1 "ask_for_changes" eY (US K a))(z7e:BY P w K mg base (a "Hold") 1 "waiting" eQ (UT K a))
example:("Book.closure 2N70R102ux2WL0T3r00h2WĀ1M0RT3CjÅ003WL5D500T3r00hF36PLM0RGcjÅ000",z23,g7,g8,w9,1,2,["self","numbers","found","number","need"],zwd):=BP (top 34) 6
variable(z7v:BY P w K mg base (a "Plank") 1 "cells" fZ (YY K a))
example:("Book.ask_for_place 3CsÓkÆ4H0M50gÔkÆ4H0M50g3ß19F",z24,g9,hE,xA,1,2,["self","place"],zv5):=BP (top 34) 9
variable(z7a:BY P w K mg base (a "Hold") 1 "lack_of" fC (ZJ K a))
example:("Hold.outcome 28ā1028Kf28Kf2WLD500T3CsÇjÂ050ÈjÂ002870RA003CÁ0S2r00h3No0103No01UA00F36UA00",z25,hG,hR,bH,1,3,["self","block","taken","gone","out","held","number","lack"],zwi):=BP (top 37) 1
variable(z6b:CJ P w K mg base 1 "is_sign" fG (ZQ K a))
example:("is_piece 36ÜÉ4b10ĂÑÒ1PÝ0GXé10",z26,hU,hV,bI,1,1,["thing"],zxj):=top 45
variable(z59:CJ P w K mg base 1 "is_number" fP (aA K a))
example:("words_of 28Dă01942CjĄ03á19F28èZ09ê0A94ê0192Clb10ą03á19F2CsÇë0ĆÈkyE1D0â43á19F360",z27,hX,hZ,yC,1,1,["row","kind","words"],z0t):=top 61
variable(z7t:BY P w K mg base (a "Plank") 1 "ask_for_block" gA (NX K a))
example:("Plank.read 2N70g1036Û1D500",z28,iB,iC,bL,1,2,["self","block"],zv0):=BP (top 68) 4
example:("Plank.write 2N70g102Clb10503ß19F2åÚ10æ5003ć04",z29,iD,iE,bM,1,3,["self","block","values"],zv1):=BP (top 68) 5
variable(z7p:BY P w K mg base (a "Layout") 1 "place_from" gJ (MS K a))
example:("Layout.name_at 3670IA40",z3a,iF,iG,yI,1,2,["self","k"],zwq):=BP (top 70) 1
example:("Layout.record_at 3670IA500",z3b,iH,iI,yJ,1,2,["self","k"],zwr):=BP (top 70) 2
example:("Layout.piece_at 3670IAB50500",z3c,iJ,iK,yK,1,2,["self","k"],zws):=BP (top 70) 3
variable(z7k:BY P w K mg base (a "Layout") 1 "blocks_ahead_of_marks" gG (QU K a))
example:("Layout.record_mark 3670IAM0I0",z3d,iL,iN,yL,1,2,["self","k"],zwt):=BP (top 70) 4
example:("Layout.piece_mark 3670IABM0I500",z3e,iO,iP,yM,1,2,["self","k"],zwu):=BP (top 70) 5
example:("Layout.blocks 36BBM0I5050",z3f,iQ,iR,yN,1,1,["self"],zww):=BP (top 70) 7
variable(z6m:CJ P w K mg base 1 "_law_text" gQ (aF K a))
example:("_law_row 28V0428D0VY04428D0VY0442CÕ0436B90F2CZ0436BBB9090F2CZ0436B90F2CÕ0436BBB909E1Y04F2CZ0436BBB909Ä1VY044F36BBB9090",z3g,iS,iT,bN,1,2,["cell","names","kind","one","other"],z1h):=top 76
variable(z53:CJ P w K mg base 1 "faults_of_names" d9 (ZX K a))(z54:CJ P w K mg base 2 "faults_of_things" gS (ZY K a))(z52:CJ P w K mg base 2 "faults_of_marks" gU (ZZ K a))
example:("faults_in 36BBE10E10E10",z3h,iU,iV,zA,2,1,["view"],zy1):=top 15
variable(z6o:CJ P w K mg base 2 "leavings_of_records" gX (Z0 K a))(z6p:CJ P w K mg base 1 "left_pieces" eB (Z1 K a))(z6r:CJ P w K mg base 1 "marked_records" eD (Z2 K a))
example:("leavings_in 36BBE10E10E10",z3i,iW,iX,zB,2,1,["view"],zy2):=top 19
variable(z7w:BY P w K mg base (a "Plank") 2 "read" iC (LK K a))
example:("values_at 36PL0maGaGnXDe0g100",z3j,iY,iZ,zC,2,2,["plank","places"],zy9):=top 23
variable(z7r:BY P w K mg base (a "Layout") 2 "record_at" iI (G5 K a))(z7s:BY P w K mg base (a "Layout") 2 "record_mark" iN (KI K a))(z7o:BY P w K mg base (a "Layout") 2 "piece_mark" iP (KJ K a))
example:("mended_cells 2CZH092870I1H036ÖÏ0UAH0DD70g1H0H04×F2CZH0936ÖÏ70I1H04×F2CZH0936ÖÏ70I1H0SÏ70I1H04×F36ÖÏ70I1H04×",z3k,i4,i5,bO,2,3,["layout","plank","find","place"],zzw):=top 28
variable(z7x:BY P w K mg base (a "Plank") 2 "write" iE (UE K a))
example:("write_due 3Wd1M0gĈ2870g102ip10maGaGnXĉ0UA0003Cl003N70gA00F",z3l,i6,i7,bP,2,2,["plank","due","block","before","after"],zz1):=top 29
variable(z68:BY P w K mg base (a "Hold") 2 "closure" g8 (ZH K a))(z66:BY P w K mg base (a "Hold") 1 "block_of" eV (ZM K a))(z7d:BY P w K mg base (a "Hold") 2 "outcome" hR (UU K a))
example:("row_for 28Kf2ux2870R102Ċy02870R1H02No0102WLD70RA004T3r00h3iL0GcjÂ000360",z3m,i8,i9,zQ,2,2,["hold","numbers","row","taken","left","block","number"],zwn):=top 31
variable(z65:BY P w K mg base (a "Hold") 2 "ask_for_place" hE (ZG K a))
example:("Book.newest 2N70R1036ċ500",z3n,jA,jB,zR,2,2,["self","place"],zv6):=BP (top 34) 3
variable(z7b:BY P w K mg base (a "Hold") 1 "laid_over" fE (ZK K a))
example:("Hold.write 28750g102870RA0x2WLH0T3r500h2N750gA070RA00360",z3o,jC,jD,zT,2,2,["self","block","values","told","number"],zwk):=BP (top 37) 0
variable(z7j:BY P w K mg base (a "Layout") 2 "blocks" iR (N0 K a))(z8s:MM P w K mg base (a "Plank") 1 "Plank" fV (YX K a))
example:("Layout.plank 36vAM0I50",z3p,jE,jF,zU,2,1,["self"],zwy):=BP (top 70) 8
example:("_law_plank 28à2Wd1M0IT2870g103Wd1b10T3r0UA00D00360",z3q,jG,jH,z8,2,2,["layout","plank","there","block","values","k"],z09):=top 75
variable(z7l:BY P w K mg base (a "Layout") 1 "counts" gE (LN K a))(z7m:BY P w K mg base (a "Layout") 2 "name_at" iG (JK K a))(z60:CJ P w K mg base 3 "values_at" iZ (LV K a))(z7n:BY P w K mg base (a "Layout") 2 "piece_at" iK (LM K a))(z6z:CJ P w K mg base 1 "tally" eF (RC K a))(z6w:CJ P w K mg base 1 "pieces_in" eI (U6 K a))(z8m:BY P w K mg base (a "View") 1 "records_led_to" dU (ZW K a))
example:("View.__init__ 28M0I28H028H02Q0EA0Pd1H0GXe0I102Q0EA0Pd10GXe0I102Q0EA0Pd10GXe0I102Q0EA0Pd10GXe0I102Q0EA0Pd10GXe0I102Q0EA0PL50Gcq0SH02Q0EA0E1503Q0EA0E1M0z",z3r,jI,jJ,Aq,3,3,["self","layout","plank","counts","records","pieces"],zzg):=BP (top 12) 0
variable(z7c:BY P w K mg base (a "Hold") 3 "newest" jB (QX K a))(z6u:CJ P w K mg base 1 "needs_with" fA (ZF K a))(z8o:MM P w K mg base (a "Change") 1 "Change" eL (ZE K a))
example:("Book.change 2870R102N70R1028b1502No501vO00EA002NoD50H0102r5000360",z3s,jK,jL,Av,3,4,["self","place","value","needs","ahead","number"],zv9):=BP (top 34) 1
example:("Book.in_hand 2870R102CÁ0S36D750g1H0H0F365D500",z3t,jM,jN,Aw,3,2,["self","place","number"],zwf):=BP (top 34) 2
variable(z8p:MM P w K mg base (a "Hold") 2 "Hold" gZ (UR K a))
example:("Store.__init__ 2Q002Q0v103Q0x",z3u,jO,jP,Ax,3,3,["self","layout","plank"],zxp):=BP (top 51) 0
variable(z7f:BY P w K mg base (a "Hold") 3 "write" jD (ZL K a))
example:("Store.write 36750R10",z3v,jQ,jR,Ay,3,2,["self","block"],z1m):=BP (top 51) 10
variable(z6h:CJ P w K mg base 3 "_law_plank" jH (aG K a))
example:("_law_stands 2uEA0028x2Wd1DM0I4T28Ð070I103Cq0S28DÐ070I1H043r0H0Ê91PL0GXÐ0e0I10F360",z3w,jS,jT,Bh,3,2,["layout","plank","there","stands","k","cell","pieces"],z1l):=top 78
variable(z69:BY P w K mg base (a "Hold") 4 "in_hand" jN (N2 K a))
example:("lowest_with 2Wp10ØmÃaTÃaTÙn3CČ70R100360F3č19",z3x,jU,jV,Bj,4,3,["hold","places","values","k","place"],zw3):=top 49
example:("Store.name_cells 36Pd1DM50I4GXe50R1e50I10",z3y,jW,jX,bQ,4,1,["self"],zxq):=BP (top 51) 16
example:("Store.standing 36750R1750I10",z3z,jY,jZ,bR,4,2,["self","record"],zxy):=BP (top 51) 17
variable(z67:BY P w K mg base (a "Hold") 4 "change" jL (GS K a))
example:("Store.fill_cell 28K102CjÅ0503No01Ð500F36750RO750I10UA000",z30,j3,j4,bT,4,5,["self","cell","name","record","need","needs"],zx0):=BP (top 51) 18
variable(z8u:MM P w K mg base (a "View") 4 "View" jJ (RE K a))(z51:CJ P w K mg base 3 "faults_in" iV (U9 K a))(z6n:CJ P w K mg base 3 "leavings_in" iX (Z3 K a))
example:("walk 28vA0036BE10E10",z31,j5,j6,Bq,5,2,["layout","plank","view"],zzh):=top 13
example:("is_sound 36Þb1E1vA004",z32,j7,j8,bU,5,2,["layout","plank"],zzi):=top 14
variable(z6q:CJ P w K mg base 5 "lowest_with" jV (N3 K a))
example:("free_name 2id1DM0I4GXe0I1036EO00U1S",z33,j9,kA,bV,5,2,["layout","hold","places"],zw6):=top 46
example:("free_record 2id1DM0I4GXe0I1036EO00UAS4",z34,kB,kC,bW,5,2,["layout","hold","marks"],zw7):=top 47
example:("free_piece 2id1DM0I4GXe0I1036EO00UAS4",z35,kD,kE,bX,5,2,["layout","hold","marks"],zw8):=top 48
variable(z79:BY P w K mg base (a "Store") 5 "name_cells" jX (Q2 K a))
example:("Store.names 36Ď1PLM0JGcq0SH0",z36,kG,kH,bY,5,1,["self"],zxu):=BP (top 51) 7
example:("Store.cell_of 2Wp1M0JØmÃaTÃaTÙn3CsÇq0SÈZH00360F36S",z37,kJ,kK,Cd,5,2,["self","name","cell","value"],zxt):=BP (top 51) 15
variable(z8g:BY P w K mg base (a "Store") 5 "standing" jZ (JL K a))
example:("Store.recount 2870J1036750RO750I10UABH00H00",z38,kL,kM,Cj,5,4,["self","record","more","needs","value"],zx2):=BP (top 51) 20
example:("Store.regroup 36750RO750I10UAD70J10400",z39,kN,kO,bZ,5,4,["self","record","pieces","needs"],zx3):=BP (top 51) 21
example:("Store.drop_record 28D70J10428750RO750I10SK1028K102WLBPL0GXe50I10K1750I10T3No01750RO04K10360",z4a,kP,kQ,Cv,5,3,["self","record","gone","pieces","dropped","made","mark"],zx6):=BP (top 51) 22
variable(z7q:BY P w K mg base (a "Layout") 3 "plank" jF (ZB K a))(z8t:MM P w K mg base (a "Store") 4 "Store" jP (Q1 K a))
example:("House.__init__ 2Q002Q0M0I3Q0vA050",z4b,kR,kS,Cw,5,2,["self","layout"],z02):=BP (top 60) 0
variable(z6c:CJ P w K mg base 6 "is_sound" j8 (Z4 K a))(z61:CJ P w K mg base 6 "walk" j6 (N9 K a))(z6t:CJ P w K mg base 3 "mended_cells" i5 (Z5 K a))(z63:CJ P w K mg base 3 "write_due" i7 (Z6 K a))
example:("mend 2CkyEA003ď19F28EA0028à2WL0T3NĐđ01EO0002NEA00360",z4c,kU,kW,b0,6,2,["layout","plank","finds","due","find"],z0j):=top 27
variable(z58:CJ P w K mg base 1 "is_name" fI (ZR K a))(z70:BY P w K mg base (a "Store") 6 "cell_of" kK (N4 K a))
example:("Store.ask_for_new_name 2CkyÒ1PL0GXé103ì19F3Cq70J10S3Ē19F",z4d,kX,kY,cA,6,3,["self","new","given"],zxv):=BP (top 51) 13
example:("Store.record_of 2870J102CÁ0S3ì19F36DDM0J04",z4e,kZ,k9,Dc,6,2,["self","name","cell"],zxz):=BP (top 51) 14
example:("Store.empty_cell 28750RO750I170J10S02r5000360",z4f,lA,lB,cB,6,3,["self","name","needs","gone"],zx4):=BP (top 51) 19
variable(z7z:BY P w K mg base (a "Store") 7 "ask_for_new_name" kY (UZ K a))(z57:CJ P w K mg base 6 "free_record" kC (ZO K a))(z55:CJ P w K mg base 6 "free_name" kA (UX K a))(z74:BY P w K mg base (a "Store") 5 "fill_cell" j4 (U1 K a))
example:("Store.make 2N70JA0K1028EA505028EA505028750RO750I104Kf28750RO750I10UA4UfK1036KO0070JË0000",z4g,lC,lD,cC,7,2,["self","name","record","cell","mark","stands"],zx7):=BP (top 51) 1
variable(z8d:BY P w K mg base (a "Store") 7 "record_of" k9 (KL K a))(z8e:BY P w K mg base (a "Store") 6 "recount" kM (Q3 K a))
example:("Store.link 2N70JA0KA002870J1028EA50502870JO04Kf36KA070JË0000",z4h,lE,lF,cD,7,3,["self","old","new","record","cell","more"],zx8):=BP (top 51) 2
variable(z73:BY P w K mg base (a "Store") 7 "empty_cell" lB (U3 K a))(z72:BY P w K mg base (a "Store") 6 "drop_record" kQ (ZU K a))
example:("Store.cut 2870J102870JA0Kf2CÀD70J104436KA070JO0â4K10F36BK1070JA00",z4i,lG,lH,Dv,7,2,["self","name","record","gone"],zya):=BP (top 51) 3
variable(z6a:CJ P w K mg base 2 "is_piece" hV (ZS K a))(z56:CJ P w K mg base 6 "free_piece" kE (ZP K a))(z8f:BY P w K mg base (a "Store") 6 "regroup" kO (U2 K a))
example:("Store.put 2870J102CkyE103í19F28EA505028750RO750I104Kf28750RO750I100K1036KO0070JO0BD70J104U10K10",z4j,lI,lJ,Dz,7,3,["self","name","text","record","piece","mark","filled"],zyb):=BP (top 51) 4
example:("Store.take 2870J1028D70J1042CkÆ40b103í19F2870JO0BÌ0ÍÎ0Ì0ÎB04ÍKf36KA0750RO750I1D004K10",z4k,lK,lL,Ed,7,3,["self","name","at","record","pieces","without"],zye):=BP (top 51) 5
example:("Store.texts 28D70J170J10436PL0GXe50R1e50I10",z4l,lM,lN,Eg,7,2,["self","name","pieces"],zyc):=BP (top 51) 8
example:("Store.places_of 2870J1028KA750I170J10750I1036B0PLD70J104GXe50I10",z4m,lO,lP,Ek,7,2,["self","name","record","own"],zyl):=BP (top 51) 9
variable(z6s:CJ P w K mg base 7 "mend" kW (Z7 K a))
example:("come_up 2NEA0036vA00",z4n,lQ,lR,El,7,2,["layout","plank"],z0k):=top 54
variable(z76:BY P w K mg base (a "Store") 8 "link" lF (N5 K a))
example:("Store.move 2870JA002870J102870JA0K1H036B0KA070JO0â4K10",z4o,lS,lT,Ev,8,3,["self","old","new","linked","record","gone"],zyg):=BP (top 51) 6
variable(z75:BY P w K mg base (a "Store") 1 "hold" fK (ZT K a))(z8b:BY P w K mg base (a "Store") 8 "places_of" lP (ZV K a))(z6x:CJ P w K mg base 3 "row_for" i9 (ZN K a))
example:("row_to_keep 2uM0J2iL70J10GXe0R1036EA0PL0Gcq0S0",z4p,lU,lV,Ey,8,2,["store","name","hold","newest"],zym):=top 53
variable(z5z:CJ P w K mg base 8 "come_up" lR (Z8 K a))
example:("House.come_up_again 28EA50502Q0EA505036Ä1b10",z4q,lW,lX,Fb,8,1,["self","finds"],z01):=BP (top 60) 3
variable(z77:BY P w K mg base (a "Store") 8 "make" lD (Q4 K a))(z71:BY P w K mg base (a "Store") 8 "cut" lH (Q5 K a))(z8c:BY P w K mg base (a "Store") 8 "put" lJ (Q6 K a))(z8h:BY P w K mg base (a "Store") 8 "take" lL (Q7 K a))(z78:BY P w K mg base (a "Store") 9 "move" lT (Q8 K a))
example:("do_deed 28H03CZ093N70J1H03CZ093N70JAH0H03CZ093N70J1H03CZ093N70JAH0H03CZ093N70JAH0î1H03N70JAH0H0",z4r,lY,lZ,Fw,9,2,["store","words","kind"],z0v):=top 63
variable(z8j:BY P w K mg base (a "Store") 4 "write" jR (VB K a))(z6v:CJ P w K mg base 1 "numbers_of_writing" fR (VC K a))(z6y:CJ P w K mg base 9 "row_to_keep" lV (N7 K a))(z6d:CJ P w K mg base 1 "joined_or_dash" fT (RG K a))(z8i:BY P w K mg base (a "Store") 8 "texts" lN (U4 K a))(z8a:BY P w K mg base (a "Store") 6 "names" kH (UY K a))
example:("answer_of 28H02CZ0936E170J1î1H0F2CZ0936E1PLEA0H0GXÄ10F2CZ0936Ê9170J1H0F36E1M0J",z4s,l9,mB,cG,9,2,["store","words","kind"],z0y):=top 64
variable(z62:CJ P w K mg base 2 "words_of" hZ (aB K a))(z50:CJ P w K mg base 10 "do_deed" lZ (RH K a))(z7g:BY P w K mg base (a "House") 9 "come_up_again" lX (RJ K a))(z5y:CJ P w K mg base 10 "answer_of" mB (RI K a))
example:("House.say 28E102CëH0ē2NEA500369F2CZH0936M0wF36EA500",z4t,mC,mD,Gh,10,2,["self","row","words"],z00):=BP (top 60) 2
variable(z7i:BY P w K mg base (a "House") 11 "say" mD (FF K a))
example:("_law_said 28S2ï38ð0w10ãĔ38Sãĕ38Sñ360",z4u,mE,mF,Gj,11,2,["house","row","told"],z1i):=top 77
variable(z6k:CJ P w K mg base 4 "_law_stands" jT (VF K a))
example:("_law_stopped 28b1EA0028EA002CsÓl70w19Ä10ÔlEA00Kf36hF28Ê91Ėė1Ę02Cę0x389F2Cl70w19036hF2Ě0T3Cl70w1B90Ð0036hF2Wd1M0IT3Cl70w1B9Ä10936hF36h",z4v,mG,mH,Gx,11,3,["layout","house","ground","finds","stands","due","name","block"],z1t):=top 79
example:("_law_lost 2uEA002842WL0T3WLUA99T3ï3Nð0w1B00ãě3Ĝĝ4ñ36Þ0t4b1PL0GcjÂ000",z4w,mI,mJ,Hj,11,4,["house","layout","ground","names","stands","many","name","word"],z1u):=top 80
variable(z6e:CJ P w K mg base 1 "_law_cell_at" gL (ZD K a))(z8r:MM P w K mg base (a "Layout") 1 "Layout" gC (ZA K a))(z8q:MM P w K mg base (a "House") 6 "House" kS (aD K a))(z7h:BY P w K mg base (a "House") 1 "plank" fM (aC K a))(z6g:CJ P w K mg base 1 "_law_names" gO (aE K a))(z6f:CJ P w K mg base 12 "_law_lost" mJ (aK K a))(z6l:CJ P w K mg base 12 "_law_stopped" mH (VG K a))(z7y:BY P w K mg base (a "Plank") 1 "writings" f8 (UD K a))(z6i:CJ P w K mg base 2 "_law_row" iT (aI K a))(z6j:CJ P w K mg base 12 "_law_said" mF (aJ K a))
example:("law 28EA0428vËB4V04B4VY044B4VY044B4VY04428v1028M0w28E1Y042WLÌ0Î4ÍT3CZV0443CsÓkyEO000ÔkyEË000036hF3CZV04428M0g2N70w1B9Ä1VY04M0I3ClM0gB0436hF28EA0EAY0403CsÇq0SÈl0936hF36EO000",z4x,mK,Pq,cM,12,1,["script","cell","layout","house","ground","names","before","told"],z1x):=top 81
end
def z4y(b c d e g i j l n o p q r u v w x y:Addr):∃ a:Ad,a "NoBlock"=b/\a "NoChange"=c/\a "NoRoom"=d/\a "NoName"=e/\a "Twice"=g/\a "NoPiece"=i/\a "NotSound"=j/\a "NoRow"=l/\a "View"=n/\a "Change"=o/\a "Hold"=p/\a "Store"=q/\a "House"=r/\a "Plank"=u/\a "Layout"=v/\a "DEEDS"=w/\a "FORMS"=x/\a "WITH_A_NUMBER_LAST"=y :=
 {λs=>(([("NoBlock",b),("NoChange",c),("NoRoom",d),("NoName",e),("Twice",g),("NoPiece",i),("NotSound",j),("NoRow",l),("View",n),("Change",o),("Hold",p),("Store",q),("House",r),("Plank",u),("Layout",v),("DEEDS",w),("FORMS",x),("WITH_A_NUMBER_LAST",y)]:List (String × Addr)).lookup s).getD 0,rfl,rfl,rfl,rfl,rfl,rfl,rfl,rfl,rfl,rfl,rfl,rfl,rfl,rfl,rfl,rfl,rfl,rfl}
def mM(K:W.Frag):Sp:=λvs H Q _=>∃ (s:Addr) (ns:List Int),vs=[.ref s]/\SqL K H s (ns.map V.int)/\ns.length<=63/\∀ a,Q (.bl true) a
local macro_rules
 | `(tactic| injections)=>`(tactic| skip)
 | `(tactic| injections $x:ident $y*)=>`(tactic| ((first|have:=gmc (ok:=by intro _ _ F;apply $x<;>assumption)|have:=gfc (ok:=by intro _ _ F;apply $x<;>assumption)|have:=gnc (ok:=by intro _ _ F;apply $x<;>assumption));injections $y*))
def all_mk{P:bw}{w:World}{K:W.Frag}{h:Heap}{mg:Str->Option Value}{fa:Addr}{A B o j n p D I g r c b l i d x u y:Addr}{tk_MOST_FIGURES:Tok}{tk_MOST_LETTERS:Tok}{tk_MOST_PIECE_SIGNS:Tok}{tk_PERCENT:Tok}{o_DEEDS:Obj}{o_FORMS:Obj}{o_WITH_A_NUMBER_LAST:Obj}(X:K.In h)(G:h.Ns bq mg)(O:mg "law"=some (.ref fa))
  (J:GX K A "NoBlock")
  (q1:GX K B "NoChange")
  (q2:GX K o "NoRoom")
  (q3:GX K j "NoName")
  (q4:GX K n "Twice")
  (L:GX K p "NoPiece")
  (M:GX K D "NotSound")
  (N:GX K I "NoRow")
  (q8:GC K g "View")
  (q9:GC K r "Change")
  (qa:GC K c "Hold")
  (qb:GC K b "Store")
  (qc:GC K l "House")
  (qd:GC K i "Plank")
  (qe:GC K d "Layout")
  (qf:W.nsIn K bq "DEEDS"=some (some<|.ref x))
  (qg:K.lookup x=some o_DEEDS)
  (qh:T9 o_DEEDS ["make","link","cut","put","take","move"]=true)
  (qi:W.nsIn K bq "FORMS"=some (some<|.ref u))
  (qj:K.lookup u=some o_FORMS)
  (qk:(u==f_)=false)
  (ql:T8 o_FORMS OC=true)
  (qm:W.nsIn K bq "MOST_FIGURES"=some (some<|.int 3 tk_MOST_FIGURES))
  (qn:W.nsIn K bq "MOST_LETTERS"=some (some<|.int 8 tk_MOST_LETTERS))
  (qo:W.nsIn K bq "MOST_PIECE_SIGNS"=some (some<|.int 40 tk_MOST_PIECE_SIGNS))
  (qp:W.nsIn K bq "PERCENT"=some (some<|.int 37 tk_PERCENT))
  (qq:W.nsIn K bq "WITH_A_NUMBER_LAST"=some (some<|.ref y))
  (qr:K.lookup y=some o_WITH_A_NUMBER_LAST)
  (qs:T9 o_WITH_A_NUMBER_LAST ["take","write"]=true)
  (qt:W.nsIn K bq "all"=some none)
  (qu:W.nsIn K bq "dict"=some none)
  (qv:W.nsIn K bq "enumerate"=some none)
  (qw:W.nsIn K bq "int"=some none)
  (qx:W.nsIn K bq "len"=some none)
  (qy:W.nsIn K bq "list"=some none)
  (qz:W.nsIn K bq "ord"=some none)
  (U:W.nsIn K bq "range"=some none)
  (Y:W.nsIn K bq "reversed"=some none)
  (q12:W.nsIn K bq "set"=some none)
  (q13:W.nsIn K bq "sorted"=some none)
  (q14:W.nsIn K bq "str"=some none)
  (q15:W.nsIn K bq "tuple"=some none)
  (q16:GF K "law" mK)
  (_:GM K g "pieces_named" "View.pieces_named" dY)
  (_:GM K g "records_standing" "View.records_standing" dW)
  (_:GM K g "count_of" "View.count_of" d0)
  (_:GM K i "blocks" "Plank.blocks" fW)
  (_:GM K c "ask_for_changes" "Book.ask_for_changes" eX)
  (_:GM K c "waiting" "Book.waiting" eO)
  (_:GM K i "cells" "Plank.cells" fY)
  (_:GM K c "lack_of" "Hold.lack_of" fB)
  (_:GF K "is_sign" fF)
  (_:GF K "is_number" fN)
  (_:GM K i "ask_for_block" "Plank.ask_for_block" f9)
  (_:GM K d "place_from" "Layout.place_from" gH)
  (_:GM K d "blocks_ahead_of_marks" "Layout.blocks_ahead_of_marks" gF)
  (_:GF K "_law_text" gP)
  (_:GF K "faults_of_names" d8)
  (_:GF K "faults_of_things" gR)
  (_:GF K "faults_of_marks" gT)
  (_:GF K "leavings_of_records" gW)
  (_:GF K "left_pieces" eA)
  (_:GF K "marked_records" eC)
  (_:GM K i "read" "Plank.read" iB)
  (_:GM K d "record_at" "Layout.record_at" iH)
  (_:GM K d "record_mark" "Layout.record_mark" iL)
  (_:GM K d "piece_mark" "Layout.piece_mark" iO)
  (_:GM K i "write" "Plank.write" iD)
  (_:GM K c "closure" "Book.closure" g7)
  (_:GM K c "block_of" "Book.block_of" eU)
  (_:GM K c "outcome" "Hold.outcome" hG)
  (_:GM K c "ask_for_place" "Book.ask_for_place" g9)
  (_:GM K c "laid_over" "Hold.laid_over" fD)
  (_:GM K d "blocks" "Layout.blocks" iQ)
  (_:GN K i "Plank" "Plank.__init__" fU)
  (_:GM K d "counts" "Layout.counts" gD)
  (_:GM K d "name_at" "Layout.name_at" iF)
  (_:GF K "values_at" iY)
  (_:GM K d "piece_at" "Layout.piece_at" iJ)
  (_:GF K "tally" eE)
  (_:GF K "pieces_in" eG)
  (_:GM K g "records_led_to" "View.records_led_to" dR)
  (_:GM K c "newest" "Book.newest" jA)
  (_:GF K "needs_with" eZ)
  (_:GN K r "Change" "Change.__init__" eK)
  (_:GN K c "Hold" "Book.__init__" gY)
  (_:GM K c "write" "Hold.write" jC)
  (_:GF K "_law_plank" jG)
  (_:GM K c "in_hand" "Book.in_hand" jM)
  (_:GM K c "change" "Book.change" jK)
  (_:GN K g "View" "View.__init__" jI)
  (_:GF K "faults_in" iU)
  (_:GF K "leavings_in" iW)
  (_:GF K "lowest_with" jU)
  (_:GM K b "name_cells" "Store.name_cells" jW)
  (_:GM K b "standing" "Store.standing" jY)
  (_:GM K d "plank" "Layout.plank" jE)
  (_:GN K b "Store" "Store.__init__" jO)
  (_:GF K "is_sound" j7)
  (_:GF K "walk" j5)
  (_:GF K "mended_cells" i4)
  (_:GF K "write_due" i6)
  (_:GF K "is_name" fH)
  (_:GM K b "cell_of" "Store.cell_of" kJ)
  (_:GM K b "ask_for_new_name" "Store.ask_for_new_name" kX)
  (_:GF K "free_record" kB)
  (_:GF K "free_name" j9)
  (_:GM K b "fill_cell" "Store.fill_cell" j3)
  (_:GM K b "record_of" "Store.record_of" kZ)
  (_:GM K b "recount" "Store.recount" kL)
  (_:GM K b "empty_cell" "Store.empty_cell" lA)
  (_:GM K b "drop_record" "Store.drop_record" kP)
  (_:GF K "is_piece" hU)
  (_:GF K "free_piece" kD)
  (_:GM K b "regroup" "Store.regroup" kN)
  (_:GF K "mend" kU)
  (_:GM K b "link" "Store.link" lE)
  (_:GM K b "hold" "Store.hold" fJ)
  (_:GM K b "places_of" "Store.places_of" lO)
  (_:GF K "row_for" i8)
  (_:GF K "come_up" lQ)
  (_:GM K b "make" "Store.make" lC)
  (_:GM K b "cut" "Store.cut" lG)
  (_:GM K b "put" "Store.put" lI)
  (_:GM K b "take" "Store.take" lK)
  (_:GM K b "move" "Store.move" lS)
  (_:GM K b "write" "Store.write" jQ)
  (_:GF K "numbers_of_writing" fQ)
  (_:GF K "row_to_keep" lU)
  (_:GF K "joined_or_dash" fS)
  (_:GM K b "texts" "Store.texts" lM)
  (_:GM K b "names" "Store.names" kG)
  (_:GF K "words_of" hX)
  (_:GF K "do_deed" lY)
  (_:GM K l "come_up_again" "House.come_up_again" lW)
  (_:GF K "answer_of" l9)
  (_:GM K l "say" "House.say" mC)
  (_:GF K "_law_stands" jS)
  (_:GF K "_law_cell_at" gK)
  (_:GN K d "Layout" "Layout.__init__" gB)
  (_:GN K l "House" "House.__init__" kR)
  (_:GM K l "plank" "House.plank" fL)
  (_:GF K "_law_names" gM)
  (_:GF K "_law_lost" mI)
  (_:GF K "_law_stopped" mG)
  (_:GM K i "writings" "Plank.writings" f7)
  (_:GF K "_law_row" iS)
  (_:GF K "_law_said" mE)
  (q44:W.findIn K (.ref i) "contents"=some none)
  (q45:W.findIn K (.ref i) "width"=some none)
  (q46:W.findIn K (.ref i) "written"=some none)
  (q47:W.findIn K (.ref c) "ground"=some none)
  (q48:W.findIn K (.ref c) "made"=some none)
  (q49:W.findIn K (.ref c) "made_in"=some none)
  (q4a:W.findIn K (.ref c) "latest"=some none)
  (q4b:W.findIn K (.ref c) "outs"=some none)
  (q4c:W.findIn K (.ref r) "place"=some none)
  (q4d:W.findIn K (.ref r) "value"=some none)
  (q4e:W.findIn K (.ref r) "needs"=some none)
  (q4f:W.findIn K (.ref d) "name_blocks"=some none)
  (q4g:W.findIn K (.ref d) "record_blocks"=some none)
  (q4h:W.findIn K (.ref d) "piece_blocks"=some none)
  (q4i:W.findIn K (.ref d) "width"=some none)
  (q4j:W.findIn K (.ref b) "plan"=some none)
  (q4k:W.findIn K (.ref b) "book"=some none)
  (q4l:W.findIn K (.ref b) "taken_out"=some none)
  (q4m:W.findIn K (.ref g) "name_values"=some none)
  (q4n:W.findIn K (.ref g) "record_values"=some none)
  (q4o:W.findIn K (.ref g) "piece_values"=some none)
  (q4p:W.findIn K (.ref g) "record_marks"=some none)
  (q4q:W.findIn K (.ref g) "piece_marks"=some none)
  (q4r:W.findIn K (.ref g) "leads"=some none)
  (q4s:W.findIn K (.ref g) "namings"=some none)
  (q4t:W.findIn K (.ref g) "reached"=some none)
  (q4u:W.findIn K (.ref l) "plan"=some none)
  (q4v:W.findIn K (.ref l) "ground"=some none)
  (q4w:W.findIn K (.ref l) "store"=some none)
  (q4x:W.exmAny K (.ref j) [.ref j,.ref n]=some true)
  (q4y:W.exmAny K (.ref n) [.ref j,.ref n]=some true)
  (q4z:W.exmAny K (.ref p) [.ref j,.ref n]=some false)
  (q50:W.exmAny K (.ref p) [.ref p,.ref o]=some true)
  (q51:W.exmAny K (.ref o) [.ref j,.ref n]=some false)
  (q52:W.exmAny K (.ref o) [.ref p,.ref o]=some true)
  (q53:W.exmOne K (.ref j) (.ref j)=some true) :
  ∃ fd:gx,(∀ (s:π) (v:Value),xm s fd {[v],[]} [("script",v)])/\∀ base:Heap,K.In base->base.Ns bq mg->FnOk P w K mg base (EH P w) 13 fa fd ["script"] (mM K):=by
 let[a,rfl,rfl,rfl,rfl,rfl,rfl,rfl,rfl,rfl,rfl,rfl,rfl,rfl,rfl,rfl,rfl,rfl,rfl]:=z4y A B o j n p D I g r c b l i d x u y
 have T:Txt K mg a:={q9.c,qa.c,qc.c,qe.c,qd.c,qb.c,q8.c,{_,W.mg_of X G qf,rfl},{_,W.mg_of X G qi,rfl},zjp qj ql qk,{_,W.mg_of X G qm,_,rfl},{_,W.mg_of X G qn,_,rfl},{_,W.mg_of X G qo,_,rfl},W.mg_of X G J.ac,{_,W.mg_of X G J.ac,rfl},{⟨_,J.ac⟩,J.ex},W.mg_of X G q1.ac,{_,W.mg_of X G q1.ac,rfl},{⟨_,q1.ac⟩,q1.ex},W.mg_of X G q3.ac,{_,W.mg_of X G q3.ac,rfl},{⟨_,q3.ac⟩,q3.ex},W.mg_of X G L.ac,{_,W.mg_of X G L.ac,rfl},{⟨_,L.ac⟩,L.ex},W.mg_of X G q2.ac,{_,W.mg_of X G q2.ac,rfl},{⟨_,q2.ac⟩,q2.ex},W.mg_of X G N.ac,{_,W.mg_of X G N.ac,rfl},{⟨_,N.ac⟩,N.ex},W.mg_of X G M.ac,{_,W.mg_of X G M.ac,rfl},{⟨_,M.ac⟩,M.ex},{_,W.mg_of X G qp,_,rfl},W.mg_of X G q4.ac,{_,W.mg_of X G q4.ac,rfl},{⟨_,q4.ac⟩,q4.ex},{_,W.mg_of X G qq,rfl},W.mg_none_of X G qt,W.mg_none_of X G qu,W.mg_none_of X G qv,W.mg_none_of X G qw,W.mg_none_of X G qx,W.mg_none_of X G qy,W.mg_none_of X G qz,W.mg_none_of X G U,W.mg_none_of X G Y,W.mg_none_of X G q12,W.mg_none_of X G q13,W.mg_none_of X G q14,W.mg_none_of X G q15}
 have TPk:DM K a:=⟨T.Pz,q44,q45,q46⟩
 have TBk:sZ K (a "Hold") (a "Change"):=⟨T.Pw,q47,q48,q49,q4a,q4b,T.z5b,q4c,q4d,q4e⟩
 have TLy:D8 K a:=⟨T.Py,q4f,q4g,q4h,q4i⟩
 have TSt:Q0 K a:=⟨T.Qb,q4j,q4k,q4l⟩
 have TVw:TV K a:=⟨T.Qc,q4m,q4n,q4o,q4p,q4q,q4r,q4s,q4t⟩
 have THo:Z9 K a:=⟨T.Px,q4u,q4v,q4w⟩
 have EL:EL K a:={⟨TBk,TPk,TLy,TSt⟩,THo,sJ qg qh,sJ qr qs}
 have TRm:TD K a:=⟨q4x,q4y,q4z,q50,q51,q52,q53⟩
 let[fd,hb,F]:=q16.law X G O<|λz z z z z z z z=>.of_eq rfl;refine{fd,hb,λbase z z=>?_}
 injections z10 z11 z12 z13 z14 z15 z16 z17 z18 z19 z2a z2b z2c z2d z2e z2f z2g z2h z2i z2j z2k z2l z2m z2n z2o z2p z2q z2r z2s z2t
 injections z2u z2v z2w z2x z2y z2z z20 z21 z22 z23 z24 z25 z26 z27 z28 z29 z3a z3b z3c z3d z3e z3f z3g z3h z3i z3j z3k z3l z3m z3n
 injections z3o z3p z3q z3r z3s z3t z3u z3v z3w z3x z3y z3z z30 z31 z32 z33 z34 z35 z36 z37 z38 z39 z4a z4b z4c z4d z4e z4f z4g z4h
 injections z4i z4j z4k z4l z4m z4n z4o z4p z4q z4r z4s z4t z4u z4v z4w
 exact FnOk.imp (sp:=tR K a) (by apply z4x<;>assumption) (λvs H Q E ⟨s,ns,e,hs,hn,q⟩=>⟨s,ns,e,TVw,EL,TRm,hs,hn,q⟩)
def walk{l:W.OpenLaw}{q:bw}{loose:List Str}{g:(Str->Option Value)->Heap->Prop}{c:World->Heap->Prop}{d:DefRec}{K:Params->W.Frag}(i:l.most=some 63)(b:d.params.defaults=[])
  (j:∀ (w:World) (h:Heap),c w h->(K w.params).In h)
  (F:∀ (w:World) (mg:Str->Option Value) (e:Addr) (h:Heap),(K w.params).In h->h.Ns bq mg->mg d.name=some (.ref e) ->
   ∃ fd:gx,(∀ (s:π) (u:Value),xm s fd {[u],[]} [("script",u)])/\∀ base:Heap,(K w.params).In base->base.Ns bq mg->FnOk l.prog w (K w.params) mg base (EH l.prog w) 13 e fd ["script"] (mM<|K w.params)) :
  W.WalkO q loose g c l.row.toRowW d [] (λf vs=>PySem.call f vs) :=
 L2.walk_of (n:=63) (k:=13) (x:="script") (CX:=λw=>EH l.prog w) (sp:=λw=>mM<|K w.params) i (by decide) b {rfl,by decide,by decide} j F (λy y a ns o y p=>{a,ns,rfl,p,o,λy=>rfl}) λy y y y y z=>pV z
end L2
local macro_rules
 |`(command|example:=$s:str)=>do
  return Lean.mkNullNode (<-(s.getString.splitOn " "++(List.range 1113).map (s!"o_{·}")).toArray.mapM fun n=>`(command|theorem $(Lean.mkIdent (.mkSimple ("tw"++if n.front.isDigit then n else s!"{(`PySem.Challenge.cw_holdback_k73_whole_stopped_anywhere_holds++.mkSimple n:Lean.Name).hash}"))):ident:True:=⟨⟩))
namespace PySem.W.Fast
example:="tree_240 sts_449 tree_361 tree_85 12841232975448760760 sts_116 tree_47 heap_46 tree_1112 sts_131 tree_70 sts_241 sts_786 sts_176 tree_802 sts_1047 sts_191 sts_540 tree_782 heap_39 tree_860 sts_805 view_39 env_41 sts_146 tree_448 sts_362 tree_145 tree_100 sts_322 tree_160 tree_1046 sts_889 sts_49 sts_161 tree_952 heap_1113 tree_175 sts_101 tree_115 tree_888 sts_499 sts_71 sts_861 tree_130 tree_951 sts_954 sts_952 sts_86 tree_321 tree_704 tree_190 16111662466053478345 tree_539 tree_498"
end PySem.W.Fast
open PySem PySem.W PyProof.Rows
set_option Elab.async false
set_option tactic.hygienic true
set_option maxRecDepth 100000 in
set_option maxHeartbeats 0 in
theorem PySem.Challenge.cw_holdback_k73_whole_stopped_anywhere_holds : PySem.Challenge.rw_holdback_k73_whole_stopped_anywhere.Holds := by
 w_on;o_law;k_head;(case hw=>w_witness2)
 k_fill
 refine L2.walk (l:=PySem.Challenge.rw_holdback_k73_whole_stopped_anywhere) rfl rfl (λw h Y=>PySem.W.kIn_of Y) ?F
 case F =>
  intro w mg fa h KX G hmg;apply L2.all_mk KX G hmg<;>first|(apply L2.gc;(case a=>k_is);(case l=>k_is);(case c=>k_is);(case k=>k_is);(case i=>k_is))|(apply L2.GX.mk;(case ac=>k_is);(case ex=>k_exc))|(apply L2.gf;(case a=>k_is);(case l=>k_is);(case c=>k_is);(case k=>k_is))|(apply L2.gm;(case a=>k_is);(case l=>k_is);(case c=>k_is);(case k=>k_is);(case i=>k_is))|(apply L2.gn;(case a=>k_is);(case l=>k_is);(case c=>k_is);(case k=>k_is);(case i=>k_is);(case m=>k_is);(case n=>k_is);(case s=>k_is))|k_is|decide +kernel|kernel_rfl|kts_exm
